import PyProof.Rows.All
import Wide.All
import OpenK.AllK
import Wide.FinOn
import Lean
import PyProof.EqAt
import PyProof.EqKinds
import PyProof.TupleCall
import PyProof.NeKinds
import PySem.Challenge.RW_copykin_k82_shelf_refuses
open Array renaming length_toList → cq, getElem?_eq_some_iff → cu, perm_iff_toList_perm → fO, mem_toList_iff → iS, getElem?_setIfInBounds_self_of_lt → mY, find?_toList → pT, ext' → xk, forIn_toList → Hh
open Bool renaming and_eq_true → ag, false_ne_true → aB, false_eq_true → aL, or_eq_true → cC, false_and → cN, true_and → cP, not_true → d4, and_false → ee, beq_eq_decide_eq → iA, eq_iff_iff → jd, and_eq_true_iff → nO
open Classical renaming byContradiction → sV
open False renaming elim → d8
open ForInStep renaming yield → gf
open Int renaming toNat_natCast → bw, zero_add → mI, emod_nonneg → w8, fdiv_eq_ediv_of_nonneg → zb, eq_ofNat_of_zero_le → BN
open Lean.Name renaming str → cf, anonymous → zo
open List renaming getElem?_eq_getElem → ah, getD_eq_getElem?_getD → aj, length_map → av, size_toArray → ay, mem_cons → aA, mem_cons_self → aH, range → aI, mem_cons_of_mem → aJ, mem_singleton → aO, getElem?_map → aQ, lookup_cons → aT, mem_map → aV, getElem?_eq_some_iff → aY, all_eq_true → bc, mem_of_getElem? → bf, mem_append_right → bg, getElem?_cons_zero → bj, length_cons → bo, map_cons → bC, replicate → bL, not_mem_nil → bP, getElem_mem → bQ, getElem?_cons_succ → bR, any_eq_true → bS, length_eq_zero_iff → b8, lookup → cg, length_append → cm, mem_range → cw, ext_getElem → cE, nodup_cons → cO, getElem_map → cQ, append_nil → cX, map_map → di, map_congr_left → dj, mem_filter → dm, foldl_cons → dq, getElem?_eq_none → dz, length_take → dD, toArray → dF, mem_append_left → dM, take_add_one → dQ, length_range → dR, getElem_inj → d7, map_append → eD, replicate_succ → eR, take_length → eS, cons_append → eT, nil_append → fo, mem_append → fq, nodup_append → fJ, mem_iff_getElem → fQ, getElem?_append_right → fR, getElem?_range → gA, find?_cons → gN, length → gS, nodup_nil → hW, mem_iff_getElem? → iz, length_nil → jb, filter_sublist → jm, map_nil → jB, zip_cons_cons → jT, getElem?_drop → jU, filter_append → jV, pairwise_iff_getElem → kl, getElem?_append_left → km, take_sublist → kG, flatten_cons → kH, ext_getElem? → kJ, append_assoc → kK, any_cons → kX, length_singleton → mX, mem_of_mem_take → nJ, getElem?_set_ne → nK, mem_map_of_mem → o6, filterMap_cons → o7, lookup_append → ql, find?_eq_none → qm, pairwise_map → qO, any_map → qP, of_mem_zip → u6, length_eraseIdx_of_lt → xp, forIn_nil → xq, getElem?_take_of_lt → zl, all_cons → zm, take_of_length_le → BJ, pairwise_lt_range → BK, getElem?_set_self → BL, length_filter_le → DH, mem_erase_of_ne → DM, map_id → DN, getElem?_of_mem → DO, toList_toArray → Ha, perm_singleton → Hb, length_pos_iff → Hd, getElem_of_mem → He
open List.Pairwise renaming nil → iV
open List.Perm renaming refl → eH, swap → Hf
open Nat renaming le_refl → aw, ne_of_lt → aE, le_trans → aF, lt_of_lt_of_le → aZ, zero_le → bp, lt_succ_of_lt → bB, lt_succ_self → bT, le_succ_of_le → cG, ne_of_gt → cS, le_add_right → da, le_succ → dv, lt_irrefl → d5, lt_trans → fj, not_lt → fZ, le_of_not_lt → gv, not_lt_zero → gQ, le_of_lt → jS, lt_of_le_of_lt → ki, zero_add → sR, le_of_eq → sS, le_antisymm → w6, min_self → DG, add_le_add_right → G9
open Nat.succ renaming inj → o5
open Ne renaming symm → bK
open Option renaming isSome_iff_exists → ck, bind_some → eM, isSome_some → eX, map_some → iU, map_eq_some_iff → lq, getD_none → qN, isSome_none → DL
open Option.some renaming inj → aP, injEq → bx
open PyProof.Rows renaming IntsAre → b7, callWith_type1 → dJ, listUpdate_at → eU, callWith_builtin1 → gP, AllBare → mE, subscriptTail_builtinR → oW, get?_update_seq → oZ, seqEpoch_at → qA, boot_tuple → sQ, tupleItemsOf_ → sT, boot_list → sU, boot_int → tL, StrsAre → wX, entry_list_sort → AF, slot_list_sort → Dx, size_push' → Dy, subscriptTail → GZ
open PyProof.Rows.F renaming plain_set_update_loop → fm, entry_set_update_loop → kW
open PySem renaming wpAny_bind → aa, wpAny_pure → ai, starEach → aM, mainGlobals → bh, mem_of_lookup → bq, wpAny_holding → bz, SetTable → bJ, wpAny_newObj_type → bY, cellsFrom → cy, wpAny_call_entry → cF, wpAny_mono → cH, wpAny_truthy_bool → cM, codeAny_builtin → cT, compareOp → cV, wpAny_setField_rec → dc, wpAny_askSetting → dg, plainId_quiet → du, wpAny_setState_of → dy, Fin → dB, NameKind → dH, FuncData → dI, wpAny_Call_Name_kw → dN, sysModules → dO, wpAny_seqItems → dW, binaryOp → dX, wpAny_callSpecial?_slot → d3, codeAny → eE, bootBuiltins → eQ, wpAny_tryCatch → fg, scanBound → fh, wpAny_letGo → fE, wpAny_rule → fF, wpAny_pyIter_tuple → fG, wpAny_call → fH, wpAny_standAt → fP, wpAny_field → gD, strIterType → gE, codeAny_call_builtin → gF, assignEach → gG, pickOrder → gL, codeAny_mono → gM, wpAny_attempt → gX, attributeBase → gY, Within → gZ, wpAny_updateSeq → hV, excClassObj → ic, wpAny_pyIter_list → iM, wpAny_loadPart_at → iN, recursionLimit → iO, foldedSetIterable → iQ, bindArgs → iR, wpAny_isInstance → jg, wpAny_eqBool_int → jh, seqItems? → ji, sliceBounds → jP, sizeLine_eq → jQ, keywordEach → jR, wpAny_passesOwn → kg, wpAny_richCompare_same_room → kD, swapsWith → kT, noteFrame → kU, setsByText → lb, builtinsNs → lg, wpAny_of_eq → mz, fits_of_scanBound → mB, atKey_none_of_get → mC, wpAny_newList → mG, tupleKind → nu, relayAll → nv, GenState → nH, letOwnedTupleGo → oY, wpAny_setField → qw, wpAny_loadPart → qx, setField → qz, firstArgMember → qB, backToKw → qC, isInstance → tK, wpAny_typeOf → wR, standAt → wU, plainObj_wpAny_Assign_Attribute → xl, wpAny_lookBehind → yW, setFlight → yX, pastItsLine_dict → yY, onTheHeap → yZ, noFill_tuple_add → y6, checkBuiltinCall → y8, seqIndex_of → ze, richCompare → zf, codeAny_of_tree → AG, setAttr → BC, getAttr → BD, callerA → BE, UnaryOp → BF, wpAny_Name → Dw, raiseNew → Dz, isSubtype_type → DA, dictSetDefault → DB, closureFor → DC, call_meets → DD, swapsWithSole → GY, seq_tuple_add → G0, behindInMarks → G1
open PySem.Around renaming under_plainId → cb, under → zr
open PySem.AutoSeq1 renaming wpAny_loadPart' → jX
open PySem.Builtin renaming bitAnd → gT, bitXor → jo
open PySem.Builtin.Builtins renaming bindParams → eK
open PySem.Builtin.List renaming listTooLong → jc, listTouch → jW, listLengthHint → pR, listExtendWith → pS
open PySem.Builtin.SmallTypes renaming nextOf → eV
open PySem.Builtin.Str renaming occurrences → gh, strSliceIndices → qp
open PySem.Builtin.Tuple renaming tupleCompareSizes → d9
open PySem.Calls renaming call_function_entry → kj, Name_function_global → xj, spliced_cons → Hg
open PySem.Code renaming quiet_builtin → qo, isFrame → BO
open PySem.EntryCells renaming newEntry → zd
open PySem.F renaming plain_min_loop → eY, plain_max_loop → eZ, attrBase_ValueError → fk, slot_tuple_iterator_next → gw, excBase_ValueError → jl, args_tuple_add_2 → kh, entry_tuple_add → kF, slot_tuple_add → lj, slot_tuple_lt → nN, slot_dict_setdefault → sP, entry_min_loop → w9, entry_max_loop → xi, plainAttrs_list → xo, args_tuple_iterator_next_1 → zc, entry_bexc_ga → zk, entry_tuple_iterator_next → zq
open PySem.Heap renaming get?_push_of_some → af, get?_push_size → au, lt_size → ax, get?_update_other → aD, get?_update_self → bF, size_push → bN, SameBut → cR, size_update → lr, get?_none_of_le → nL, MadeExcOf → nM
open PySem.Heap.SameBut renaming update → bO
open PySem.IsL renaming update → DF
open PySem.Moved renaming trans → nG
open PySem.NameKind renaming free → bX, cell → cK
open PySem.Obj renaming mapSeq → aW, data_mapFields → ek, mapFields → eJ, isFreed_of_fields → iE, data_mapDictKeys → G8
open PySem.Paired renaming length → iy
open PySem.PassesOwn renaming leaving → BI
open PySem.PyData renaming keyHash → ak
open PySem.SeqAt.EqAt renaming str_int → zg, int_str → zh
open PySem.SetTable renaming below → cz, grown → eI, insertAt → o4, has → xm, orStandIn → BG, relaid → G3
open PySem.SetTable.below renaming go → wY
open PySem.SetTable.probe renaming go → mD
open PySem.Str renaming ofString → ao, length → y9
open PySem.Value renaming ref → aX, none → bI, type → fN, str → fY, builtin → gH, int → gO, bool → pN, float → DE
open PySem.W renaming Frag → ae, fnOf → aC, keepIn → bA, mg_of → bZ, nsIn → b9, findIn → cn, kitOne → cA, codeIn → cJ, kia_one → cW, emptyDict → de, kas_sort → dh, instObj → eA, kas_descPart → iP, kmHook → jj, callWith_K → jk, plainGet → kE, isFn → lh, makesIn → ll, lookIn → mH, plainGet_of → nz, looks_clsIn → nC, callWith_K0 → nF, looks_findIn → oX, specialIn → pO, methodObj → pP, hasDictIn → pQ, findObj → qM, takerIn → sO, kas_rev → wW, mroIn → wZ, cellsFrom_some → za, codeHd_of_K → BH, plainOver → DI, kitx_list → DJ, kitx_dict → DK, openEnds → G4, km_in_of → G5, handedIn → G6, codeHdIn → G7
open PySem.W.Hook renaming val → zi, obs → zj
open PySem.W.KasT renaming ret → qQ
open PySem.W.Looks renaming here → ma
open PySem.Walks renaming list → G2
open PySem.Within renaming cons → mW
open PySem.pickOrder renaming go → wV
open Sum renaming inr → eF, inl → eG
set_option Elab.async false
set_option linter.all false
set_option maxRecDepth 100000
set_option maxHeartbeats 0
namespace K82
open PySem PySem.Spec PySem.Calls PyProof.Rows
noncomputable def top(i:Nat):Stmt:=PySem.Challenge.pw_copykin_k82_shelf_refuses.main.body.getD i (.Pass ⟨0,0,0,0⟩)
noncomputable def cU(i j:Nat):Stmt:=match top i with
 |.ClassDef _ _ _ b .. =>b.getD j (.Pass ⟨0,0,0,0⟩)
 |s=>s
noncomputable def vw:Program:=
 {PySem.Challenge.pw_copykin_k82_shelf_refuses with main:={PySem.Challenge.pw_copykin_k82_shelf_refuses.main with body:=[top 1,top 2,top 3,top 4,top 5,top 6,top 8,top 9,top 10,top 11,top 12,top 13,top 14,top 15,top 16,top 17,top 18,top 19,top 20,top 21,top 22,top 23,top 25,top 26,top 27,top 28,top 30,top 31,top 32,top 33,top 34,top 36,top 38,top 39,top 40,top 41,top 42]}}
noncomputable def loo:List Str:=[ao "tree_trees"]
noncomputable def xt(s:Shared):Bool:=PySem.W.xlAt vw [] s&&PySem.W.recOk [] s
noncomputable def lhsA(w:World):=(G4 treeTable PySem.Challenge.pw_copykin_k82_shelf_refuses w 5032).map
 (PySem.W.openSeen vw loo (importedModules PySem.Challenge.pw_copykin_k82_shelf_refuses.main.body) xt true)
noncomputable def rhsA(_:World):=some (PySem.W.openGood vw loo)
noncomputable def seen{α:Type}(_:α):Bool:=true
theorem laidA:(seen lhsA&&seen rhsA)=true:=by k_qdec
theorem leftA(w:World):lhsA w=rhsA w:=by
 have _:=laidA;rw[PySem.W.Fast.te6560247921403954793,PySem.W.Fast.te3753609929070972173]
 kernel_rfl
theorem both{α β γ:Type}{o:Option α}{f:α->β}{g:α->γ}{a:β}{b:γ}(h:o.map f=some a)(k:o.map g=some b):(o.map fun s=>(f s,g s))=some (a,b):=by
 cases o with
 |none=>cases h
 |some x=>
  injection h with h;injection k with k;rw[<-h,<-k];rfl
end K82
namespace L2
open PySem PySem.Spec PyProof.Rows
noncomputable abbrev Key:=Sum Int Str
noncomputable def rW:Key->Value->Bool
 |.inl k,v=>Value.isInt k v
 |.inr x,v=>Value.isStrOf x v
noncomputable def keyH(w:World):Key->Int
 |.inl k=>hashInt k
 |.inr x=>hashStr w x
theorem eh:∀{k:Key}{v:Value},rW k v=true->(∃i t,k=eG i/\v=gO i t)\/(∃x t,k=eF x/\v=fY x t)
 |.inl i,v,h=>by
  obtain⟨t,e⟩:=Value.isInt_shape (k:=i) (v:=v) h;exact .inl ⟨i,t,rfl,e⟩
 |.inr x,v,h=>by
  obtain⟨t,e⟩:=Value.isStrOf_shape (x:=x) (v:=v) h;exact .inr ⟨x,t,rfl,e⟩
theorem CM(i:Int)(t:Tok):rW (.inl i) (.int i t)=true:=by simp[rW,Value.isInt]
theorem CK(x:Str)(t:Tok):rW (.inr x) (.str x t)=true:=by simp[rW,Value.isStrOf]
theorem key_ll(a b:Int):decide ((eG a:Key)=eG b)=(a==b):=by
 by_cases e:a=b
 ·subst e;simp
 ·have h:¬(eG a:Key)=eG b:=fun q=>e (eG.inj q)
  rw[decide_eq_false h];exact(beq_eq_false_iff_ne.mpr e).symm
theorem key_rr(a b:Str):decide ((eF a:Key)=eF b)=decide (a=b):=by
 by_cases e:a=b
 ·subst e;simp
 ·have h:¬(eF a:Key)=eF b:=fun q=>e (eF.inj q)
  rw[decide_eq_false h,decide_eq_false e]
theorem key_lr(a:Int)(b:Str):decide ((eG a:Key)=eF b)=false:=decide_eq_false (fun q=>nomatch q)
theorem key_rl(a:Str)(b:Int):decide ((eF a:Key)=eG b)=false:=decide_eq_false (fun q=>nomatch q)
noncomputable def bV(prog:Program)(w:World):PySem.KeyKind prog w Key where
 is:=rW
 hash:=keyH w
 inj:=fun v a b ha hb=>by
  rcases eh ha with⟨i,t,rfl,rfl⟩ |⟨x,t,rfl,rfl⟩
  ·rcases eh hb with⟨j,u,rfl,e⟩ |⟨y,u,rfl,e⟩
   ·injection e with e1 _;rw[e1]
   ·exact nomatch e
  ·rcases eh hb with⟨j,u,rfl,e⟩ |⟨y,u,rfl,e⟩
   ·exact nomatch e
   ·injection e with e1 _;rw[e1]
 byValue:=fun k v h=>by
  rcases eh h with⟨i,t,rfl,rfl⟩ |⟨x,t,rfl,rfl⟩<;>rfl
 pyHash:=fun hv h=>by
  rcases eh hv with⟨i,t,rfl,rfl⟩ |⟨x,t,rfl,rfl⟩
  ·exact wpAny_pyHash_int h
  ·exact wpAny_pyHash_str h
 eqBool:=fun hu hv h=>by
  rcases eh hu with⟨i,t,rfl,rfl⟩ |⟨x,t,rfl,rfl⟩
  ·rcases eh hv with⟨j,u,rfl,rfl⟩ |⟨y,u,rfl,rfl⟩
   ·rw[key_ll]at h;exact jh h
   ·rw[key_lr]at h;exact zh i t y u _ _ _ _ h
  ·rcases eh hv with⟨j,u,rfl,rfl⟩ |⟨y,u,rfl,rfl⟩
   ·rw[key_rl]at h;exact zg x t j u _ _ _ _ h
   ·rw[key_rr]at h;exact wpAny_eqBool_str h
 «strs»:=fun k x t v h=>by
  rcases eh h with⟨i,u,rfl,e⟩ |⟨y,u,rfl,e⟩
  ·exact nomatch e
  ·injection e with e1 _
   subst e1;cases v<;>rfl
theorem Aa(prog:Program)(w:World)(k:Key)(v:Value):(bV prog w).is k v=rW k v:=rfl
theorem lE(prog:Program)(w:World)(i:Int)(t:Tok):(bV prog w).is (.inl i) (.int i t)=true:=CM i t
theorem x9(prog:Program)(w:World)(x:Str)(t:Tok):(bV prog w).is (.inr x) (.str x t)=true:=CK x t
inductive V where
 |non|bl (b:Bool) |int (i:Int) |str (x:Str) |byt (b:Array UInt8) |flt (b:UInt64) |ref (a:Addr) |ty (n:String)
 deriving DecidableEq
noncomputable def RelV:V->Value->Prop
 |.non,u=>u=bI
 |.bl b,u=>u=pN b
 |.int i,u=>∃t,u=gO i t
 |.str x,u=>∃t,u=fY x t
 |.byt b,u=>∃t,u=Value.bytes b t
 |.flt b,u=>∃t,u=DE b t
 |.ref a,u=>u=aX a
 |.ty n,u=>u=fN n
noncomputable abbrev bM:List V->List Value->Prop:=Paired RelV
theorem bM.length{xs:List V}{us:List Value}(r:bM xs us):xs.length=us.length:=iy r
theorem bM.get:∀{xs:List V}{us:List Value}{i:Nat}{x:V},bM xs us->xs[i]? =some x->∃u,us[i]? =some u/\RelV x u
 |_,_,_,_,.nil,e=>by simp at e
 |_,_,0,_,.cons r _,e=>by simp at e;subst e;exact⟨_,rfl,r⟩
 |_,_,i+1,x,.cons _ t,e=>by
  obtain⟨u,h1,h2⟩:=bM.get (i:=i) (x:=x) t (by simpa using e);exact⟨u,by simpa using h1,h2⟩
theorem bM.set{x:V}{u:Value}(r:RelV x u):∀{xs:List V}{us:List Value}(i:Nat),bM xs us->bM (xs.set i x) (us.set i u)
 |_,_,_,.nil=>.nil
 |_,_,0,.cons _ t=>.cons r t
 |_,_,i+1,.cons q t=>.cons q (bM.set r i t)
theorem bM.append:∀{xs ys:List V}{us ws:List Value},bM xs us->bM ys ws->bM (xs++ys) (us++ws)
 |_,_,_,_,.nil,s=>s
 |_,_,_,_,.cons r t,s=>.cons r (bM.append t s)
theorem bM.take:∀{xs:List V}{us:List Value}(n:Nat),bM xs us->bM (xs.take n) (us.take n)
 |_,_,0,_=>.nil
 |_,_,_+1,.nil=>.nil
 |_,_,n+1,.cons r t=>.cons r (bM.take n t)
theorem bM.drop:∀{xs:List V}{us:List Value}(n:Nat),bM xs us->bM (xs.drop n) (us.drop n)
 |_,_,0,r=>r
 |_,_,_+1,.nil=>.nil
 |_,_,n+1,.cons _ t=>bM.drop n t
noncomputable def la:Option V->Option Value->Prop
 |some v,some u=>RelV v u
 |none,none=>True
 |_,_=>False
noncomputable def KV{κ:Type}:List (κ×V)->List (κ×Value)->Prop:=Paired fun(p:κ×V)(q:κ×Value)=>p.1=q.1/\RelV p.2 q.2
noncomputable def kV:Key->V
 |.inl i=>.int i
 |.inr x=>.str x
inductive HO where
 |lst (xs:List V)
 |tup (xs:List V)
 |dK (kvs:List (Key×V)) |dT (kvs:List (List Key×V))
 |set (S:Int->Bool) (n:Nat)
 |ins (C dx:Addr) (fs:List (Str×V))
 |own (x:Addr)
 |xd (fs:List (Str×V))
 |met (f x:Addr)
 |rng (lo hi:Int)
 |frz (o:Obj) (u:HO)
 |tbl (ps:Array Value)
 |ext (φ:Heap->Prop)
noncomputable abbrev Hp:=Addr->Option HO
noncomputable def upd(H:Hp)(a:Addr)(o:HO):Hp:=fun b=>if b=a then some o else H b
theorem aq{H:Hp}{a:Addr}{o:HO}:upd H a o a=some o:=by unfold upd;rw[if_pos rfl]
theorem aN{H:Hp}{a b:Addr}{o:HO}(h:b≠a):upd H a o b=H b:=by unfold upd;rw[if_neg h]
theorem ne_of{H:Hp}{a b:Addr}{o u:HO}(h:H a=some o)(h':H b=some u)(d:o≠u):a≠b:=by
 intro e;subst e;rw[h]at h';exact d (aP h')
theorem bG{H:Hp}{a b:Addr}{o:HO}(h:H a=some o)(h':H b=none):a≠b:=by
 intro e;subst e;rw[h]at h';cases h'
section
variable(P:Program)(w:World)
noncomputable def cZ(H:Hp)(h:Heap)(a:Addr):HO->Prop
 |.lst xs=>xs.length<=sizeLine/\∃(its:List Value)(n:Nat),bM xs its/\h.get? a=some {cls:=.type "list",data:=.seq its.toArray n}
 |.tup xs=>xs.length<=sizeLine/\∃its:List Value,bM xs its/\IsTup h a its.toArray
 |.dK kvs=>kvs.length<=sizeLine/\(a==dO)=false/\∃vs,KV kvs vs/\h.DictOf (bV P w) a vs
 |.dT kvs=>kvs.length<=sizeLine/\(a==dO)=false/\∃xs:List (List Key×Addr×Value),
   Paired (fun(p:List Key×V)(q:List Key×Addr×Value)=>p.1=q.1/\H q.2.1=some (.tup (p.1.map kV))/\RelV p.2 q.2.2) kvs xs/\
   ∃o es ep,h.get? a=some o/\o.ExactDict/\o.data=.dict es ep/\es.toList=xs.map (entryOfKey (nu (bV P w)))/\(xs.map (·.1)).Nodup
 |.set S n=>h.SetOf (intKind P w) a S n
 |.ins C dx fs=>H dx=some (.own a)/\fs.length<=1000/\dx≠a/\h.get? a=some (eA C dx)/\
   ∃mA,h.Ns1 dx mA/\(∀f,la (fs.lookup f) (mA f))/\gZ mA (fs.map (·.1))
 |.own _=>∃o,h.get? a=some o
 |.xd fs=>∃mA,h.Ns1 a mA/\∀f,la (fs.lookup f) (mA f)
 |.rng lo hi=>∃t u v,h.get? a=some {cls:=.type "range",data:=.fields #[.int lo t,.int hi u,.int 1 v]}
 |.frz o u=>h.get? a=some o/\cZ H h a u
 |.tbl ps=>h.get? a=some {cls:=.none,data:=.fields ps}
 |.met f x=>h.get? a=some (pP (.ref f) (.ref x))
 |.ext φ=>φ h/\(∃o,h.get? a=some o)/\∀h1 h2:Heap,φ h1->(∀o,h1.get? a=some o->h2.get? a=some o)->φ h2
noncomputable def HOk(H:Hp)(h:Heap):Prop:=∀a o,H a=some o->cZ P w H h a o
end
section
variable {P:Program}{w:World}{H H':Hp}{h h':Heap}{a:Addr}{o:HO}
theorem cZ.lt(x:cZ P w H h a o):a<h.objs.size:=by
 cases o with
 |lst xs=>obtain⟨_,_,_,_,e⟩:=x;exact ax e
 |tup xs=>obtain⟨_,_,_,p⟩:=x;exact p.lt
 |dK kvs=>obtain⟨_,_,_,_,o,_,_,e,_⟩:=x;exact ax e
 |dT kvs=>obtain⟨_,_,_,_,o,_,_,e,_⟩:=x;exact ax e
 |set S n=>obtain⟨o,_,_,_,e,_⟩:=x;exact ax e
 |ins C dx fs=>obtain⟨_,_,_,e,_⟩:=x;exact ax e
 |own y=>obtain⟨_,e⟩:=x;exact ax e
 |xd fs=>obtain⟨_,⟨_,_,_,e,_⟩,_⟩:=x;exact ax e
 |rng lo hi=>obtain⟨_,_,_,e⟩:=x;exact ax e
 |frz ob u=>obtain⟨e,_⟩:=x;exact ax e
 |tbl ps=>exact ax (show h.get? a=some _ from x)
 |met f y=>exact ax (show h.get? a=some _ from x)
 |ext φ=>obtain⟨_,⟨_,e⟩,_⟩:=x;exact ax e
theorem Paired.vZ{α β:Type}{F G:α->β->Prop}:∀{l₁:List α}{l₂:List β},Paired F l₁ l₂->(∀a b,F a b->G a b)->Paired G l₁ l₂
 |_,_,.nil,_=>.nil
 |_,_,.cons r t,f=>.cons (f _ _ r) (Paired.vZ t f)
theorem cZ.pb(x:cZ P w H h a o)(k:∀b u,(b=a\/H b=some (.own a))->h.get? b=some u->h'.get? b=some u)
  (ho:∀b,H b=some (.own a)->H' b=some (.own a))(ht:∀b xs,H b=some (.tup xs)->H' b=some (.tup xs)):cZ P w H' h' a o:=by
 induction o with
 |lst xs=>obtain⟨z,its,n,r,e⟩:=x;exact⟨z,its,n,r,k _ _ (.inl rfl) e⟩
 |tup xs=>obtain⟨z,its,r,ob,e,c⟩:=x;exact⟨z,its,r,ob,k _ _ (.inl rfl) e,c⟩
 |dK kvs=>obtain⟨z,y,vs,r,ob,es,ep,e,c⟩:=x;exact⟨z,y,vs,r,ob,es,ep,k _ _ (.inl rfl) e,c⟩
 |dT kvs=>
  obtain⟨z,y,xs,r,ob,es,ep,e,c⟩:=x;exact⟨z,y,xs,Paired.vZ r fun p q z=>⟨z.1,ht _ _ z.2.1,z.2.2⟩,ob,es,ep,k _ _ (.inl rfl) e,c⟩
 |set S n=>obtain⟨ob,es,ep,t,e,c⟩:=x;exact⟨ob,es,ep,t,k _ _ (.inl rfl) e,c⟩
 |ins C dx fs=>
  obtain⟨d,z,ne,e,mA,⟨od,es,ep,e2,c⟩,r⟩:=x;exact⟨ho _ d,z,ne,k _ _ (.inl rfl) e,mA,⟨od,es,ep,k _ _ (.inr d) e2,c⟩,r⟩
 |own y=>obtain⟨ob,e⟩:=x;exact⟨ob,k _ _ (.inl rfl) e⟩
 |xd fs=>obtain⟨mA,⟨od,es,ep,e,c⟩,r⟩:=x;exact⟨mA,⟨od,es,ep,k _ _ (.inl rfl) e,c⟩,r⟩
 |rng lo hi=>obtain⟨t,u,v,e⟩:=x;exact⟨t,u,v,k _ _ (.inl rfl) e⟩
 |frz ob u ih=>obtain⟨e,q⟩:=x;exact⟨k _ _ (.inl rfl) e,ih q⟩
 |tbl ps=>
  have e:h.get? a=some {cls:=.none,data:=.fields ps}:=x;show h'.get? a=some {cls:=.none,data:=.fields ps};exact k a _ (.inl rfl) e
 |met f y=>
  have e:h.get? a=some (pP (.ref f) (.ref y)):=x;show h'.get? a=some (pP (.ref f) (.ref y));exact k a _ (.inl rfl) e
 |ext φ=>obtain⟨p,⟨o,e⟩,st⟩:=x;exact⟨st _ _ p fun o q=>k _ _ (.inl rfl) q,⟨o,k _ _ (.inl rfl) e⟩,st⟩
theorem HOk.lt(x:HOk P w H h)(e:H a=some o):a<h.objs.size:=(x a o e).lt
theorem HOk.fresh(x:HOk P w H h)(e:h.objs.size<=a):H a=none:=by
 cases q:H a with
 |none=>rfl
 |some u=>exact absurd (aZ (x.lt q) e) (d5 _)
theorem HOk.kept(x:HOk P w H h)(k:∀b u,h.get? b=some u->h'.get? b=some u):HOk P w H h':=fun a o e=>
 (x a o e).pb (fun b u _ q=>k b u q) (fun _ q=>q) fun _ _ q=>q
theorem HOk.laid(x:HOk P w H h)(k:∀b u,h.get? b=some u->h'.get? b=some u)(hp:h.objs.size<=a)(new:cZ P w (upd H a o) h' a o):HOk P w (upd H a o) h':=fun b u e=>by
 have hn:=x.fresh hp;by_cases hb:b=a
 ·subst hb;rw[aq]at e;cases e;exact new
 ·rw[aN hb]at e
  exact(x b u e).pb (fun c v _ q=>k c v q) (fun c q=>by rw[aN (bG q hn)];exact q) fun c xs q=>by rw[aN (bG q hn)];exact q
end
noncomputable def Rd(H:Hp)(a:Addr)(u:HO):Prop:=H a=some u\/∃o,H a=some (.frz o u)
theorem Rd.ok{P:Program}{w:World}{H:Hp}{h:Heap}{a:Addr}{u:HO}(r:Rd H a u)(x:HOk P w H h):cZ P w H h a u:=by
 rcases r with r|⟨o,r⟩
 ·exact x a u r
 ·obtain⟨_,q⟩:=x a _ r
  exact q
noncomputable def Mut:Option HO->Prop
 |some (.lst _)=>True
 |some (.dK _)=>True
 |some (.dT _)=>True
 |some (.set _ _)=>True
 |some (.ins _ _ _)=>True
 |some (.ext _)=>True
 |_=>False
section
variable {P:Program}{w:World}{H:Hp}{h h':Heap}{x e:Addr}{o':HO}
theorem HOk.write(ok:HOk P w H h)(mu:Mut (H x))(he:e=x\/H e=some (.own x))(k:∀b u,b≠e->h.get? b=some u->h'.get? b=some u)(heo:∃u,h'.get? e=some u)
  (new:cZ P w (upd H x o') h' x o'):HOk P w (upd H x o') h':=fun b u q=>by
 have nown:∀c y,H c=some (.own y)->c≠x:=fun c y r z=>by subst z;rw[r]at mu;exact mu
 have ntup:∀c xs,H c=some (.tup xs)->c≠x:=fun c xs r z=>by subst z;rw[r]at mu;exact mu
 by_cases hb:b=x
 ·subst hb;rw[aq]at q;cases q;exact new
 ·rw[aN hb]at q
  by_cases hbe:b=e
  ·have q':H b=some (.own x):=by
    rcases he with z|z
    ·exact absurd (hbe.trans z) hb
    ·rw[hbe];exact z
   rw[q]at q';cases q';obtain⟨v,hv⟩:=heo;exact⟨v,by rw[hbe];exact hv⟩
  ·refine(ok b u q).pb (fun c v hc r=>k c v ?_ r) (fun c r=>by rw[aN (nown c b r)];exact r) fun c xs r=>by rw[aN (ntup c xs r)];exact r
   rcases hc with rfl|hc
   ·exact hbe
   ·rintro rfl
    rcases he with z|z
    ·exact nown c b hc z
    ·rw[hc]at z;cases z;exact hb rfl
end
structure Un(fs ex:List Addr)(H H':Hp)(h h':Heap):Prop where
 keep:∀b o,h.get? b=some o->H b=none->b∉fs->b∉ex->h'.get? b=some o
 slot:∀b o,h.get? b=some o->H b=none->b∈fs->b∉ex->∃sl,h'.get? b=some {o with slots:=sl}
 free:∀b o,h.get? b=some o->H b=none->b∉ex->H' b=none
 there:∀b o,h.get? b=some o->b∉ex->∃o',h'.get? b=some o'
 tups:∀b xs,H b=some (.tup xs)->H' b=some (.tup xs)
 frzs:∀b o u,H b=some (.frz o u)->H' b=some (.frz o u)
 tbls:∀b ps,H b=some (.tbl ps)->∃more,H' b=some (.tbl (ps++more))
section
variable {fs fs' ex ex':List Addr}{H H1 H2:Hp}{h h1 h2 h':Heap}{a x e:Addr}{o:HO}
theorem Un.any(u:Un fs ex H H1 h h1){b:Addr}{ob:Obj}(q:h.get? b=some ob)(n:H b=none)(hx:b∉ex):∃sl,h1.get? b=some {ob with slots:=sl}:=by
 by_cases hb:b∈fs
 ·exact u.slot b ob q n hb hx
 ·exact⟨ob.slots,u.keep b ob q n hb hx⟩
theorem Un.kept(k:∀b u,h.get? b=some u->h'.get? b=some u):Un fs ex H H h h':=
 ⟨fun b ob q _ _ _=>k b ob q,fun b ob q _ _ _=>⟨ob.slots,k b ob q⟩,fun _ _ _ n _=>n,fun b ob q _=>⟨ob,k b ob q⟩,fun _ _ q=>q,fun _ _ _ q=>q,fun _ ps q=>⟨#[],by rw[q];simp⟩⟩
theorem Un.refl:Un fs ex H H h h:=Un.kept fun _ _ q=>q
theorem Un.laid(k:∀b u,h.get? b=some u->h'.get? b=some u)(hp:h.objs.size<=a)(hn:H a=none):Un fs ex H (upd H a o) h h' where
 keep:=fun b u q _ _ _=>k b u q
 slot:=fun b u q _ _ _=>⟨u.slots,k b u q⟩
 free:=fun b u q n _=>by rw[aN (aE (aZ (ax q) hp))];exact n
 there:=fun b u q _=>⟨u,k b u q⟩
 tups:=fun b xs q=>by rw[aN (bG q hn)];exact q
 frzs:=fun b u xs q=>by rw[aN (bG q hn)];exact q
 tbls:=fun b ps q=>⟨#[],by rw[aN (bG q hn),q];simp⟩
theorem Un.write(mu:Mut (H x))(he:e=x\/H e=some (.own x))(k:∀b u,b≠e->h.get? b=some u->h'.get? b=some u)(heo:∃u,h'.get? e=some u):Un fs ex H (upd H x o) h h':=by
 have hx:∀b,H b=none->b≠x:=fun b n z=>by subst z;rw[n]at mu;exact mu
 have hb:∀b,H b=none->b≠e:=fun b n z=>by
  subst z;rcases he with r|r
  ·exact hx b n r
  ·rw[n]at r;cases r
 have hm:∀b u,H b=some u->¬Mut (some u)->b≠x:=fun b u q nm z=>by subst z;rw[q]at mu;exact nm mu
 refine⟨fun b u q n _ _=>k b u (hb b n) q,fun b u q n _ _=>⟨u.slots,k b u (hb b n) q⟩,fun b u q n _=>by rw[aN (hx b n)];exact n,fun b u q _=>?_,
  fun b xs q=>by rw[aN (hm b _ q fun z=>z)];exact q,fun b u xs q=>by rw[aN (hm b _ q fun z=>z)];exact q,fun b ps q=>⟨#[],by rw[aN (hm b _ q fun z=>z),q];simp⟩⟩
 by_cases hbe:b=e
 ·subst hbe;exact heo
 ·exact⟨u,k b u hbe q⟩
end
noncomputable def trk(h:Heap)(H:Hp):List Addr:=(aI h.objs.size).filter fun a=>(H a).isSome
noncomputable def yl(h:Heap)(H:Hp):Heap:=PySem.W.hideAll h (trk h H)
theorem CZ(h:Heap)(H:Hp):(yl h H).objs.size=h.objs.size:=PySem.W.hideAll_size _ _
theorem rZ{h:Heap}{H:Hp}{b:Addr}{o:Obj}(e:h.get? b=some o)(n:H b=none):(yl h H).get? b=some o:=
 PySem.W.hideAll_get _ e fun hm=>by
  have q:(H b).isSome=true:=(dm.mp hm).2;rw[n]at q;simp at q
theorem of_hidT{h:Heap}{H:Hp}{b:Addr}{o:Obj}(e:(yl h H).get? b=some o):h.get? b=some o/\H b=none:=by
 have e':h.get? b=some o:=PySem.W.of_hideAll (trk h H) e;refine⟨e',?_⟩;cases q:H b with
 |none=>rfl
 |some x=>
  have hm:b∈trk h H:=dm.mpr ⟨cw.mpr (ax e'),by simp[q]⟩;have z:(yl h H).get? b=none:=PySem.W.hideAll_none (trk h H) hm;rw[z]at e;cases e
structure Mod(K:ae)(mg:Str->Option Value)(base:Heap):Prop where
 kin:K.In base
 glob:base.Ns bh mg
 blt:∃mb,base.Ns lg mb/\∀x:Str,x≠"__name__"->mb x=eQ x
 nolimit:base.NoLimit
structure Cx where
 prog:Program
 w:World
 K:ae
 mg:Str->Option Value
 base:Heap
 A:Around
 N:List Str
 s₀:Shared
 H₀:Hp
 env:Env
 outer:List Env
 stack:List Env
 ex:List Addr
 fn:Str->Bool
 calm:Bool
 pn:List (Addr×Obj)
 xe:Value->Shared->Prop
noncomputable def frs(l:List Env):List Addr:=l.filterMap (·.frame)
noncomputable abbrev Cx.fs(X:Cx):List Addr:=frs X.outer
noncomputable def Vis(sc:Scope)(x:Str):Prop:=sc.names.lookup x=some .local\/sc.names.lookup x=some .cell\/sc.names.lookup x=some .free
noncomputable def Loc(sc:Scope)(x:Str):Prop:=sc.names.lookup x=some .local\/sc.names.lookup x=some .cell
noncomputable def Look(env:Env)(h:Heap)(m:Str->Option Value)(x:Str)(u:Value):Prop:=
 (env.kindOf x=some .local/\m x=some u)\/((env.kindOf x=some .cell\/env.kindOf x=some .free)/\∃c,env.cells.lookup x=some c/\h.IsCell c (some u))
structure Cx.Ok(X:Cx):Prop where
 mod:Mod X.K X.mg X.base
 kind:X.env.scope.kind=.function
 glob:X.env.globals=bh
 blt:X.env.builtins=lg
 above:X.s₀.heap.objs.size<=X.env.locals
 inj:∀x y c,X.env.cells.lookup x=some c->X.env.cells.lookup y=some c->x=y
 has:∀x,(X.env.kindOf x=some .cell\/X.env.kindOf x=some .free)->∃c,X.env.cells.lookup x=some c
 cab:∀x c,X.fn x=true->X.env.cells.lookup x=some c->X.s₀.heap.objs.size<=c
 hd:X.calm=true->X.A.handled=none
 frames:X.A.frames=some X.stack
 stk:X.stack=X.outer\/(X.stack=X.env::X.outer/\X.env.frame=some X.env.locals)
 exf:∀b∈X.ex,b≠X.env.locals/\∀x c,X.env.cells.lookup x=some c->c≠b
 bs:∀b o,X.base.get? b=some o->X.s₀.heap.get? b=some o/\X.H₀ b=none
 bsz:X.base.objs.size<=X.s₀.heap.objs.size
 noex:∀b o,X.base.get? b=some o->b∉X.ex
 exfs:∀b∈X.ex,b∉X.fs
 r9:X.s₀.heap.FunFrames X.base X.outer
 frf:∀b∈X.fs,X.H₀ b=none
structure Inv(X:Cx)(pins:List (Addr×Obj))(σ:List (Option V))(H:Hp)(s:Shared):Prop where
 ok:X.Ok
 os:s.os=X.s₀.os
 bare:mE s.gens
 base:Un X.fs X.ex X.H₀ H X.s₀.heap s.heap
 loc:∃m,s.heap.Ns X.env.locals m/\∀(i:Nat)(x:Str)(v:V),X.N[i]? =some x->σ[i]? =some (some v)->Vis X.env.scope x->∃u,RelV v u/\Look X.env s.heap m x u
 cell:∀x c,X.env.cells.lookup x=some c->∃v,s.heap.IsCell c v
 free:H X.env.locals=none
 freeC:∀x c,X.env.cells.lookup x=some c->H c=none
 pin:∀p∈X.pn++pins,s.heap.get? p.1=some p.2/\H p.1=none/\p.1≠X.env.locals/\p.1∉X.fs/\∀v,p.2.data≠.cell v
 hok:HOk X.prog X.w H s.heap
 len:σ.length=X.N.length
section
variable {X:Cx}{pins:List (Addr×Obj)}{σ:List (Option V)}{H H':Hp}{s:Shared}{h':Heap}
theorem Cx.Ok.nofr(ok:X.Ok){b:Addr}{o:Obj}(e:X.base.get? b=some o):b∉X.fs:=fun hb=>by
 have :=(ok.r9.mem hb).1
 rw[e]at this;cases this
theorem Inv.bs(I:Inv X pins σ H s):∀b o,X.base.get? b=some o->s.heap.get? b=some o/\H b=none:=fun b o e=>
 ⟨I.base.keep b o (I.ok.bs b o e).1 (I.ok.bs b o e).2 (I.ok.nofr e) (I.ok.noex b o e),I.base.free b o (I.ok.bs b o e).1 (I.ok.bs b o e).2 (I.ok.noex b o e)⟩
theorem Inv.bk(I:Inv X pins σ H s):∀b o,X.base.get? b=some o->s.heap.get? b=some o:=fun b o e=>(I.bs b o e).1
theorem Inv.mod(I:Inv X pins σ H s):Mod X.K X.mg X.base:=I.ok.mod
theorem Inv.kIn(I:Inv X pins σ H s):X.K.In s.heap:=I.ok.mod.kin.keeps I.bk
theorem Inv.nolimit(I:Inv X pins σ H s):s.heap.NoLimit:=I.ok.mod.nolimit.keeps I.bk
theorem Inv.lt(I:Inv X pins σ H s):X.env.locals<s.heap.objs.size:=let⟨_,hn,_⟩:=I.loc;hn.lt
theorem Inv.sz(I:Inv X pins σ H s):X.s₀.heap.objs.size<=s.heap.objs.size:=aF I.ok.above (jS I.lt)
theorem Inv.nofs(I:Inv X pins σ H s){a:Addr}(h:s.heap.objs.size<=a):a∉X.fs:=fun hb=>by
 obtain⟨_,o,ho,_⟩:=I.ok.r9.mem hb;exact absurd (aZ (ax ho) (aF I.sz h)) (d5 _)
theorem Inv.cne(I:Inv X pins σ H s):∀x c,X.env.cells.lookup x=some c->c≠X.env.locals:=fun x c e z=>by
 obtain⟨v,o,ho,hd⟩:=I.cell x c e;obtain⟨m,⟨o',es,ep,ho',hd',_⟩,_⟩:=I.loc;rw[z,ho']at ho;cases ho;rw[hd']at hd;cases hd
theorem Inv.r9(I:Inv X pins σ H s):s.heap.FunFrames X.base X.outer:=by
 have all:∀(l:List Env),(∀b∈frs l,b∈X.fs)->X.s₀.heap.FunFrames X.base l->s.heap.FunFrames X.base l:=by
  intro l
  induction l with
  |nil=>intro _ _;trivial
  |cons env r ih=>
   intro hs hl;obtain⟨hk,⟨L,o,hf,hn,ho,hd⟩,hr⟩:=hl;have hL:L∈X.fs:=hs L (by unfold frs;rw[o7,hf];exact aH);obtain⟨sl,e⟩:=I.base.slot L o ho (I.ok.frf L hL) hL fun z=>I.ok.exfs L z hL;exact⟨hk,⟨L,_,hf,hn,e,hd⟩,ih (fun b hb=>hs b (by unfold frs;rw[o7,hf];exact aJ _ hb)) hr⟩
 exact all X.outer (fun _ hb=>hb) I.ok.r9
theorem Inv.stack(I:Inv X pins σ H s):s.heap.FunFrames X.base X.stack:=by
 rcases I.ok.stk with e|⟨e,hf⟩
 ·rw[e];exact I.r9
 ·rw[e]
  obtain⟨m,hn,_⟩:=I.loc;refine .cons (by rw[I.ok.kind];decide) hf hn ?_ I.r9;exact nL (aF I.ok.bsz I.ok.above)
theorem Inv.zC(I:Inv X pins σ H s):∀b∈frs X.stack,b∈X.env.locals::X.fs:=fun b hb=>by
 rcases I.ok.stk with e|⟨e,hf⟩
 ·rw[e]at hb;exact aJ _ hb
 ·rw[e]at hb
  unfold frs at hb;rw[o7,hf]at hb;exact hb
theorem Inv.vh(I:Inv X pins σ H s):∀b∈frs X.stack,H b=none:=fun b hb=>by
 rcases aA.mp (I.zC b hb)with e|hb
 ·rw[e];exact I.free
 ·obtain⟨_,o,ho,_⟩:=I.ok.r9.mem hb
  exact I.base.free b o ho (I.ok.frf b hb) fun z=>I.ok.exfs b z hb
theorem Inv.step{g':Array nH}{t':Nat}{d':Drawn}{ch:List Addr}(I:Inv X pins σ H s)
  (hch:∀b∈ch,(b∈X.ex\/X.s₀.heap.objs.size<=b)/\b≠X.env.locals/\(∀x c,X.env.cells.lookup x=some c->c≠b)/\∀p∈X.pn++pins,p.1≠b)
  (keep:∀b o,b≠X.env.locals->b∉X.fs->b∉ch->s.heap.get? b=some o->H b=none->h'.get? b=some o)
  (slot:∀b o,b≠X.env.locals->b∈X.fs->b∉ch->s.heap.get? b=some o->H b=none->∃sl,h'.get? b=some {o with slots:=sl}) (free:∀b o,b∉ch->s.heap.get? b=some o->H b=none->H' b=none)
  (there:∀b o,b∉ch->s.heap.get? b=some o->∃o',h'.get? b=some o')
  (tups:∀b xs,H b=some (.tup xs)->H' b=some (.tup xs)) (frzs:∀b o u,H b=some (.frz o u)->H' b=some (.frz o u)) (tbls:∀b ps,H b=some (.tbl ps)->∃more,H' b=some (.tbl (ps++more)))
  (ns:∀m,s.heap.Ns X.env.locals m->h'.Ns X.env.locals m) (hok:HOk X.prog X.w H' h') (hg:mE g'):
  Inv X pins σ H' {s with heap:=h',gens:=g',drawn:=d',toks:=t'}:=by
 have neL:∀b o,X.s₀.heap.get? b=some o->b≠X.env.locals:=fun b o e=>aE (aZ (ax e) I.ok.above);have neC:∀b o,X.s₀.heap.get? b=some o->b∉X.ex->b∉ch:=fun b o e hx hb=>by
  rcases(hch b hb).1 with z|z
  ·exact hx z
  ·exact absurd (aZ (ax e) z) (d5 _)
 have cellK:∀x c,X.env.cells.lookup x=some c->∀v,s.heap.IsCell c v->h'.IsCell c v:=fun x c e v ⟨o,ho,hd⟩=>by
  have nch:c∉ch:=fun z=>(hch c z).2.2.1 x c e rfl;by_cases hc:c∈X.fs
  ·obtain⟨sl,q⟩:=slot c o (I.cne x c e) hc nch ho (I.freeC x c e)
   exact⟨_,q,hd⟩
  ·exact⟨o,keep c o (I.cne x c e) hc nch ho (I.freeC x c e),hd⟩
 refine⟨I.ok,I.os,hg,⟨fun b o e n hb hx=>?_,fun b o e n hb hx=>?_,fun b o e n hx=>?_,fun b o e hx=>?_,fun b xs e=>tups b xs (I.base.tups b xs e),fun b o xs e=>frzs b o xs (I.base.frzs b o xs e),fun b ps e=>?_⟩,?_,fun x c e=>?_,?_,fun x c e=>?_,fun p hp=>?_,hok,I.len⟩
 ·exact keep b o (neL b o e) hb (neC b o e hx) (I.base.keep b o e n hb hx) (I.base.free b o e n hx)
 ·obtain⟨sl,e1⟩:=I.base.slot b o e n hb hx
  obtain⟨sl',e2⟩:=slot b _ (neL b o e) hb (neC b o e hx) e1 (I.base.free b o e n hx);exact⟨sl',e2⟩
 ·obtain⟨o',e1⟩:=I.base.there b o e hx
  exact free b o' (neC b o e hx) e1 (I.base.free b o e n hx)
 ·obtain⟨o',e1⟩:=I.base.there b o e hx
  exact there b o' (neC b o e hx) e1
 ·obtain⟨m1,e1⟩:=I.base.tbls b ps e
  obtain⟨m2,e2⟩:=tbls b _ e1;exact⟨m1++m2,by rw[e2,Array.append_assoc]⟩
 ·obtain⟨m,hn,hl⟩:=I.loc
  refine⟨m,ns m hn,fun i x v e1 e2 e3=>?_⟩;obtain⟨u,r,l⟩:=hl i x v e1 e2 e3;refine⟨u,r,?_⟩;rcases l with l|⟨k,c,e,z⟩
  ·exact .inl l
  ·exact .inr ⟨k,c,e,cellK x c e _ z⟩
 ·obtain⟨v,z⟩:=I.cell x c e
  exact⟨v,cellK x c e v z⟩
 ·obtain⟨m,⟨o,_,_,ho,_⟩,_⟩:=I.loc
  exact free _ o (fun z=>(hch _ z).2.1 rfl) ho I.free
 ·obtain⟨v,o,ho,hd⟩:=I.cell x c e
  exact free c o (fun z=>(hch c z).2.2.1 x c e rfl) ho (I.freeC x c e)
 ·obtain⟨e,n,ne,nf,d⟩:=I.pin p hp
  have nch:p.1∉ch:=fun z=>(hch p.1 z).2.2.2 p hp rfl;exact⟨keep p.1 p.2 ne nf nch e n,free p.1 p.2 nch e n,ne,nf,d⟩
theorem Inv.un{t':Nat}(I:Inv X pins σ H s)(u:Un X.fs [] H H' s.heap h')(hok:HOk X.prog X.w H' h'):Inv X pins σ H' {s with heap:=h',toks:=t'}:=by
 obtain⟨m,⟨o,es,ep,ho,r⟩,_⟩:=id I.loc;obtain⟨sl,hL⟩:=u.any ho I.free (by simp);exact I.step (g':=s.gens) (d':=s.drawn) (ch:=[]) (fun _ z=>nomatch z) (fun b o _ hb _ e n=>u.keep b o e n hb (by simp)) (fun b o _ hb _ e n=>u.slot b o e n hb (by simp)) (fun b o _ e n=>u.free b o e n (by simp)) (fun b o _ e=>u.there b o e (by simp)) u.tups u.frzs u.tbls (fun m' hm=>by
  obtain⟨o',es',ep',ho',r'⟩:=hm;rw[ho]at ho';cases ho';exact⟨_,es',ep',hL,r'⟩) hok I.bare
theorem Inv.call{g':Array nH}{t':Nat}{d':Drawn}{ch:List Addr}(I:Inv X pins σ H s)(u:Un (frs X.stack) ch H H' s.heap h')(hok:HOk X.prog X.w H' h')(hg:mE g')
  (hch:∀b∈ch,(b∈X.ex\/X.s₀.heap.objs.size<=b)/\b≠X.env.locals/\(∀x c,X.env.cells.lookup x=some c->c≠b)/\∀p∈X.pn++pins,p.1≠b):
  Inv X pins σ H' {s with heap:=h',gens:=g',drawn:=d',toks:=t'}:=by
 obtain⟨m,⟨o,es,ep,ho,r⟩,_⟩:=id I.loc;obtain⟨sl,hL⟩:=u.any ho I.free fun z=>(hch _ z).2.1 rfl;exact I.step (ch:=ch) hch (fun b o hL hb hc e n=>u.keep b o e n (fun z=>(aA.mp (I.zC b z)).elim hL hb) hc) (fun b o _ _ hc e n=>u.any e n hc) (fun b o hc e n=>u.free b o e n hc) (fun b o hc e=>u.there b o e hc) u.tups u.frzs u.tbls (fun m' hm=>by
  obtain⟨o',es',ep',ho',r'⟩:=hm;rw[ho]at ho';cases ho';exact⟨_,es',ep',hL,r'⟩) hok hg
theorem Inv.turned{t':Nat}{it:Addr}(I:Inv X pins σ H s)(k:∀b o,b≠it->s.heap.get? b=some o->h'.get? b=some o)(hn:H it=none)(hL:it≠X.env.locals)
  (h1:it∈X.ex\/X.s₀.heap.objs.size<=it)(h2:∀x c,X.env.cells.lookup x=some c->c≠it)(h3:∀p∈X.pn++pins,p.1≠it):Inv X pins σ H {s with heap:=h',toks:=t'}:=by
 have nit:∀b u,H b=some u->b≠it:=fun b u e z=>by rw[z,hn]at e;cases e
 refine I.step (g':=s.gens) (d':=s.drawn) (ch:=[it]) (fun b hb=>?_) (fun b o _ _ hc e _=>k b o (fun z=>hc (by simp[z])) e) (fun b o _ _ hc e _=>⟨o.slots,k b o (fun z=>hc (by simp[z])) e⟩) (fun _ _ _ _ n=>n)
  (fun b o hc e=>⟨o,k b o (fun z=>hc (by simp[z])) e⟩) (fun _ _ e=>e) (fun _ _ _ e=>e) (fun b ps e=>⟨#[],by rw[e];simp⟩) (fun m hm=>?_) (fun b u e=>?_) I.bare
 ·have e:b=it:=by simpa using hb
  subst e;exact⟨h1,hL,h2,h3⟩
 ·obtain⟨o,es,ep,ho,r⟩:=hm
  exact⟨o,es,ep,k _ o (bK hL) ho,r⟩
 ·refine(I.hok b u e).pb (fun c v hc q=>k c v ?_ q) (fun _ q=>q) fun _ _ q=>q
  rcases hc with z|z
  ·rw[z];exact nit b u e
  ·exact nit c _ z
theorem Inv.tok(I:Inv X pins σ H s)(t:Nat):Inv X pins σ H {s with toks:=t}:=I.un (h':=s.heap) (t':=t) Un.refl I.hok
theorem Inv.kept{t':Nat}(I:Inv X pins σ H s)(k:∀b u,s.heap.get? b=some u->h'.get? b=some u):Inv X pins σ H {s with heap:=h',toks:=t'}:=I.un (Un.kept k) (I.hok.kept k)
theorem Inv.laid{a:Addr}{o:HO}{t':Nat}(I:Inv X pins σ H s)(k:∀b u,s.heap.get? b=some u->h'.get? b=some u)(hp:s.heap.objs.size<=a)(new:cZ X.prog X.w (upd H a o) h' a o):
  Inv X pins σ (upd H a o) {s with heap:=h',toks:=t'}:=I.un (Un.laid k hp (I.hok.fresh hp)) (I.hok.laid k hp new)
theorem Inv.write{x e:Addr}{o:HO}{t':Nat}(I:Inv X pins σ H s)(mu:Mut (H x))(he:e=x\/H e=some (.own x))(k:∀b u,b≠e->s.heap.get? b=some u->h'.get? b=some u)(heo:∃u,h'.get? e=some u)
  (new:cZ X.prog X.w (upd H x o) h' x o):Inv X pins σ (upd H x o) {s with heap:=h',toks:=t'}:=I.un (Un.write mu he k heo) (I.hok.write mu he k heo new)
theorem Inv.vI{pins':List (Addr×Obj)}(I:Inv X pins σ H s)(h:∀p∈pins',s.heap.get? p.1=some p.2/\H p.1=none/\p.1≠X.env.locals/\p.1∉X.fs/\∀v,p.2.data≠.cell v):Inv X pins' σ H s:=
 ⟨I.ok,I.os,I.bare,I.base,I.loc,I.cell,I.free,I.freeC,fun p hp=>(fq.mp hp).elim (fun z=>I.pin p (dM _ z)) (h p),I.hok,I.len⟩
theorem rK{N:List Str}(hN:N.Nodup){i j:Nat}{x:Str}(a:N[i]? =some x)(b:N[j]? =some x):i=j:=by
 obtain⟨h1,e1⟩:=aY.mp a;obtain⟨h2,e2⟩:=aY.mp b;exact(d7 hN).mp (e1.trans e2.symm)
theorem BZ{M:Model}{A:Around}{E:Value->Shared->Prop}{i:Nat}{x:Str}{v:V}{u:Value}{Q:Unit->Shared->Prop}(I:Inv X pins σ H s)(hN:X.N.Nodup)(hi:X.N[i]? =some x)(hx:Loc X.env.scope x)(r:RelV v u)
  (h:∀s',Inv X pins (σ.set i (some v)) H s'->(∃a,cR a s.heap s'.heap/\(a=X.env.locals\/X.env.cells.lookup x=some a))->Q () s')(hf:X.fn x=true\/X.env.scope.names.lookup x=some .local:=by first |exact .inl rfl|exact .inr rfl|assumption):wpAny M A (storeName X.env x u) Q E s:=by
 obtain⟨m,hn,hl⟩:=id I.loc;have hcls:(X.env.scope.kind== .class||(X.env.scope.kind== .module&&X.env.locals != X.env.globals))=false:=by rw[I.ok.kind];rfl
 have hiσ:i<σ.length:=by rw[I.len];exact(aY.mp hi).1
 have cne:=I.cne;have tracked:∀{a:Addr}{h':Heap},(∃o,s.heap.get? a=some o/\H a=none)->cR a s.heap h'->HOk X.prog X.w H h':=fun{a h'} ha hs b ob e=>by
  obtain⟨_,_,hfree⟩:=ha;refine(I.hok b ob e).pb (fun c w' hc q=>(hs.2 c ?_).trans q) (fun _ q=>q) fun _ _ q=>q;rintro rfl;rcases hc with rfl|hc
  ·rw[hfree]at e;cases e
  ·rw[hfree]at hc;cases hc
 rcases hx with hk|hk
 ·refine wpAny_storeName_local hk hn (fun h' hn' hs=>?_) hcls
  obtain⟨oL,_,_,hoL,_⟩:=id hn;refine h _ ⟨I.ok,I.os,I.bare,⟨fun b o e n hb hx=>?_,fun b o e n hb hx=>?_,I.base.free,fun b o e hx=>?_,I.base.tups,I.base.frzs,I.base.tbls⟩,⟨_,hn',fun j y v' e1 e2 e3=>?_⟩,fun y c e=>?_,I.free,I.freeC,fun p hp=>?_,tracked ⟨oL,hoL,I.free⟩ hs,by simpa using I.len⟩ ⟨_,hs,.inl rfl⟩
  ·exact(hs.2 b (aE (aZ (ax e) I.ok.above))).trans (I.base.keep b o e n hb hx)
  ·obtain⟨sl,e1⟩:=I.base.slot b o e n hb hx
   exact⟨sl,(hs.2 b (aE (aZ (ax e) I.ok.above))).trans e1⟩
  ·obtain⟨o',e1⟩:=I.base.there b o e hx
   exact⟨o',(hs.2 b (aE (aZ (ax e) I.ok.above))).trans e1⟩
  ·by_cases hj:j=i
   ·subst hj
    rw[hi]at e1;cases e1;rw[BL hiσ]at e2;cases e2;exact⟨u,r,.inl ⟨hk,by simp⟩⟩
   ·rw[nK (bK hj)]at e2
    obtain⟨u',r',q⟩:=hl j y v' e1 e2 e3;refine⟨u',r',?_⟩;rcases q with⟨k,e⟩ |⟨k,c,e,z⟩
    ·refine .inl ⟨k,?_⟩
     have :y≠x:=fun e=>hj (rK hN e1 (e▸hi));simp[this,e]
    ·exact .inr ⟨k,c,e,z.sameBut hs (cne y c e)⟩
  ·obtain⟨w',z⟩:=I.cell y c e
   exact⟨w',z.sameBut hs (cne y c e)⟩
  ·obtain⟨e,n,ne,nf,d⟩:=I.pin p hp
   exact⟨(hs.2 p.1 ne).trans e,n,ne,nf,d⟩
 ·have hfn:X.fn x=true:=by
   rcases hf with z|z
   ·exact z
   ·rw[z]at hk;cases hk
  obtain⟨c,hc⟩:=I.ok.has x (.inl hk);obtain⟨w',z⟩:=I.cell x c hc;refine wpAny_storeName_cell I.ok.kind hk hc z (fun h' hc' hs=>?_);obtain⟨oc,hoc,hocd⟩:=id z;refine h {s with heap:=h'} ⟨I.ok,I.os,I.bare,⟨fun b o e n hb hx=>?_,fun b o e n hb hx=>?_,I.base.free,fun b o e hx=>?_,I.base.tups,I.base.frzs,I.base.tbls⟩,⟨m,hn.sameBut hs (bK (cne x c hc)),fun j y v' e1 e2 e3=>?_⟩,fun y c' e=>?_,I.free,I.freeC,fun p hp=>?_,tracked ⟨oc,hoc,I.freeC x c hc⟩ hs,by simpa using I.len⟩ ⟨c,hs,.inr hc⟩
  ·exact(hs.2 b (aE (aZ (ax e) (I.ok.cab x c hfn hc)))).trans (I.base.keep b o e n hb hx)
  ·obtain⟨sl,e1⟩:=I.base.slot b o e n hb hx
   exact⟨sl,(hs.2 b (aE (aZ (ax e) (I.ok.cab x c hfn hc)))).trans e1⟩
  ·obtain⟨o',e1⟩:=I.base.there b o e hx
   exact⟨o',(hs.2 b (aE (aZ (ax e) (I.ok.cab x c hfn hc)))).trans e1⟩
  ·by_cases hj:j=i
   ·subst hj
    rw[hi]at e1;cases e1;rw[BL hiσ]at e2;cases e2;exact⟨u,r,.inr ⟨.inl hk,c,hc,hc'⟩⟩
   ·rw[nK (bK hj)]at e2
    obtain⟨u',r',q⟩:=hl j y v' e1 e2 e3;refine⟨u',r',?_⟩;rcases q with q|⟨k,c',e,z'⟩
    ·exact .inl q
    ·refine .inr ⟨k,c',e,z'.sameBut hs ?_⟩
     rintro rfl;exact hj (rK hN e1 (I.ok.inj _ _ _ e hc▸hi))
  ·by_cases hcc:c'=c
   ·subst hcc;exact⟨_,hc'⟩
   ·obtain⟨w2,z2⟩:=I.cell y c' e
    exact⟨w2,z2.sameBut hs hcc⟩
  ·obtain⟨e,n,ne,nf,d⟩:=I.pin p hp
   refine⟨(hs.2 p.1 ?_).trans e,n,ne,nf,d⟩;intro q;rw[q,hoc]at e;have q':oc=p.2:=aP e;exact d w' (by rw[<-q'];exact hocd)
theorem qY{M:Model}{A:Around}{E:Value->Shared->Prop}{i:Nat}{x:Str}{v:V}{u:Value}{Q:Unit->Shared->Prop}(I:Inv X pins σ H s)(hN:X.N.Nodup)(hi:X.N[i]? =some x)(hx:Loc X.env.scope x)(r:RelV v u)
  (h:∀s',Inv X pins (σ.set i (some v)) H s'->Q () s')(hf:X.fn x=true\/X.env.scope.names.lookup x=some .local:=by first |exact .inl rfl|exact .inr rfl|assumption):wpAny M A (storeName X.env x u) Q E s:=
 BZ I hN hi hx r (fun s' I' _=>h s' I') hf
theorem Inv.call'{s':Shared}{ch:List Addr}(I:Inv X pins σ H s)(ho:s'.os=s.os)(u:Un (frs X.stack) ch H H' s.heap s'.heap)(hok:HOk X.prog X.w H' s'.heap)(hg:mE s'.gens)
  (hch:∀b∈ch,(b∈X.ex\/X.s₀.heap.objs.size<=b)/\b≠X.env.locals/\(∀x c,X.env.cells.lookup x=some c->c≠b)/\∀p∈X.pn++pins,p.1≠b):Inv X pins σ H' s':=by
 obtain⟨h',g',d',t',o'⟩:=s';have e:o'=s.os:=ho;subst e;exact I.call (g':=g') (t':=t') (d':=d') u hok hg hch
end
noncomputable abbrev XK:=Value->Option Addr->Hp->Prop
noncomputable abbrev St:=List (Option V)
noncomputable abbrev VK:=V->Hp->Prop
noncomputable abbrev TE:=St->Hp->VK->Prop
noncomputable abbrev TT:=St->Hp->(Bool->Hp->Prop)->Prop
noncomputable abbrev TA:=St->Hp->(List V->Hp->Prop)->Prop
structure Ends where
 nx:St->Hp->Prop
 rt:VK
 bk:St->Hp->Prop:=fun _ _=>False
 ct:St->Hp->Prop:=fun _ _=>False
noncomputable abbrev TS:=Ends->St->Hp->Prop
noncomputable def EP(X:Cx)(pins:List (Addr×Obj))(σ:St)(Q:VK)(u:Value)(s':Shared):Prop:=∃v H',Inv X pins σ H' s'/\RelV v u/\Q v H'
noncomputable def TP(X:Cx)(pins:List (Addr×Obj))(σ:St)(Q:Bool->Hp->Prop)(b:Bool)(s':Shared):Prop:=∃H',Inv X pins σ H' s'/\Q b H'
noncomputable def AP(X:Cx)(pins:List (Addr×Obj))(σ:St)(Q:List V->Hp->Prop)(us:List Value)(s':Shared):Prop:=∃vs H',Inv X pins σ H' s'/\bM vs us/\Q vs H'
noncomputable def SP(X:Cx)(pins:List (Addr×Obj))(D:Ends)(f:Flow)(s':Shared):Prop:=
 match f with
 |.next=>∃σ' H',Inv X pins σ' H' s'/\D.nx σ' H'
 |.brk=>∃σ' H',Inv X pins σ' H' s'/\D.bk σ' H'
 |.cont=>∃σ' H',Inv X pins σ' H' s'/\D.ct σ' H'
 |.ret u=>∃v σ' H',Inv X pins σ' H' s'/\RelV v u/\D.rt v H'
noncomputable def PE(X:Cx)(e:Expr)(t:TE):Prop:=
 ∀(pins:List (Addr×Obj))(s:Shared)(σ:St)(H:Hp)(Q:VK),Inv X pins σ H s->t σ H Q->wpAny (model X.prog X.w) X.A (eval e X.env) (EP X pins σ Q) X.xe s
noncomputable def PT(X:Cx)(e:Expr)(t:TT):Prop:=
 ∀(pins:List (Addr×Obj))(s:Shared)(σ:St)(H:Hp)(Q:Bool->Hp->Prop),Inv X pins σ H s->t σ H Q->wpAny (model X.prog X.w) X.A (isTrue e X.env (eval e X.env)) (TP X pins σ Q) X.xe s
noncomputable def PW(X:Cx)(e:Expr)(t:TT):Prop:=
 ∀(whole:Sem Value)(pins:List (Addr×Obj))(s:Shared)(σ:St)(H:Hp)(Q:Bool->Hp->Prop),Inv X pins σ H s->t σ H Q->wpAny (model X.prog X.w) X.A (isTrue e X.env whole) (TP X pins σ Q) X.xe s
theorem PW.pt{X:Cx}{e:Expr}{t:TT}(h:PW X e t):PT X e t:=h _
noncomputable def PA(X:Cx)(es:List Expr)(t:TA):Prop:=
 ∀(pos:Pos)(pins:List (Addr×Obj))(s:Shared)(σ:St)(H:Hp)(Q:List V->Hp->Prop),Inv X pins σ H s->t σ H Q->wpAny (model X.prog X.w) X.A (spliced (backTo pos (aM es X.env))) (AP X pins σ Q) X.xe s
noncomputable def PS(X:Cx)(st:Stmt)(t:TS):Prop:=
 ∀(pins:List (Addr×Obj))(s:Shared)(σ:St)(H:Hp)(D:Ends),Inv X pins σ H s->t D σ H->wpAny (model X.prog X.w) X.A (exec st X.env) (SP X pins D) X.xe s
noncomputable def PSs(X:Cx)(st:List Stmt)(t:TS):Prop:=
 ∀(pins:List (Addr×Obj))(s:Shared)(σ:St)(H:Hp)(D:Ends),Inv X pins σ H s->t D σ H->wpAny (model X.prog X.w) X.A (execs st X.env) (SP X pins D) X.xe s
theorem thn{α:Type}{t:Sem α}{Q Q':α->Shared->Prop}{M:Model}{A:Around}{E:Value->Shared->Prop}{s:Shared}(h:wpAny M A t Q E s)(hQ:∀a s,Q a s->Q' a s):wpAny M A t Q' E s:=cH h hQ fun _ _ x=>x
section
variable {X:Cx}
noncomputable def iF(i:Nat):TE:=fun σ H Q=>∃v,σ[i]? =some (some v)/\Q v H
noncomputable def tC(v:V):TE:=fun _ H Q=>Q v H
theorem zU{i:Nat}{x:Str}{pos:Pos}(hN:X.N[i]? =some x)(hv:Vis X.env.scope x)(hd:(x==("__debug__":Str))=false:=by decide) (hcd:(x==("__classdict__":Str))=false:=by decide):PE X (.Name x pos) (iF i):=by
 intro pins s σ H Q I h;obtain⟨v,e,h⟩:=h;obtain⟨m,hn,hl⟩:=I.loc;obtain⟨u,r,l⟩:=hl i x v hN e hv;have fin:EP X pins σ Q u s:=⟨v,H,I,r,h⟩;rcases l with⟨hk,hm⟩ |⟨hk,c,hc,hcell⟩
 ·exact Dw (wpAny_loadName_local I.ok.kind hk hn hm fin) hd
 ·rcases hk with hk|hk
  ·exact Dw (wpAny_loadName_cell I.ok.kind hk hc hcell fin) hd
  ·exact Dw (wpAny_loadName_free I.ok.kind hk hc hcell fin hcd) hd
theorem Fb{i j pos}:PE X (.Constant (.int i) j pos) (tC (.int i)):=fun _ _ _ H _ I h=>wpAny_Constant_int ⟨.int i,H,I.tok _,⟨_,rfl⟩,h⟩
theorem pe_bl{b j pos}:PE X (.Constant (.bool b) j pos) (tC (.bl b)):=fun _ _ _ H _ I h=>Constant_bool ⟨.bl b,H,I,rfl,h⟩
theorem E6{j pos}:PE X (.Constant .none j pos) (tC .non):=fun _ _ _ H _ I h=>Constant_none ⟨.non,H,I,rfl,h⟩
theorem E2{x j pos}:PE X (.Constant (.str x) j pos) (tC (.str x)):=fun _ _ _ H _ I h=>Calls.Constant_str ⟨.str x,H,I.tok _,⟨_,rfl⟩,h⟩
noncomputable def Gl(X:Cx)(x:Str):Prop:=X.env.kindOf x=some .globalImplicit
theorem jt{E:Value->Shared->Prop}{pins:List (Addr×Obj)}{s:Shared}{σ:St}{H:Hp}{x:Str}{u:Value}{pos:Pos}{Q:Value->Shared->Prop}(I:Inv X pins σ H s)(hg:Gl X x)(hm:X.mg x=some u)(h:Q u s)
  (hd:(x==("__debug__":Str))=false:=by decide):wpAny (model X.prog X.w) X.A (eval (.Name x pos) X.env) Q E s:=
 xj I.ok.kind hg (Calls.loadGlobal_global (by rw[I.ok.glob];exact I.mod.glob.keeps I.bk) hm h) hd
theorem kz{E:Value->Shared->Prop}{pins:List (Addr×Obj)}{s:Shared}{σ:St}{H:Hp}{x:Str}{u:Value}{pos:Pos}{Q:Value->Shared->Prop}(I:Inv X pins σ H s)(hg:Gl X x)(hm:X.mg x=none)(hv:eQ x=some u)(h:Q u s)
  (hn:x≠"__name__":=by decide) (hd:(x==("__debug__":Str))=false:=by decide):wpAny (model X.prog X.w) X.A (eval (.Name x pos) X.env) Q E s:=by
 obtain⟨mb,h1,h2⟩:=I.mod.blt;exact xj I.ok.kind hg (Calls.loadGlobal_builtin (by rw[I.ok.glob];exact I.mod.glob.keeps I.bk) hm (by rw[I.ok.blt];exact h1.keeps I.bk) ((h2 x hn).trans hv) h) hd
theorem vK{x:Str}{v:V}{u:Value}{pos:Pos}(hg:Gl X x)(hm:X.mg x=some u)(r:RelV v u)(hd:(x==("__debug__":Str))=false:=by decide):PE X (.Name x pos) (tC v):=
 fun _ _ _ H _ I h=>jt I hg hm ⟨v,H,I,r,h⟩ hd
theorem A6{x:Str}{v:V}{u:Value}{pos:Pos}(hg:Gl X x)(hm:X.mg x=none)(hv:eQ x=some u)(r:RelV v u)(hn:x≠"__name__":=by decide) (hd:(x==("__debug__":Str))=false:=by decide):PE X (.Name x pos) (tC v):=
 fun _ _ _ H _ I h=>kz I hg hm hv ⟨v,H,I,r,h⟩ hn hd
variable {a b:Expr}{ta tb:TE}{pos:Pos}
variable {tA tB':TT}{rest:List Expr}
noncomputable def tAnd(t u:TT):TT:=fun σ H Q=>t σ H fun c H1=>if c=true then u σ H1 Q else Q false H1
noncomputable def tOr(t u:TT):TT:=fun σ H Q=>t σ H fun c H1=>if c=true then Q true H1 else u σ H1 Q
noncomputable def tNot(t:TT):TT:=fun σ H Q=>t σ H fun c H1=>Q (!c) H1
theorem A1(ha:PT X a tA):PW X (.BoolOp .And [a] pos) tA:=by
 intro wh pins s σ H Q I h;refine isTrue_and (thn (ha pins s σ H Q I h) fun c s1 e=>?_);cases c with
 |true=>exact isTrue_and_nil e
 |false=>exact e
theorem EN(ha:PT X a tA):PW X (.BoolOp .Or [a] pos) tA:=by
 intro wh pins s σ H Q I h;refine isTrue_or (thn (ha pins s σ H Q I h) fun c s1 e=>?_);cases c with
 |false=>exact isTrue_or_nil e
 |true=>exact e
theorem vE(ha:PT X a tA)(hb:PW X (.BoolOp .And (b::rest) pos) tB'):PW X (.BoolOp .And (a::b::rest) pos) (tAnd tA tB'):=by
 intro wh pins s σ H Q I h;refine isTrue_and (thn (ha pins s σ H _ I h) fun c s1 ⟨H1,I1,q1⟩=>?_);cases c with
 |true=>exact hb wh pins s1 σ H1 Q I1 q1
 |false=>exact⟨H1,I1,q1⟩
theorem A0(ha:PT X a tA)(hb:PW X (.BoolOp .Or (b::rest) pos) tB'):PW X (.BoolOp .Or (a::b::rest) pos) (tOr tA tB'):=by
 intro wh pins s σ H Q I h;refine isTrue_or (thn (ha pins s σ H _ I h) fun c s1 ⟨H1,I1,q1⟩=>?_);cases c with
 |true=>exact⟨H1,I1,q1⟩
 |false=>exact hb wh pins s1 σ H1 Q I1 q1
theorem pt_not(ha:PT X a tA):PT X (.UnaryOp .Not a pos) (tNot tA):=by
 intro pins s σ H Q I h;exact isTrue_not (ha pins s σ H (fun c H1=>Q (!c) H1) I h)
noncomputable def Ed(ta tb:TE):TE:=fun σ H Q=>ta σ H fun x H1=>∃c,x=.bl c/\if c=true then tb σ H1 Q else Q (.bl false) H1
noncomputable def tOrV(ta tb:TE):TE:=fun σ H Q=>ta σ H fun x H1=>∃c,x=.bl c/\if c=true then Q (.bl true) H1 else tb σ H1 Q
noncomputable def D7(ta:TE):TE:=fun σ H Q=>ta σ H fun x H1=>∃c,x=.bl c/\Q (.bl (!c)) H1
theorem E5{op}{t:TE}(h:PE X a t):PE X (.BoolOp op [a] pos) t:=fun pins s σ H Q I hw=>BoolOp_one (h pins s σ H Q I hw)
theorem Fh(ha:PE X a ta)(hb:PE X (.BoolOp .And (b::rest) pos) tb):PE X (.BoolOp .And (a::b::rest) pos) (Ed ta tb):=by
 intro pins s σ H Q I h;refine BoolOp_and (thn (ha pins s σ H _ I h) fun v s1 ⟨x,H1,I1,r1,q1⟩=>?_);obtain⟨c,rfl,q1⟩:=q1;cases r1;refine cM ?_;cases c with
 |true=>exact hb pins s1 σ H1 Q I1 q1
 |false=>exact⟨.bl false,H1,I1,rfl,q1⟩
theorem pe_or(ha:PE X a ta)(hb:PE X (.BoolOp .Or (b::rest) pos) tb):PE X (.BoolOp .Or (a::b::rest) pos) (tOrV ta tb):=by
 intro pins s σ H Q I h;refine BoolOp_or (thn (ha pins s σ H _ I h) fun v s1 ⟨x,H1,I1,r1,q1⟩=>?_);obtain⟨c,rfl,q1⟩:=q1;cases r1;refine cM ?_;cases c with
 |false=>exact hb pins s1 σ H1 Q I1 q1
 |true=>exact⟨.bl true,H1,I1,rfl,q1⟩
theorem pe_not(ha:PE X a ta):PE X (.UnaryOp .Not a pos) (D7 ta):=by
 intro pins s σ H Q I h;refine UnaryOp_ (thn (ha pins s σ H _ I h) fun v s1 ⟨x,H1,I1,r1,q1⟩=>?_);obtain⟨c,rfl,q1⟩:=q1;cases r1;exact not_of (cM ⟨.bl (!c),H1,I1,rfl,q1⟩)
noncomputable def tIf(t:TT)(ta tb:TE):TE:=fun σ H Q=>t σ H fun c H1=>if c=true then ta σ H1 Q else tb σ H1 Q
theorem Fc{c:Expr}(hc:PT X c tA)(ha:PE X a ta)(hb:PE X b tb):PE X (.IfExp c a b pos) (tIf tA ta tb):=by
 intro pins s σ H Q I h;refine wpAny_IfExp (thn (hc pins s σ H _ I h) fun d s1 ⟨H1,I1,q1⟩=>?_);cases d with
 |true=>exact ha pins s1 σ H1 Q I1 q1
 |false=>exact hb pins s1 σ H1 Q I1 q1
end
noncomputable def SqL(K:ae)(H:Hp)(a:Addr)(xs:List V):Prop:=
 Rd H a (.lst xs)\/
  ∃(o:Obj)(its:Array Value)(n:Nat),K.lookup a=some o/\o.cls=.type "list"/\o.dict=none/\o.data=.seq its n/\its.size<=sizeLine/\bM xs its.toList
noncomputable def SqT(K:ae)(H:Hp)(a:Addr)(xs:List V):Prop:=
 Rd H a (.tup xs)\/
  ∃(o:Obj)(its:Array Value)(n:Nat),K.lookup a=some o/\o.cls=.type "tuple"/\o.data=.seq its n/\its.size<=sizeLine/\bM xs its.toList
noncomputable def absV:Value->Option V
 |.none=>some .non
 |.bool b=>some (.bl b)
 |.int i _=>some (.int i)
 |.str x _=>some (.str x)
 |.bytes b _=>some (.byt b)
 |.float b _=>some (.flt b)
 |.ref a=>some (.ref a)
 |.type n=>some (.ty n)
 |_=>none
theorem RelV.abs{x:V}{u:Value}(r:RelV x u):absV u=some x:=by
 cases x with
 |non=>cases r;rfl
 |bl _=>cases r;rfl
 |int _=>obtain⟨t,rfl⟩:=r;rfl
 |str _=>obtain⟨t,rfl⟩:=r;rfl
 |byt _=>obtain⟨t,rfl⟩:=r;rfl
 |flt _=>obtain⟨t,rfl⟩:=r;rfl
 |ref _=>cases r;rfl
 |ty _=>cases r;rfl
theorem RelV.inj{x y:V}{u:Value}(r:RelV x u)(q:RelV y u):x=y:=aP (r.abs.symm.trans q.abs)
theorem bM.inj{xs ys:List V}{us:List Value}(h:bM xs us):bM ys us->xs=ys:=by
 induction h generalizing ys with
 |nil=>intro k;cases k;rfl
 |cons r k ih=>
  intro w;cases w with
  |cons r' w'=>rw[r.inj r',ih w']
section
variable {X:Cx}{pins:List (Addr×Obj)}{σ:St}{H:Hp}{s:Shared}{a:Addr}{xs ys:List V}
theorem SqL.of{K:ae}(h:H a=some (.lst xs)):SqL K H a xs:=.inl (.inl h)
theorem SqT.of{K:ae}(h:H a=some (.tup xs)):SqT K H a xs:=.inl (.inl h)
theorem Inv.list(I:Inv X pins σ H s)(h:SqL X.K H a xs):∃its:List Value,bM xs its/\PlainL s.heap a its.toArray/\xs.length<=sizeLine:=by
 rcases h with h|⟨o,its,n,hk,hc,hd,hs,hz,r⟩
 ·obtain⟨z,its,n,r,e⟩:=h.ok I.hok
  exact⟨its,r,⟨_,n,e,rfl,rfl,rfl⟩,z⟩
 ·refine⟨its.toList,r,⟨o,n,I.kIn a o hk,hc,hd,by simpa using hs⟩,?_⟩
  have e:=r.length;simp only[cq]at e;omega
theorem Inv.tuple(I:Inv X pins σ H s)(h:SqT X.K H a xs):∃its:List Value,bM xs its/\IsTup s.heap a its.toArray/\xs.length<=sizeLine:=by
 rcases h with h|⟨o,its,n,hk,hc,hs,hz,r⟩
 ·obtain⟨z,its,r,p⟩:=h.ok I.hok
  exact⟨its,r,p,z⟩
 ·refine⟨its.toList,r,⟨o,I.kIn a o hk,hc,n,by simpa using hs⟩,?_⟩
  have e:=r.length;simp only[cq]at e;omega
theorem Inv.yf(I:Inv X pins σ H s)(h:SqL X.K H a xs)(h':SqL X.K H a ys):xs=ys:=by
 obtain⟨its,r,⟨o,n,e,_,_,d⟩,_⟩:=I.list h;obtain⟨its',r',⟨o',n',e',_,_,d'⟩,_⟩:=I.list h';rw[e]at e';cases e';rw[d]at d';injection d' with d1 _
 have :its=its':=by simpa using congrArg Array.toList d1
 subst this;exact r.inj r'
theorem Inv.o9(I:Inv X pins σ H s)(h:SqT X.K H a xs)(h':SqT X.K H a ys):xs=ys:=by
 obtain⟨its,r,⟨o,e,_,n,d⟩,_⟩:=I.tuple h;obtain⟨its',r',⟨o',e',_,n',d'⟩,_⟩:=I.tuple h';rw[e]at e';cases e';rw[d]at d';injection d' with d1 _
 have :its=its':=by simpa using congrArg Array.toList d1
 subst this;exact r.inj r'
end
section
variable {X:Cx}{st:Stmt}{rest:List Stmt}{t u:TS}{e:Expr}{te:TE}{pos:Pos}
noncomputable def xD:TS:=fun D σ H=>D.nx σ H
noncomputable def td(t u:TS):TS:=fun D σ H=>t {D with nx:=u D} σ H
theorem vH:PSs X [] xD:=fun _ _ σ H _ I h=>wpAny_execs_nil ⟨σ,H,I,h⟩
theorem nX(h1:PS X st t)(h2:PSs X rest u):PSs X (st::rest) (td t u):=by
 intro pins s σ H D I h;refine wpAny_execs_cons (thn (h1 pins s σ H {D with nx:=u D} I h) fun f s1 q=>?_);cases f with
 |next =>
  obtain⟨σ',H',I',q⟩:=q;exact h2 pins s1 σ' H' D I' q
 |ret v=>exact q
 |brk=>exact q
 |cont=>exact q
noncomputable def Ec:TS:=fun D σ H=>D.bk σ H
noncomputable def tCont:TS:=fun D σ H=>D.ct σ H
theorem A2:PS X (.Pass pos) xD:=fun _ _ σ H _ I h=>wpAny_Pass ⟨σ,H,I,h⟩
theorem EW:PS X (.Break pos) Ec:=fun _ _ σ H _ I h=>wpAny_Break ⟨σ,H,I,h⟩
theorem xM:PS X (.Continue pos) tCont:=fun _ _ σ H _ I h=>wpAny_Continue ⟨σ,H,I,h⟩
theorem Inv.quiet{pins:List (Addr×Obj)}{σ:St}{H:Hp}{s:Shared}(I:Inv X pins σ H s):interactive X.env=false:=by simp[interactive,I.ok.kind]
noncomputable def D9(te:TE):TS:=fun D σ H=>te σ H fun _ H1=>D.nx σ H1
theorem A3(he:PE X e te)(hs:kT e none pos.line X.env=pure false:=by rfl):PS X (.Expr e pos) (D9 te):=by
 intro pins s σ H D I h;exact wpAny_Expr_any (thn (he pins s σ H _ I h) fun v s1 ⟨x,H1,I1,r1,q1⟩=>⟨σ,H1,I1,q1⟩) I.quiet hs
noncomputable def tRet(te:TE):TS:=fun D σ H=>te σ H D.rt
theorem EU(he:PE X e te):PS X (.Return (some e) pos) (tRet te):=by
 intro pins s σ H D I h;exact wpAny_Return_some (thn (he pins s σ H _ I h) fun v s1 ⟨x,H1,I1,r1,q1⟩=>⟨x,σ,H1,I1,r1,q1⟩)
noncomputable def D5:TS:=fun D _ H=>D.rt .non H
theorem ps_retN:PS X (.Return none pos) D5:=fun _ _ σ H _ I h=>wpAny_Return_none ⟨.non,σ,H,I,rfl,h⟩
noncomputable def tIfS(c:TT)(t u:TS):TS:=fun D σ H=>c σ H fun b H1=>if b=true then t D σ H1 else u D σ H1
theorem ps_if{c:Expr}{a b:List Stmt}{tc:TT}(hc:PT X c tc)(ha:PSs X a t)(hb:PSs X b u):PS X (.If c a b pos) (tIfS tc t u):=by
 intro pins s σ H D I h;refine wpAny_If (thn (hc pins s σ H _ I h) fun d s1 ⟨H1,I1,q1⟩=>?_);cases d with
 |true=>exact ha pins s1 σ H1 D I1 q1
 |false=>exact hb pins s1 σ H1 D I1 q1
end
noncomputable abbrev TG:=V->St->Hp->(St->Hp->Prop)->Prop
noncomputable abbrev TGs:=List V->St->Hp->(St->Hp->Prop)->Prop
noncomputable def PG(X:Cx)(target:Expr)(t:TG):Prop:=
 ∀(pins:List (Addr×Obj))(s:Shared)(σ:St)(H:Hp)(v:V)(u:Value)(Q:St->Hp->Prop),Inv X pins σ H s->RelV v u->t v σ H Q->
  wpAny (model X.prog X.w) X.A (assign target X.env u) (fun _ s'=>∃σ' H',Inv X pins σ' H' s'/\Q σ' H') X.xe s
noncomputable def PGs(X:Cx)(ts:List Expr)(t:TGs):Prop:=
 ∀(pins:List (Addr×Obj))(s:Shared)(σ:St)(H:Hp)(vs:List V)(us:List Value)(Q:St->Hp->Prop),Inv X pins σ H s->bM vs us->t vs σ H Q->
  wpAny (model X.prog X.w) X.A (assignInOrder ((gG ts X.env).map (·.2)) us) (fun _ s'=>∃σ' H',Inv X pins σ' H' s'/\Q σ' H') X.xe s
noncomputable abbrev TSet:=V->V->V->Hp->(Hp->Prop)->Prop
noncomputable def PSet(X:Cx)(t:TSet):Prop:=
 ∀(pins:List (Addr×Obj))(s:Shared)(σ:St)(H:Hp)(o i v:V)(ov iv u:Value)(Q:Hp->Prop),Inv X pins σ H s->RelV o ov->RelV i iv->RelV v u->t o i v H Q->
  wpAny (model X.prog X.w) X.A (setItem ov iv u) (fun _ s'=>∃H',Inv X pins σ H' s'/\Q H') X.xe s
section
variable {X:Cx}{pos:Pos}
noncomputable def lL(i:Nat):TG:=fun v σ H Q=>Q (σ.set i (some v)) H
theorem vJ{i:Nat}{x:Str}(hN:X.N.Nodup)(hi:X.N[i]? =some x)(hx:Loc X.env.scope x)(hf:X.fn x=true\/X.env.scope.names.lookup x=some .local:=by first |exact .inl rfl|exact .inr rfl|assumption):PG X (.Name x pos) (lL i):=by
 intro pins s σ H v u Q I r h;exact wpAny_assign_Name (qY I hN hi hx r (fun s' I'=>⟨_,H,I',h⟩) hf)
noncomputable def gNil:TGs:=fun vs σ H Q=>vs=[]/\Q σ H
noncomputable def Gf(t:TG)(u:TGs):TGs:=fun vs σ H Q=>∃v r,vs=v::r/\t v σ H fun σ' H'=>u r σ' H' Q
theorem pgs_nil:PGs X [] gNil:=by
 intro pins s σ H vs us Q I r h;obtain⟨e,h⟩:=h;subst e;cases r;exact assignInOrder_nil ⟨σ,H,I,h⟩
theorem EZ{e:Expr}{es:List Expr}{t:TG}{u:TGs}(h1:PG X e t)(h2:PGs X es u)
  (hs:(gG (e::es) X.env).map (·.2)=assign e X.env::(gG es X.env).map (·.2):=by rfl):PGs X (e::es) (Gf t u):=by
 intro pins s σ H vs us Q I r h;obtain⟨v,vr,e1,h⟩:=h;subst e1;cases r with
 |cons r rr=>
  rw[hs];refine assignInOrder_cons (thn (h1 pins s σ H _ _ _ I r h) fun _ s1 ⟨σ1,H1,I1,q1⟩=>?_);exact h2 pins s1 σ1 H1 _ _ Q I1 rr q1
noncomputable def gTup(K:ae)(n:Nat)(t:TGs):TG:=fun v σ H Q=>∃a xs,v=.ref a/\SqT K H a xs/\xs.length=n/\t xs σ H Q
theorem pg_tup{es:List Expr}{k:Nat}{t:TGs}{n:Nat}(hc:X.calm=true)(h:PGs X es t)
  (hn:(gG es X.env).length=n:=by rfl) (hst:(gG es X.env).findIdx? (·.1)=none:=by rfl):PG X (.Tuple es k pos) (gTup X.K n t):=by
 intro pins s σ H v u Q I r hw;obtain⟨a,xs,e1,hq,hl,hw⟩:=hw;subst e1;cases r;obtain⟨its,rv,ht,hz⟩:=I.tuple hq;refine assign_Tuple_tuple (I.ok.hd hc) ht (by simp[hn,<-hl,rv.length]) hst fun h' hx=>?_;have I1:Inv X pins σ H {s with heap:=h'}:=I.kept (t':=s.toks) fun b o e=>hx b o (aE (ax e)) e;exact h pins _ σ H xs _ Q I1 (by simpa using rv) hw
noncomputable def gSub(to ti:TE)(t:TSet):TG:=fun v σ H Q=>to σ H fun o H1=>ti σ H1 fun i H2=>t o i v H2 fun H3=>Q σ H3
theorem pg_sub{o i:Expr}{to ti:TE}{t:TSet}(ho:PE X o to)(hi:PE X i ti)(hs:PSet X t)
  (ha:∀v,assign (.Subscript o i pos) X.env v=(do
   let ov<-holding [v] (eval o X.env)
   let iv<-holding [v,ov] (eval i X.env)
   wU pos
   holding [v,ov,iv] (setItem ov iv v)
   release [v,ov,iv] []):=by intro _;rfl):PG X (.Subscript o i pos) (gSub to ti t):=by
 intro pins s σ H v u Q I r h;rw[ha];refine aa (bz (thn (ho pins s σ H _ I h) fun ov s1 ⟨x,H1,I1,r1,q1⟩=>?_));refine aa (bz (thn (hi pins s1 σ H1 _ I1 q1) fun iv s2 ⟨y,H2,I2,r2,q2⟩=>?_));refine aa (fP (aa (bz (thn (hs pins s2 σ H2 x y v ov iv u _ I2 r1 r2 r q2) fun _ s3 ⟨H3,I3,q3⟩=>?_))));exact wpAny_release ⟨σ,H3,I3,q3⟩
noncomputable def vg(te:TE)(g:TG):TS:=fun D σ H=>te σ H fun x H1=>g x σ H1 D.nx
theorem zS{tg e:Expr}{te:TE}{g:TG}(he:PE X e te)(hg:PG X tg g)(hs:GY [tg] e pos.line X.env=pure false:=by rfl) (hw:swappedStores [tg] e X.env=pure none:=by rfl)
  (h1:(gG [tg] X.env).map (·.2)=[assign tg X.env]:=by rfl):PS X (.Assign [tg] e pos) (vg te g):=by
 intro pins s σ H D I h;refine wpAny_Assign_stores (thn (he pins s σ H _ I h) fun v s1 ⟨x,H1,I1,r1,q1⟩=>?_) hs hw;rw[h1];exact thn (hg pins s1 σ H1 x v _ I1 r1 q1) fun _ s2 q=>q
theorem ps_set{i:Nat}{x:Str}{e:Expr}{te:TE}{pos':Pos}(hN:X.N.Nodup)(hi:X.N[i]? =some x)(hx:Loc X.env.scope x)(he:PE X e te)(hs:kT e (some (.Name x pos')) pos.line X.env=pure false:=by rfl) (hf:X.fn x=true\/X.env.scope.names.lookup x=some .local:=by first |exact .inl rfl|exact .inr rfl|assumption):
  PS X (.Assign [.Name x pos'] e pos) (vg te (lL i)):=by
 intro pins s σ H D I h;refine wpAny_Assign_Name (thn (he pins s σ H _ I h) fun v s1 ⟨y,H1,I1,r1,q1⟩=>?_) hs;exact qY I1 hN hi hx r1 (fun s2 I2=>⟨_,H1,I2,q1⟩) hf
end
section
variable {X:Cx}{pos:Pos}
noncomputable def tWhile(c:TT)(tb:TS):TS:=fun D σ H=>∃W:Nat->St->Hp->Prop,(∃m,W m σ H)/\∀m σ H,W m σ H->
 c σ H fun b H1=>if b=true then ∃N:St->Hp->Prop,(∀σ' H',N σ' H'->∃m',m'<m/\W m' σ' H')/\tb {D with nx:=N,ct:=N,bk:=D.nx} σ H1 else D.nx σ H1
end
structure It where
 go:Nat->Hp->Prop
 yld:Nat->Hp->V->Hp->Prop
 stop:Nat->Hp->Prop
noncomputable def oV(X:Cx)(pins:List (Addr×Obj))(H:Hp)(b:Addr):Prop:=
 H b=none/\b≠X.env.locals/\b∉X.fs/\(b∈X.ex\/X.s₀.heap.objs.size<=b)/\(∀x c,X.env.cells.lookup x=some c->c≠b)/\∀p∈X.pn++pins,p.1≠b
theorem Inv.wk{X:Cx}{pins:List (Addr×Obj)}{σ:St}{H H':Hp}{s:Shared}{b:Addr}(I:Inv X pins σ H s)(hb:s.heap.objs.size<=b)(hn:H' b=none):oV X pins H' b:=by
 refine⟨hn,cS (aZ I.lt hb),I.nofs hb,.inr (aF I.sz hb),fun x c e z=>?_,fun p hp z=>?_⟩
 ·obtain⟨v,q⟩:=I.cell x c e
  exact absurd (aZ q.lt (by rw[z];exact hb)) (d5 _)
 ·exact absurd (aZ (ax (I.pin p hp).1) (by rw[z];exact hb)) (d5 _)
structure Turn(P:Program)(w:World)(K:ae)(tg:Expr)(J:It)(fp:List Addr)(it:Addr)(tn:Nat->Heap->Prop):Prop where
 mem:it∈fp
 obj:∀i h,tn i h->∀b∈fp,∃o,h.get? b=some o/\∀v,o.data≠.cell v
 keep:∀i h h',tn i h->(∀b∈fp,∀o,h.get? b=some o->h'.get? b=some o)->tn i h'
 item:∀(X:Cx),X.prog=P->X.w=w->X.K=K->X.calm=true->∀(i:Nat)(pins:List (Addr×Obj))(s:Shared)(σ:St)(H:Hp)(E:Value->Shared->Prop),Inv X pins σ H s->(∀b∈fp,oV X pins H b)->tn i s.heap->J.go i H->
  wpAny (model P w) X.A (pyNext (.ref it)) (fun r s1=>∃u,r=some u/\
   wpAny (model P w) X.A (oY tg (.ref it) u) (fun _ s2=>∃x H',Inv X pins σ H' s2/\RelV x u/\J.yld i H x H'/\tn (i+1) s2.heap/\∀b∈fp,H' b=none) E s1) E s
 done:∀(X:Cx),X.prog=P->X.w=w->X.K=K->X.calm=true->∀(i:Nat)(pins:List (Addr×Obj))(s:Shared)(σ:St)(H:Hp)(E:Value->Shared->Prop),Inv X pins σ H s->(∀b∈fp,oV X pins H b)->tn i s.heap->J.stop i H->
  wpAny (model P w) X.A (pyNext (.ref it)) (fun r s1=>r=none/\Inv X pins σ H s1) E s
 self:∀(A:Around)(i:Nat)(s:Shared)(Q:Value->Shared->Prop)(E:Value->Shared->Prop),tn i s.heap->Q (.ref it) s->wpAny (model P w) A (pyIter (.ref it)) Q E s
noncomputable abbrev TI:=St->Hp->(It->Hp->Prop)->Prop
noncomputable def PIE(X:Cx)(pins:List (Addr×Obj))(σ:St)(tg:Expr)(R:It->Hp->Prop)(itv:Value)(s2:Shared):Prop:=
 ∃(it:Addr)(fp:List Addr)(tn:Nat->Heap->Prop)(J:It)(H':Hp),itv=.ref it/\Inv X pins σ H' s2/\Turn X.prog X.w X.K tg J fp it tn/\tn 0 s2.heap/\(∀b∈fp,oV X pins H' b)/\R J H'
noncomputable def PI(X:Cx)(tg iter:Expr)(wi:TI):Prop:=
 ∀(pins:List (Addr×Obj))(s:Shared)(σ:St)(H:Hp)(R:It->Hp->Prop),Inv X pins σ H s->wi σ H R->
  wpAny (model X.prog X.w) X.A (eval iter X.env) (fun v s1=>wpAny (model X.prog X.w) X.A (pyIter v) (PIE X pins σ tg R) X.xe s1) X.xe s
theorem Bn{M:Model}{A:Around}{E:Value->Shared->Prop}{s:Shared}{tg:Expr}{it:Addr}{u:Value}{o:Obj}{n:String}{vs:Array Value}{Q:Unit->Shared->Prop}(ho:s.heap.get? it=some o)(hc:o.cls=.type n)(hd:o.data=.fields vs)
  (hn:["enumerate","zip","dict_itemiterator","dict_reverseitemiterator","odict_iterator","itertools.zip_longest","itertools.pairwise"].contains n=false)(hQ:Q () s):wpAny M A (oY tg (.ref it) u) Q E s:=by
 unfold oY;cases tg<;>first
  |exact ai hQ
  | (cases u<;>first
    |exact ai hQ
    | (refine aa (wpAny_load ho ?_)
       rw[hc,hd];show wpAny M A (if(["enumerate","zip","dict_itemiterator","dict_reverseitemiterator","odict_iterator","itertools.zip_longest","itertools.pairwise"].contains n&&vs[0]? ==some (rawInt _))=true then _ else _) Q E s;rw[if_neg (by intro h;rw[hn,cN]at h;cases h)];exact ai hQ))
noncomputable def Itl(K:ae)(a:Addr):It:=
 ⟨fun i H=>∃xs x,SqL K H a xs/\xs[i]? =some x,fun i H x H'=>H'=H/\∀xs,SqL K H a xs->xs[i]? =some x,fun i H=>∃xs,SqL K H a xs/\xs.length<=i⟩
noncomputable def Itt(K:ae)(a:Addr):It:=
 ⟨fun i H=>∃xs x,SqT K H a xs/\xs[i]? =some x,fun i H x H'=>H'=H/\∀xs,SqT K H a xs->xs[i]? =some x,fun i H=>∃xs,SqT K H a xs/\xs.length<=i⟩
noncomputable def Itr(lo:Int)(n:Nat):It:=⟨fun i _=>i<n,fun i H x H'=>H'=H/\x=.int (lo+i),fun i _=>n<=i⟩
theorem tN{P:Program}{w:World}{K:ae}{tg:Expr}(a it:Addr):Turn P w K tg (Itl K a) [it] it (fun i h=>h.IsListIter it a i) where
 mem:=by simp
 obj:=fun i h st b hb=>by
  have e:b=it:=by simpa using hb
  subst e;obtain⟨o,e,c,d⟩:=st;exact⟨o,e,fun v z=>by rw[d]at z;cases z⟩
 keep:=fun i h h' st k=>st.at fun o e=>k it (by simp) o e
 item:=by
  intro X hP hw hK hc i pins s σ H E I hf st hg;subst hP hw hK;obtain⟨xs,x,hq,hx⟩:=hg;obtain⟨its,rv,p,hz⟩:=I.list hq;obtain⟨u,hu,ru⟩:=rv.get hx;obtain⟨f0,f1,f2,f3,f4,f5⟩:=hf it (by simp);refine wpAny_pyNext_list_item st p.isList (x:=u) (by simpa using hu) fun h' st' sb=>?_;have I1:Inv X pins σ H {s with heap:=h'}:=I.turned (t':=s.toks) (fun b o hb e=>(sb.2 b hb).trans e) f0 f1 f3 f4 f5;obtain⟨o,e,c,d⟩:=id st';exact⟨u,rfl,Bn (s:={s with heap:=h'}) e c d (by decide) ⟨x,H,I1,ru,⟨rfl,fun ys hy=>by rw[I.yf hy hq];exact hx⟩,st',fun b hb=>(hf b hb).1⟩⟩
 done:=by
  intro X hP hw hK hc i pins s σ H E I hf st hg;subst hP hw hK;obtain⟨xs,hq,hx⟩:=hg;obtain⟨its,rv,p,hz⟩:=I.list hq;obtain⟨f0,f1,f2,f3,f4,f5⟩:=hf it (by simp);have hl:=rv.length;exact wpAny_pyNext_list_end (I.ok.hd hc) st p.isList (by simp;omega) fun h' eb=>⟨rfl,I.turned (t':=s.toks) (fun b o hb e=>eb b o hb e) f0 f1 f3 f4 f5⟩
 self:=fun _ _ _ _ _ st h=>wpAny_pyIter_listiter st h
theorem qT{P:Program}{w:World}{K:ae}{tg:Expr}(a it:Addr):Turn P w K tg (Itt K a) [it] it (fun i h=>h.IsTupleIter it a i) where
 mem:=by simp
 obj:=fun i h st b hb=>by
  have e:b=it:=by simpa using hb
  subst e;obtain⟨o,e,c,d⟩:=st;exact⟨o,e,fun v z=>by rw[d]at z;cases z⟩
 keep:=fun i h h' st k=>st.at fun o e=>k it (by simp) o e
 item:=by
  intro X hP hw hK hc i pins s σ H E I hf st hg;subst hP hw hK;obtain⟨xs,x,hq,hx⟩:=hg;obtain⟨its,rv,p,hz⟩:=I.tuple hq;obtain⟨u,hu,ru⟩:=rv.get hx;obtain⟨f0,f1,f2,f3,f4,f5⟩:=hf it (by simp);refine wpAny_pyNext_tuple_item st (show s.heap.IsTuple a its.toArray from p) (x:=u) (by simpa using hu) fun h' st' sb=>?_;have I1:Inv X pins σ H {s with heap:=h'}:=I.turned (t':=s.toks) (fun b o hb e=>(sb.2 b hb).trans e) f0 f1 f3 f4 f5;obtain⟨o,e,c,d⟩:=id st';exact⟨u,rfl,Bn (s:={s with heap:=h'}) e c d (by decide) ⟨x,H,I1,ru,⟨rfl,fun ys hy=>by rw[I.o9 hy hq];exact hx⟩,st',fun b hb=>(hf b hb).1⟩⟩
 done:=by
  intro X hP hw hK hc i pins s σ H E I hf st hg;subst hP hw hK;obtain⟨xs,hq,hx⟩:=hg;obtain⟨its,rv,p,hz⟩:=I.tuple hq;obtain⟨f0,f1,f2,f3,f4,f5⟩:=hf it (by simp);have hl:=rv.length;exact wpAny_pyNext_tuple_end (I.ok.hd hc) st (show s.heap.IsTuple a its.toArray from p) (by simp;omega) fun h' eb=>⟨rfl,I.turned (t':=s.toks) (fun b o hb e=>eb b o hb e) f0 f1 f3 f4 f5⟩
 self:=fun _ _ _ _ _ st h=>wpAny_pyIter_tupleiter st h
theorem zw{P:Program}{w:World}{K:ae}{tg:Expr}(it:Addr)(lo:Int)(n:Nat):Turn P w K tg (Itr lo n) [it] it (fun i h=>IsRangeIter h it (lo+(i:Nat)*1) ((n:Int)-(i:Nat)) 1) where
 mem:=by simp
 obj:=fun i h st b hb=>by
  have e:b=it:=by simpa using hb
  subst e;exact⟨_,st,fun v z=>by
   have z':Data.fields _=Data.cell v:=z;cases z'⟩
 keep:=fun i h h' st k=>k it (by simp) _ st
 item:=by
  intro X hP hw hK hc i pins s σ H E I hf st hg;subst hP hw hK;obtain⟨f0,f1,f2,f3,f4,f5⟩:=hf it (by simp);have W:=Walks.range (prog:=X.prog) (w:=X.w) (I.ok.hd hc) it lo 1 n;refine W.item i s _ _ hg st fun v h' tk hv st' kk=>?_;obtain⟨t,rfl⟩:=hv;have I1:Inv X pins σ H {s with heap:=h',toks:=tk}:=I.turned (fun b o hb e=>kk b o (by simpa using hb) e) f0 f1 f3 f4 f5;refine⟨_,rfl,Bn (s:={s with heap:=h',toks:=tk}) (n:="range_iterator") st' rfl rfl (by decide) ⟨.int (lo+i),H,I1,⟨t,?_⟩,⟨rfl,rfl⟩,st',fun b hb=>(hf b hb).1⟩⟩;rw[Int.mul_one]
 done:=by
  intro X hP hw hK hc i pins s σ H E I hf st hg;subst hP hw hK;obtain⟨f0,f1,f2,f3,f4,f5⟩:=hf it (by simp);exact wpAny_pyNext_range_end (I.ok.hd hc) st (by have :n<=i:=hg;omega) fun h' eb=>⟨rfl,I.turned (t':=s.toks) (fun b o hb e=>eb b o hb e) f0 f1 f3 f4 f5⟩
 self:=fun _ _ _ _ _ st h=>wpAny_pyIter_rangeiter st h
section
variable {X:Cx}{tg:Expr}
noncomputable def F9(K:ae)(tl:TE):TI:=fun σ H R=>tl σ H fun x H1=>∃a,x=.ref a/\(∃xs,SqL K H1 a xs)/\R (Itl K a) H1
noncomputable def iTup(K:ae)(tl:TE):TI:=fun σ H R=>tl σ H fun x H1=>∃a,x=.ref a/\(∃xs,SqT K H1 a xs)/\R (Itt K a) H1
theorem pi_list{l:Expr}{tl:TE}(hl:PE X l tl):PI X tg l (F9 X.K tl):=by
 intro pins s σ H R I h;refine thn (hl pins s σ H _ I h) fun v s1 ⟨x,H1,I1,r1,q1⟩=>?_;obtain⟨a,e,⟨xs,hq⟩,q⟩:=q1;subst e;cases r1;obtain⟨its,rv,p,hz⟩:=I1.list hq;refine iM p.isList ?_;refine⟨s1.heap.objs.size,[s1.heap.objs.size],_,_,H1,rfl,I1.kept (t':=s1.toks) fun b o e=>af _ e,tN a _,⟨_,au _ rfl,rfl,rfl⟩,fun b hb=>?_,q⟩;have e:b=s1.heap.objs.size:=by simpa using hb
 subst e;exact I1.wk (aw _) (I1.hok.fresh (aw _))
theorem pi_tup{l:Expr}{tl:TE}(hl:PE X l tl):PI X tg l (iTup X.K tl):=by
 intro pins s σ H R I h;refine thn (hl pins s σ H _ I h) fun v s1 ⟨x,H1,I1,r1,q1⟩=>?_;obtain⟨a,e,⟨xs,hq⟩,q⟩:=q1;subst e;cases r1;obtain⟨its,rv,p,hz⟩:=I1.tuple hq;refine fG (show s1.heap.IsTuple a its.toArray from p) ?_;refine⟨s1.heap.objs.size,[s1.heap.objs.size],_,_,H1,rfl,I1.kept (t':=s1.toks) fun b o e=>af _ e,qT a _,⟨_,au _ rfl,rfl,rfl⟩,fun b hb=>?_,q⟩;have e:b=s1.heap.objs.size:=by simpa using hb
 subst e;exact I1.wk (aw _) (I1.hok.fresh (aw _))
theorem xK{pins:List (Addr×Obj)}{σ:St}{H:Hp}{s:Shared}{R:It->Hp->Prop}{E:Value->Shared->Prop}{lo hi:Int}{t u v:Tok}{tk:Nat}(I:Inv X pins σ H s)(h1: -(2^62)<=lo)(h2:lo<2^62)(h3: -(2^62)<=hi)(h4:hi<2^62)
  (q:R (Itr lo (hi-lo).toNat) H):wpAny (model X.prog X.w) X.A (pyIter (.ref s.heap.objs.size)) (PIE X pins σ tg R) E {s with heap:=s.heap.push {cls:=.type "range",data:=.fields #[.int lo t,.int hi u,.int 1 v]},toks:=tk}:=by
 refine wpAny_pyIter_range (IsRange.new ..) (small_one h1 h2 h3 h4) ?_;have I1:Inv X pins σ H {s with heap:=s.heap.push {cls:=.type "range",data:=.fields #[.int lo t,.int hi u,.int 1 v]},toks:=tk}:=I.kept fun b o e=>af _ e;refine⟨(s.heap.push {cls:=.type "range",data:=.fields #[.int lo t,.int hi u,.int 1 v]}).objs.size,[(s.heap.push {cls:=.type "range",data:=.fields #[.int lo t,.int hi u,.int 1 v]}).objs.size],_,_,H,rfl,
  I1.kept (t':=tk) fun b o e=>af _ e,zw _ lo (hi-lo).toNat,?_,fun b hb=>?_,q⟩
 ·have e1:lo+((0:Nat):Int)*1=lo:=by simp
  have e2:(((hi-lo).toNat:Nat):Int)-((0:Nat):Int)=Builtin.Range.rangeSize lo hi 1:=by rw[rangeSize_one];split <;>omega
  show IsRangeIter _ _ (lo+((0:Nat):Int)*1) ((((hi-lo).toNat:Nat):Int)-((0:Nat):Int)) 1;rw[e1,e2];exact au _ rfl
 ·have e:b=(s.heap.push {cls:=.type "range",data:=.fields #[.int lo t,.int hi u,.int 1 v]}).objs.size:=by simpa using hb
  subst e;exact I1.wk (aw _) (I1.hok.fresh (aw _))
noncomputable def F8(ta:TA):TI:=fun σ H R=>ta σ H fun vs H1=>∃j:Int,vs=[.int j]∧-(2^62)<=j/\j<2^62/\R (Itr 0 j.toNat) H1
noncomputable def F7(ta:TA):TI:=fun σ H R=>ta σ H fun vs H1=>∃i j:Int,vs=[.int i,.int j]/\(-(2^62)<=i/\i<2^62∧-(2^62)<=j/\j<2^62)/\R (Itr i (j-i).toNat) H1
theorem Ci{a:Expr}{ta:TA}{p pos:Pos}(hg:Gl X "range")(hm:X.mg "range"=none)(ha:PA X [a] ta)(hs:aM [a] X.env=[(false,eval a X.env)]:=by rfl):PI X tg (.Call (.Name "range" p) [a] [] pos) (F8 ta):=by
 intro pins s σ H R I h;refine Call_ (kz I hg hm boot_range (dJ (thn (ha pos pins s σ H _ I h) fun us s1 ⟨vs,H1,I1,r1,q1⟩=>?_) hs rfl));obtain⟨j,e,q1,q2,q⟩:=q1;subst e;cases r1 with
 |cons r rr=>
  cases rr;obtain⟨t,rfl⟩:=r;exact call_range_1 (xK I1 (by omega) (by omega) q1 q2 (by simpa using q))
theorem Cg{a b:Expr}{ta:TA}{p pos:Pos}(hg:Gl X "range")(hm:X.mg "range"=none)(ha:PA X [a,b] ta)(hs:aM [a,b] X.env=[(false,eval a X.env),(false,eval b X.env)]:=by rfl) (hs2:aM [b] X.env=[(false,eval b X.env)]:=by rfl):
  PI X tg (.Call (.Name "range" p) [a,b] [] pos) (F7 ta):=by
 intro pins s σ H R I h;refine Call_ (kz I hg hm boot_range (dJ (thn (ha pos pins s σ H _ I h) fun us s1 ⟨vs,H1,I1,r1,q1⟩=>?_) (by rw[hs,hs2]) (by rw[hs2];rfl)));obtain⟨i,j,e,⟨q1,q2,q3,q4⟩,q⟩:=q1;subst e;cases r1 with
 |cons r rr=>
  cases rr with
  |cons r' rr=>
   cases rr;obtain⟨t,rfl⟩:=r;obtain⟨t',rfl⟩:=r';exact call_range_2 (xK I1 q1 q2 q3 q4 q)
noncomputable def tFor(wi:TI)(g:TG)(tb:TS):TS:=fun D σ H=>wi σ H fun J H1=>∃W:Nat->Nat->St->Hp->Prop,(∃m,W 0 m σ H1)/\∀i m σ H,W i m σ H->
 (J.stop i H/\D.nx σ H)\/(J.go i H/\∃N:St->Hp->Prop,(∀σ' H',N σ' H'->∃m',m'<m/\W (i+1) m' σ' H')/\∀x H',J.yld i H x H'->g x σ H' fun σ2 H2=>tb {D with nx:=N,ct:=N,bk:=D.nx} σ2 H2)
noncomputable def ig(fp:List Addr)(h:Heap):List (Addr×Obj):=fp.filterMap fun b=>(h.get? b).map fun o=>(b,o)
theorem gV{fp:List Addr}{h:Heap}{b:Addr}{o:Obj}(hb:b∈fp)(e:h.get? b=some o):(b,o)∈ig fp h:=List.mem_filterMap.mpr ⟨b,hb,by rw[e];rfl⟩
theorem pk{fp:List Addr}{h:Heap}{p:Addr×Obj}(hp:p∈ig fp h):p.1∈fp/\h.get? p.1=some p.2:=by
 obtain⟨b,hb,e⟩:=List.mem_filterMap.mp hp;cases q:h.get? b with
 |none=>rw[q]at e;cases e
 |some o=>
  rw[q]at e;have e':(b,o)=p:=aP e;subst e';exact⟨hb,q⟩
theorem Inv.pinned{pins:List (Addr×Obj)}{σ:St}{H:Hp}{s:Shared}{fp:List Addr}(I:Inv X pins σ H s)(hf:∀b∈fp,oV X pins H b)(ho:∀b∈fp,∃o,s.heap.get? b=some o/\∀v,o.data≠.cell v):Inv X (pins++ig fp s.heap) σ H s:=
 I.vI fun p hp=>(fq.mp hp).elim (fun z=>I.pin p (bg _ z)) fun z=>by
  obtain⟨hb,e⟩:=pk z;obtain⟨f0,f1,f2,_⟩:=hf p.1 hb;obtain⟨o,e',d⟩:=ho p.1 hb;rw[e]at e';cases e';exact⟨e,f0,f1,f2,d⟩
theorem Inv.gJ{pins pl:List (Addr×Obj)}{σ:St}{H:Hp}{s:Shared}(I:Inv X (pins++pl) σ H s):Inv X pins σ H s:=I.vI fun p hp=>I.pin p (bg _ (dM _ hp))
theorem ps_for{iter:Expr}{body:List Stmt}{wi:TI}{g:TG}{tb:TS}{pos:Pos}(hp:PassesOwn (model X.prog X.w) X.A X.env X.xe)(hc:X.calm=true)(hi:PI X tg iter wi)(hg:PG X tg g)(hb:PSs X body tb)
  (hs:∀x,iQ iter X.env x=pure x:=by intro _;rfl):PS X (.For tg iter body [] pos) (tFor wi g tb):=by
 intro pins s σ H D I h;refine wpAny_For (thn (hi pins s σ H _ I h) fun v s1 h1=>thn h1 fun itv s2 h2=>?_) hs;obtain⟨it,fp,tn,J,H2,e,I2,T,st2,f2,W,⟨m0,w0⟩,turn⟩:=h2;subst e
 --what stays true of the iterator's objects through the loop
 have stat:∀{H':Hp},(∀b∈fp,H' b=none)->∀b∈fp,oV X pins H' b:=fun hn b hb=>⟨hn b hb,(f2 b hb).2⟩;refine codeAny_forLoop_any (fun n s'=>∃i σ' H',Inv X pins σ' H' s'/\tn i s'.heap/\(∀b∈fp,H' b=none)/\W i n σ' H') ?_ m0 ⟨0,σ,H2,I2,st2,fun b hb=>(f2 b hb).1,w0⟩;rintro n s3 ⟨i,σ3,H3,I3,st3,fr3,w3⟩;rcases turn i n σ3 H3 w3 with⟨stop,qn⟩ |⟨go,N,hN,step⟩
 ·refine kg hp (thn (T.done X rfl rfl rfl hc i pins s3 σ3 H3 X.xe I3 (stat fr3) st3 stop) fun r s4 ⟨hr,I4⟩=>?_)
  subst hr;exact wpAny_execs_nil ⟨σ3,H3,I4,qn⟩
 ·refine kg hp (thn (T.item X rfl rfl rfl hc i pins s3 σ3 H3 X.xe I3 (stat fr3) st3 go) fun r s4 ⟨u,hr,h4⟩=>?_)
  subst hr;refine kg hp (thn h4 fun _ s5 ⟨x,H5,I5,r5,y5,st5,fr5⟩=>?_);have I5':=I5.pinned (stat fr5) (T.obj _ _ st5);refine kg hp (thn (hg _ s5 σ3 H5 x u _ I5' r5 (step x H5 y5)) fun _ s6 ⟨σ6,H6,I6,q6⟩=>?_);refine kg hp (thn (hb _ s6 σ6 H6 _ I6 q6) fun f s7 q7=>?_);have again:∀{σ7:St}{H7:Hp},Inv X (pins++ig fp s5.heap) σ7 H7 s7->N σ7 H7->∃m,m<n/\∃i σ' H',Inv X pins σ' H' s7/\tn i s7.heap/\(∀b∈fp,H' b=none)/\W i m σ' H':=fun{σ7 H7} I7 n7=>by
   obtain⟨m',hm,w7⟩:=hN σ7 H7 n7;refine⟨m',hm,i+1,σ7,H7,I7.gJ,T.keep _ _ _ st5 fun b hb o e=>(I7.pin (b,o) (bg _ (bg _ (gV hb e)))).1,fun b hb=>?_,w7⟩;obtain⟨o,e,d⟩:=T.obj _ _ st5 b hb;exact(I7.pin (b,o) (bg _ (bg _ (gV hb e)))).2.1
  cases f with
  |next =>obtain⟨σ7,H7,I7,n7⟩:=q7;exact again I7 n7
  |cont=>obtain⟨σ7,H7,I7,n7⟩:=q7;exact again I7 n7
  |brk=>obtain⟨σ7,H7,I7,q7⟩:=q7;exact⟨σ7,H7,I7.gJ,q7⟩
  |ret v=>obtain⟨x7,σ7,H7,I7,r7,q7⟩:=q7;exact⟨x7,σ7,H7,I7.gJ,r7,q7⟩
end
noncomputable abbrev R2:=V->V->Hp->VK->Prop
noncomputable def OpR(X:Cx)(f:Value->Value->Sem Value)(r:R2):Prop:=
 ∀(pins:List (Addr×Obj))(s:Shared)(σ:St)(H:Hp)(x y:V)(v u:Value)(Q:VK),Inv X pins σ H s->RelV x v->RelV y u->r x y H Q->
  wpAny (model X.prog X.w) X.A (f v u) (EP X pins σ Q) X.xe s
noncomputable def UnR(X:Cx)(f:Value->Sem Value)(r:V->Hp->VK->Prop):Prop:=
 ∀(pins:List (Addr×Obj))(s:Shared)(σ:St)(H:Hp)(x:V)(v:Value)(Q:VK),Inv X pins σ H s->RelV x v->r x H Q->
  wpAny (model X.prog X.w) X.A (f v) (EP X pins σ Q) X.xe s
noncomputable def eL(X:Cx)(f:Value)(r:List V->Hp->VK->Prop):Prop:=
 ∀(pins:List (Addr×Obj))(s:Shared)(σ:St)(H:Hp)(xs:List V)(us:List Value)(Q:VK),Inv X pins σ H s->bM xs us->r xs H Q->
  wpAny (model X.prog X.w) X.A (call f us) (EP X pins σ Q) X.xe s
noncomputable def TruR(X:Cx)(r:V->Hp->(Bool->Hp->Prop)->Prop):Prop:=
 ∀(pins:List (Addr×Obj))(s:Shared)(σ:St)(H:Hp)(x:V)(v:Value)(Q:Bool->Hp->Prop),Inv X pins σ H s->RelV x v->r x H Q->
  wpAny (model X.prog X.w) X.A (truthy v) (TP X pins σ Q) X.xe s
noncomputable def tOp(r:R2)(ta tb:TE):TE:=fun σ H Q=>ta σ H fun x H1=>tb σ H1 fun y H2=>r x y H2 Q
noncomputable def tUn(r:V->Hp->VK->Prop)(ta:TE):TE:=fun σ H Q=>ta σ H fun x H1=>r x H1 Q
noncomputable def rI(C:Int->Int->Prop)(g:Int->Int->V):R2:=fun x y H Q=>∃i j,x=.int i/\y=.int j/\C i j/\Q (g i j) H
noncomputable def rI0(g:Int->Int->V):R2:=fun x y H Q=>∃i j,x=.int i/\y=.int j/\Q (g i j) H
noncomputable def rU(g:Int->V):V->Hp->VK->Prop:=fun x H Q=>∃i,x=.int i/\Q (g i) H
section
variable {X:Cx}{a b c:Expr}{ta tb tc:TE}{pos:Pos}
theorem binT(ha:PE X a ta)(hb:PE X b tb){pins:List (Addr×Obj)}{s:Shared}{σ:St}{H:Hp}{R:V->V->Hp->Prop}(I:Inv X pins σ H s)
  (h:ta σ H fun x H1=>tb σ H1 fun y H2=>R x y H2){Q:Value->Shared->Prop}{f:Value->Value->Sem Value}
  (hf:∀v u s2 x y H2,Inv X pins σ H2 s2->RelV x v->RelV y u->R x y H2->wpAny (model X.prog X.w) X.A (f v u) Q X.xe s2):
  wpAny (model X.prog X.w) X.A (eval a X.env) (fun v s₁=>wpAny (model X.prog X.w) X.A (eval b X.env) (fun u s₂=>wpAny (model X.prog X.w) X.A (f v u) Q X.xe s₂) X.xe s₁) X.xe s:=by
 refine thn (ha pins s σ H _ I h) fun v s1 ⟨x,H1,I1,r1,q1⟩=>?_;refine thn (hb pins s1 σ H1 _ I1 q1) fun u s2 ⟨y,H2,I2,r2,q2⟩=>?_;exact hf v u s2 x y H2 I2 r1 r2 q2
theorem pe_op{op:Operator}{r:R2}(ho:OpR X (dX op) r)(ha:PE X a ta)(hb:PE X b tb):PE X (.BinOp a op b pos) (tOp r ta tb):=by
 intro pins s σ H Q I h;exact wpAny_BinOp (binT ha hb I h fun v u s2 x y H2 I2 rx ry q=>ho pins s2 σ H2 x y v u Q I2 rx ry q)
theorem pe_un{op:BF}{r:V->Hp->VK->Prop}(ho:UnR X (unaryOp op) r)(ha:PE X a ta):PE X (.UnaryOp op a pos) (tUn r ta):=by
 intro pins s σ H Q I h;exact UnaryOp_ (thn (ha pins s σ H _ I h) fun v s1 ⟨x,H1,I1,r1,q1⟩=>ho pins s1 σ H1 x v Q I1 r1 q1)
theorem opI{f:Value->Value->Sem Value}{C:Int->Int->Prop}{g:Int->Int->Int}
  (rule:∀(i j:Int)(t u:Tok)(s:Shared)(Q:Value->Shared->Prop)(E:Value->Shared->Prop),C i j->Q (.int (g i j) s.toks) {s with toks:=s.toks+1}->wpAny (model X.prog X.w) X.A (f (.int i t) (.int j u)) Q E s):
  OpR X f (rI C fun i j=>.int (g i j)):=by
 intro pins s σ H x y v u Q I rx ry h;obtain⟨i,j,rfl,rfl,hc,q⟩:=h;obtain⟨t,rfl⟩:=rx;obtain⟨t',rfl⟩:=ry;exact rule i j t t' s _ _ hc ⟨.int (g i j),H,I.tok _,⟨_,rfl⟩,q⟩
theorem opI0{f:Value->Value->Sem Value}{g:Int->Int->Int}
  (rule:∀(i j:Int)(t u:Tok)(s:Shared)(Q:Value->Shared->Prop)(E:Value->Shared->Prop),Q (.int (g i j) s.toks) {s with toks:=s.toks+1}->wpAny (model X.prog X.w) X.A (f (.int i t) (.int j u)) Q E s):
  OpR X f (rI0 fun i j=>.int (g i j)):=by
 intro pins s σ H x y v u Q I rx ry h;obtain⟨i,j,rfl,rfl,q⟩:=h;obtain⟨t,rfl⟩:=rx;obtain⟨t',rfl⟩:=ry;exact rule i j t t' s _ _ ⟨.int (g i j),H,I.tok _,⟨_,rfl⟩,q⟩
theorem opB0{f:Value->Value->Sem Value}{g:Int->Int->Bool}
  (rule:∀(i j:Int)(t u:Tok)(s:Shared)(Q:Value->Shared->Prop)(E:Value->Shared->Prop),Q (.bool (g i j)) s->wpAny (model X.prog X.w) X.A (f (.int i t) (.int j u)) Q E s):
  OpR X f (rI0 fun i j=>.bl (g i j)):=by
 intro pins s σ H x y v u Q I rx ry h;obtain⟨i,j,rfl,rfl,q⟩:=h;obtain⟨t,rfl⟩:=rx;obtain⟨t',rfl⟩:=ry;exact rule i j t t' s _ _ ⟨.bl (g i j),H,I,rfl,q⟩
noncomputable def CDiv(i j:Int):Prop:=0<j/\j<1073741824
noncomputable def CPow(i j:Int):Prop:=0<=j/\j<=1000000/\i.natAbs<2^64
noncomputable def Du(i j:Int):Prop:=(-(2^64)<i/\i<2^64)\/(-(2^64)<j/\j<2^64)
theorem Du.ok{i j:Int}(h:Du i j):IntMulOk i j:=by
 rcases h with⟨h1,h2⟩ |⟨h1,h2⟩
 ·exact .of_left (intBits_le_64 h1 h2)
 ·exact .of_right (intBits_le_64 h1 h2)
theorem zv(k:Nat):(0:Int)<=2^k:=by
 rw[two_pow_cast];exact Int.natCast_nonneg _
theorem op_add:OpR X (dX .Add) (rI0 fun i j=>.int (i+j)):=opI0 fun _ _ _ _ _ _ _ q=>add_int q
theorem op_sub:OpR X (dX .Sub) (rI0 fun i j=>.int (i-j)):=opI0 fun _ _ _ _ _ _ _ q=>sub_int q
theorem op_mul:OpR X (dX .Mult) (rI Du fun i j=>.int (i*j)):=opI fun _ _ _ _ _ _ _ hc q=>mul_int q hc.ok
theorem op_fdiv:OpR X (dX .FloorDiv) (rI CDiv fun i j=>.int (i/j)):=opI fun i j _ _ _ _ _ hc q=>by
 have h1:(0:Int)<j:=hc.1;have h2:j<1073741824:=hc.2;exact floordiv_int (by omega) (by rw[zb i (by omega)];exact q) (.inl (PyProof.noPylong_small (by omega)))
theorem op_mod:OpR X (dX .Mod) (rI (fun _ j=>0<j) fun i j=>.int (i%j)):=opI fun i j _ _ _ _ _ hc q=>by
 have h1:(0:Int)<j:=hc;exact mod_int' (by omega) (by rw[Int.fmod_eq_emod_of_nonneg i (by omega)];exact q)
theorem op_pow:OpR X (dX .Pow) (rI CPow fun i j=>.int (i^j.toNat)):=opI fun _ _ _ _ _ _ _ hc q=>pow_int_small hc.1 hc.2.1 hc.2.2 q
theorem op_shl:OpR X (dX .LShift) (rI CPow fun i j=>.int (i*2^j.toNat)):=opI fun _ _ _ _ _ _ _ hc q=>lshift_int_small hc.1 hc.2.1 hc.2.2 q
theorem op_shr:OpR X (dX .RShift) (rI (fun _ j=>0<=j) fun i j=>.int (i/2^j.toNat)):=opI fun i j _ _ _ _ _ hc q=>
 rshift_int hc (by rw[zb i (zv _)];exact q)
theorem op_and:OpR X (dX .BitAnd) (rI0 fun i j=>.int (gT i j)):=opI0 fun _ _ _ _ _ _ _ q=>and_int q
theorem op_xor:OpR X (dX .BitXor) (rI0 fun i j=>.int (jo i j)):=opI0 fun _ _ _ _ _ _ _ q=>xor_int q
theorem unI{f:Value->Sem Value}{g:Int->Int}
  (rule:∀(i:Int)(t:Tok)(s:Shared)(Q:Value->Shared->Prop)(E:Value->Shared->Prop),Q (.int (g i) s.toks) {s with toks:=s.toks+1}->wpAny (model X.prog X.w) X.A (f (.int i t)) Q E s):
  UnR X f (rU fun i=>.int (g i)):=by
 intro pins s σ H x v Q I rx h;obtain⟨i,rfl,q⟩:=h;obtain⟨t,rfl⟩:=rx;exact rule i t s _ _ ⟨.int (g i),H,I.tok _,⟨_,rfl⟩,q⟩
theorem un_neg:UnR X (unaryOp .USub) (rU fun i=>.int (-i)):=unI fun _ _ _ _ _ q=>neg_int q
end
section
variable {X:Cx}{a b c:Expr}{ta tb tc:TE}{pos:Pos}
theorem se{pins:List (Addr×Obj)}{σ:St}{H:Hp}{s:Shared}{Q:VK}{k k':Bool}(I:Inv X pins σ H s)(q:Q (.bl k) H)(e:k=k'):EP X pins σ Q (.bool k') s:=by
 subst e;exact⟨.bl k,H,I,rfl,q⟩
theorem op_lt:OpR X (cV .Lt) (rI0 fun i j=>.bl (decide (i<j))):=opB0 fun _ _ _ _ _ _ _ q=>lt_int q
theorem op_le:OpR X (cV .LtE) (rI0 fun i j=>.bl (decide (i<=j))):=opB0 fun _ _ _ _ _ _ _ q=>le_int q
theorem op_gt:OpR X (cV .Gt) (rI0 fun i j=>.bl (decide (j<i))):=opB0 fun _ _ _ _ _ _ _ q=>gt_int q
theorem op_ge:OpR X (cV .GtE) (rI0 fun i j=>.bl (decide (j<=i))):=opB0 fun _ _ _ _ _ _ _ q=>ge_int q
theorem Co:OpR X (cV .In) (fun x y H Q=>∃i j,x=.str i/\y=.str j/\Q (.bl (!(gh j i 0 j.length 1).isEmpty)) H):=by
 intro pins s σ H x y v u Q I rx ry h;obtain⟨i,j,rfl,rfl,q⟩:=h;obtain⟨t,rfl⟩:=rx;obtain⟨t',rfl⟩:=ry;exact in_str (se I q rfl)
theorem op_isN:OpR X (cV .Is) (fun x y H Q=>y=.non/\Q (.bl (decide (x=.non))) H):=by
 intro pins s σ H x y v u Q I rx ry h;obtain⟨rfl,q⟩:=h;cases ry;refine is_none_gen (se I q ?_);cases x<;>first
  | (cases rx;rfl)
  | (obtain⟨t,rfl⟩:=rx;rfl)
theorem op_notN:OpR X (cV .IsNot) (fun x y H Q=>y=.non/\Q (.bl (!decide (x=.non))) H):=by
 intro pins s σ H x y v u Q I rx ry h;obtain⟨rfl,q⟩:=h;cases ry;refine isnot_none_gen (se I q ?_);cases x<;>first
  | (cases rx;rfl)
  | (obtain⟨t,rfl⟩:=rx;rfl)
theorem OpR.or{f:Value->Value->Sem Value}{r r':R2}(h:OpR X f r)(h':OpR X f r'):OpR X f (fun x y H Q=>r x y H Q\/r' x y H Q):=by
 intro pins s σ H x y v u Q I rx ry q;rcases q with q|q
 ·exact h pins s σ H x y v u Q I rx ry q
 ·exact h' pins s σ H x y v u Q I rx ry q
theorem pe_cmpR{op:CmpOp}{r:R2}(ho:OpR X (cV op) r)(ha:PE X a ta)(hb:PE X b tb)(hm:G1 op b=false):PE X (.Compare a [op] [b] pos) (tOp r ta tb):=by
 intro pins s σ H Q I h;exact wpAny_Compare1 (binT ha hb I h fun v u s2 x y H2 I2 rx ry q=>ho pins s2 σ H2 x y v u Q I2 rx ry q) hm
noncomputable def xB(t:TE):TT:=fun σ H Q=>t σ H fun x H'=>∃k,x=.bl k/\Q k H'
theorem pt_cmpR{op:CmpOp}{r:R2}(ho:OpR X (cV op) r)(ha:PE X a ta)(hb:PE X b tb)(hm:G1 op b=false):PT X (.Compare a [op] [b] pos) (xB (tOp r ta tb)):=by
 intro pins s σ H Q I h;refine wpAny_isTrue_Compare1 (thn (ha pins s σ H _ I h) fun v s1 ⟨x,H1,I1,r1,q1⟩=>thn (hb pins s1 σ H1 _ I1 q1) fun u s2 ⟨y,H2,I2,r2,q2⟩=>
  thn (ho pins s2 σ H2 x y v u _ I2 r1 r2 q2) fun c s3 ⟨z,H3,I3,r3,k,e,q3⟩=>?_) hm
 subst e;cases r3;exact cM ⟨H3,I3,q3⟩
noncomputable def qW(r r':R2)(ta tb tc:TE):TE:=fun σ H Q=>ta σ H fun x H1=>tb σ H1 fun y H2=>r x y H2 fun z H3=>∃k,z=.bl k/\
 (if k=true then tc σ H3 fun w' H4=>r' y w' H4 Q else Q (.bl false) H3)
theorem Ff{op op':CmpOp}{r r':R2}(ho:OpR X (cV op) r)(ho':OpR X (cV op') r')(ha:PE X a ta)(hb:PE X b tb)(hc:PE X c tc)
  (hm:lastMarks [op,op'] [b,c]=false:=by with_unfolding_all rfl):PE X (.Compare a [op,op'] [b,c] pos) (qW r r' ta tb tc):=by
 intro pins s σ H Q I h;refine Compare_chain (thn (ha pins s σ H _ I h) fun v s1 ⟨x,H1,I1,r1,q1⟩=>chain_link (thn (hb pins s1 σ H1 _ I1 q1) fun u s2 ⟨y,H2,I2,r2,q2⟩=>
  thn (ho pins s2 σ H2 x y v u _ I2 r1 r2 q2) fun d s3 ⟨z,H3,I3,r3,k,e,q3⟩=>?_)) hm
 subst e;cases r3;refine cM ?_;cases k with
 |false=>exact ite_ff ⟨.bl false,H3,I3,rfl,q3⟩
 |true=>exact ite_tt (chain_last (thn (hc pins s3 σ H3 _ I3 q3) fun w' s4 ⟨z',H4,I4,r4,q4⟩=>ho' pins s4 σ H4 y z' u w' Q I4 r2 r4 q4))
theorem ET{op op':CmpOp}{r r':R2}(ho:OpR X (cV op) r)(ho':OpR X (cV op') r')(ha:PE X a ta)(hb:PE X b tb)(hc:PE X c tc)
  (hm:lastMarks [op,op'] [b,c]=false:=by with_unfolding_all rfl):PT X (.Compare a [op,op'] [b,c] pos) (xB (qW r r' ta tb tc)):=by
 intro pins s σ H Q I h;refine isTrue_chain (thn (ha pins s σ H _ I h) fun v s1 ⟨x,H1,I1,r1,q1⟩=>test_link (thn (hb pins s1 σ H1 _ I1 q1) fun u s2 ⟨y,H2,I2,r2,q2⟩=>
  thn (ho pins s2 σ H2 x y v u _ I2 r1 r2 q2) fun d s3 ⟨z,H3,I3,r3,k,e,q3⟩=>?_)) hm
 subst e;cases r3;refine cM ?_;cases k with
 |false=>
  obtain⟨k',e',q'⟩:=q3;cases e';exact ite_ff ⟨H3,I3,q'⟩
 |true=>
  refine ite_tt (test_last (thn (hc pins s3 σ H3 _ I3 q3) fun w' s4 ⟨z',H4,I4,r4,q4⟩=>thn (ho' pins s4 σ H4 y z' u w' _ I4 r2 r4 q4) fun d' s5 ⟨z2,H5,I5,r5,k2,e2,q5⟩=>?_));subst e2;cases r5;exact cM ⟨H5,I5,q5⟩
noncomputable def TruV(K:ae)(x:V)(H:Hp)(k:Bool):Prop:=
 match x with
 |.non=>k=false
 |.bl b=>k=b
 |.int i=>k=(i != 0)
 |.str y=>y.length<=sizeLine/\k=((y.length:Int) != 0)
 |.byt y=>y.size<=sizeLine/\k=((y.size:Int) != 0)
 |.ref p=>(∃xs,SqL K H p xs/\k= !xs.isEmpty)\/(∃xs,SqT K H p xs/\k= !xs.isEmpty)\/∃kvs,H p=some (.dK kvs)/\k= !kvs.isEmpty
 |_=>False
theorem Ak{κ:Type}{kvs:List (κ×V)}{vs:List (κ×Value)}(r:KV kvs vs):(!vs.isEmpty)= !kvs.isEmpty:=by
 cases r<;>rfl
theorem rY{xs:List V}{its:List Value}(r:bM xs its):(!its.toArray.isEmpty)= !xs.isEmpty:=by
 cases r<;>simp
theorem m5:(sizeLine:Nat)<2^63:=by rw[jQ];decide
theorem tru_ok:TruR X (fun x H Q=>∃k,TruV X.K x H k/\Q k H):=by
 intro pins s σ H x v Q I rx h;obtain⟨k,e,q⟩:=h;have hl:=m5;have hs:sizeLine=16777216:=jQ;cases x with
 |non=>
  cases rx;have e':k=false:=e;subst e';exact truthy_none ⟨H,I,q⟩
 |bl b=>
  cases rx;have e':k=b:=e;subst e';exact cM ⟨H,I,q⟩
 |int i=>
  obtain⟨t,rfl⟩:=rx;have e':k=(i != 0):=e;subst e';exact PySem.P.truthy_int ⟨H,I,q⟩
 |str y=>
  obtain⟨t,rfl⟩:=rx;obtain⟨hy,e'⟩:y.length<=sizeLine/\k=((y.length:Int) != 0):=e;subst e';exact PySem.P.truthy_str (by omega) ⟨H,I.tok _,q⟩
 |byt y=>
  obtain⟨t,rfl⟩:=rx;obtain⟨hy,e'⟩:y.size<=sizeLine/\k=((y.size:Int) != 0):=e;subst e';exact PySem.W.truthy_bytes (by omega) ⟨H,I.tok _,q⟩
 |ref p=>
  cases rx;have e':(∃xs,SqL X.K H p xs/\k= !xs.isEmpty)\/(∃xs,SqT X.K H p xs/\k= !xs.isEmpty)\/∃kvs,H p=some (.dK kvs)/\k= !kvs.isEmpty:=e;rcases e' with⟨xs,hx,e'⟩ |⟨xs,hx,e'⟩ |⟨kvs,hx,e'⟩
  ·subst e'
   obtain⟨its,r,pl,hz⟩:=I.list hx;have hlen:=r.length;exact wpAny_truthy_list pl.isList (by simp only[ay];omega) ⟨H,I.tok _,by rw[rY r];exact q⟩
  ·subst e'
   obtain⟨its,r,pl,hz⟩:=I.tuple hx;have hlen:=r.length;exact truthy_tuple pl (by simp only[ay];omega) ⟨H,I.tok _,by rw[rY r];exact q⟩
  ·subst e'
   obtain⟨hz,hS,vs,r,m⟩:kvs.length<=sizeLine/\(p==dO)=false/\∃vs,KV kvs vs/\s.heap.DictOf (bV X.prog X.w) p vs:=I.hok p _ hx;have hlen:kvs.length=vs.length:=iy r;exact wpAny_truthy_dict hS m (by omega) ⟨H,I.tok _,by rw[Ak r];exact q⟩
 |_=>exact(show False from e).elim
theorem nW(ha:PE X a ta)(he:∀whole,isTrue a X.env whole=(do let v<-whole;wU a.pos;holding [v] (truthy v))):
  PT X a (fun σ H Q=>ta σ H fun x H'=>∃k,TruV X.K x H' k/\Q k H'):=by
 intro pins s σ H Q I h;exact isTrue_plain (thn (ha pins s σ H _ I h) fun v s1 ⟨x,H1,I1,r1,q1⟩=>tru_ok pins s1 σ H1 x v Q I1 r1 q1) (he _)
theorem z8:OpR X (dX .Add) (fun x y H Q=>∃i j,x=.str i/\y=.str j/\i.length+j.length<=sizeLine/\Q (.str (i++j)) H):=by
 intro pins s σ H x y v u Q I rx ry h;obtain⟨i,j,rfl,rfl,hz,q⟩:=h;obtain⟨t,rfl⟩:=rx;obtain⟨t',rfl⟩:=ry;exact add_str (fun t' tk=>⟨.str (i++j),H,I.tok _,⟨_,rfl⟩,q⟩) hz
theorem vals1{x:V}{us:List Value}(r:bM [x] us):∃u,us=[u]/\RelV x u:=by
 cases r with
 |cons r1 r2=>cases r2;exact⟨_,rfl,r1⟩
theorem vals2{x y:V}{us:List Value}(r:bM [x,y] us):∃u w',us=[u,w']/\RelV x u/\RelV y w':=by
 cases r with
 |cons r1 r2=>
  cases r2 with
  |cons r3 r4=>cases r4;exact⟨_,_,rfl,r1,r3⟩
theorem pG(hc:X.calm=true):eL X (.builtin "min") (fun xs H Q=>∃i j,xs=[.int i,.int j]/\Q (.int (if j<i then j else i)) H):=by
 intro pins s σ H xs us Q I r h;obtain⟨i,j,rfl,q⟩:=h;obtain⟨u,w',rfl,⟨t,rfl⟩,⟨t',rfl⟩⟩:=vals2 r;refine min_two_ints (I.ok.hd hc) fun h' tk k=>⟨_,H,I.kept k,?_,q⟩;by_cases hj:j<i
 ·rw[if_pos hj,if_pos hj];exact⟨_,rfl⟩
 ·rw[if_neg hj,if_neg hj];exact⟨_,rfl⟩
theorem Dh:eL X (.type "int") (fun xs H Q=>(∃i,xs=[.int i]/\Q (.int i) H)\/∃k,xs=[.bl k]/\Q (.int (if k then 1 else 0)) H):=by
 intro pins s σ H xs us Q I r h;rcases h with⟨i,rfl,q⟩ |⟨k,rfl,q⟩
 ·obtain⟨u,rfl,t,rfl⟩:=vals1 r
  exact call_int_int ⟨.int i,H,I,⟨_,rfl⟩,q⟩
 ·obtain⟨u,rfl,r1⟩:=vals1 r
  cases r1;exact call_int_bool ⟨.int (if k then 1 else 0),H,I.tok _,⟨_,rfl⟩,q⟩
end
structure AA(h:Heap)(x dx C:Addr)(mA:Str->Option Value):Prop where
 obj:h.get? x=some (eA C dx)
 ns:h.Ns1 dx mA
 ne:dx≠x
theorem CD{h:Heap}{dx:Addr}{mA:Str->Option Value}(n:h.Ns1 dx mA):∃od,h.get? dx=some od/\∀name,mH name od=some (mA name):=by
 obtain⟨o,es,ep,ho,hd,hk,_,hm⟩:=n;refine⟨o,ho,fun name=>?_⟩;have e:=hm name;unfold nsFind findBy at e;rw[<-pT]at e;unfold mH;rw[hd];dsimp only;split
 ·rename_i y q
  rw[q]at e;exact congrArg some e
 ·rename_i q
  rw[q]at e;have a:es.toList.any (·.refKey)=false:=by
   rw[List.any_eq_false];intro y hy;obtain⟨z,t,hkey⟩:=hk y (iS.mp hy);simp[DictEntry.refKey,hkey]
  have a':¬es.toList.any (·.refKey)=true:=by rw[a];exact aB
  rw[if_neg a'];exact congrArg some e
theorem AA.look{h:Heap}{x dx C:Addr}{mA:Str->Option Value}(I:AA h x dx C mA):∃od,PySem.W.InstAt h x (eA C dx) C (some od)/\∀name,mH name od=some (mA name):=
 let⟨od,ho,hl⟩:=CD I.ns
 ⟨od,⟨I.obj,rfl,rfl,ho⟩,hl⟩
section
variable {prog:Program}{w:World}{A:Around}{E:Value->Shared->Prop}{s:Shared}{K:ae}{x dx C f:Addr}{mA:Str->Option Value}{name:Str}{v:Value}
theorem get_map{expr:Bool}{Q:Value->Shared->Prop}(X:K.In s.heap)(I:AA s.heap x dx C mA)(hg:kE K C name=true)(hh:pQ K C=true)
  (ha:cn K (.ref C) name=some none)(hv:mA name=some v)(hv':G6 v=true)(h:Q v {s with toks:=s.toks+1}):
  wpAny (model prog w) A (BD (.ref x) name expr) Q E s:=by
 obtain⟨od,J,hl⟩:=I.look;exact PySem.W.get_value X J (nz hg).1 (PySem.W.findObj_own hh ha rfl (by rw[hl,hv])) hv' h
theorem Ge{pl:Sem Bool}{Q:Value×List Value->Shared->Prop}(X:K.In s.heap)(I:AA s.heap x dx C mA)(hg:kE K C name=true)
  (hf:cn K (.ref C) name=some (some (.ref f)))(ht:lh K (.ref f)=true)(hv:mA name=none)(h:Q (.ref f,[.ref x]) s):
  wpAny (model prog w) A (getMethod (.ref x) name pl) Q E s:=by
 obtain⟨od,J,hl⟩:=I.look;exact PySem.W.method_fn X J (nz hg).1 (nz hg).2 hf (beq_iff_eq.mp ht) (by show(mH name od).map (·.isSome)=some false;rw[hl,hv];rfl) h
theorem set_map{ns:List Str}{Q:Unit->Shared->Prop}(X:K.In s.heap)(I:AA s.heap x dx C mA)
  (hs:cn K (.ref C) "__setattr__"=some (some (.builtin "object.__setattr__")))(hp:DI K C=true)(ht:sO K C name=some none)(hh:pQ K C=true)
  (hw:gZ mA ns)(hsz:ns.length<=sizeLine)
  (h:∀h',AA h' x dx C (fun y=>if y=name then some v else mA y)->cR dx s.heap h'->Q () {s with heap:=h',toks:=s.toks+2}):
  wpAny (model prog w) A (BC (.ref x) name v) Q E s:=by
 obtain⟨od,J,hl⟩:=I.look;refine PySem.W.set_plain X J hs (PySem.W.osa_open (s:={s with toks:=s.toks+1}) (r:=none) X J hp ht fun b=>?_);obtain⟨cd,hc,hd'⟩:=PySem.W.any_some hh;have hx:s.heap.get? x=some ⟨.ref C,some dx,.plain,#[]⟩:=I.obj;refine aa (ai (aa (aa (qx hx (aa (ma (s:={s with toks:=s.toks+1}) (nC X hc) ?_))))));rw[hd'];refine ai (a:=some dx) (aa (ai (aa ?_)));refine wpAny_nsSet1 (s:={s with toks:=s.toks+1}) I.ns fun h' hn2 hs2=>?_;obtain⟨oD,esD,epD,hoD,hdD,hcD⟩:=hn2.count (mW name v hw);refine aa (yW hoD (by rw[hdD];exact yY (aF hcD (by rw[bo];omega))) ?_);exact ai (h _ ⟨(hs2.2 _ (bK I.ne)).trans I.obj,hn2,I.ne⟩ hs2)
theorem FF{R:Result->Shared->Prop}{vs:List Value}{kw:List (Str×Value)}(X:K.In s.heap)(hm:ll K C=true)
  (hi:cn K (.ref C) "__init__"=some (some (.ref f)))(hf:PySem.W.typeIn K (.ref f)=some (.type "function"))
  (h:eE (model prog w) (A.under (.builtin "type.__call__" ⟨.ref C::vs,kw⟩)) (.call (.ref f) ⟨.ref (s.heap.objs.size+1)::vs,kw⟩) (PySem.W.InitBack (s.heap.objs.size+1) R)
   {s with heap:=(s.heap.push de).push (eA C s.heap.objs.size)}):
  eE (model prog w) A (.call (.ref C) ⟨vs,kw⟩) R s:=by
 obtain⟨hh,g,d,t,os⟩:=s;exact PySem.W.make_core (PySem.W.makes_of X hm) (PySem.W.looks_findIn X hi) (fun self=>PySem.W.bind_fn X self hf) (.inl rfl) h
end
noncomputable def gR(f:Str)(v:V):List (Str×V)->List (Str×V)
 | []=>[(f,v)]
 | (g,x)::r=>if g=f then(g,v)::r else(g,x)::gR f v r
theorem lH(f g:Str)(v:V):∀fs:List (Str×V),(gR f v fs).lookup g=if g=f then some v else fs.lookup g
 | []=>by
  show cg g [(f,v)]=_;by_cases h:g=f
  ·have hb:(g==f)=true:=beq_iff_eq.mpr h
   simp only[cg,hb,if_pos h]
  ·have hb:(g==f)=false:=beq_eq_false_iff_ne.mpr h
   simp only[cg,hb,if_neg h]
 | (k,x)::r=>by
  have ih:=lH f g v r;rw[show gR f v ((k,x)::r)=(if k=f then(k,v)::r else(k,x)::gR f v r)from rfl];by_cases hk:k=f
  ·rw[if_pos hk]
   by_cases h:g=k
   ·have hb:(g==k)=true:=beq_iff_eq.mpr h
    simp only[cg,hb,if_pos (h.trans hk)]
   ·have hb:(g==k)=false:=beq_eq_false_iff_ne.mpr h
    simp only[cg,hb,if_neg (fun e:g=f=>h (e.trans hk.symm))]
  ·rw[if_neg hk]
   by_cases h:g=k
   ·have hb:(g==k)=true:=beq_iff_eq.mpr h
    simp only[cg,hb,if_neg (fun e:g=f=>hk (h.symm.trans e))]
   ·have hb:(g==k)=false:=beq_eq_false_iff_ne.mpr h
    simp only[cg,hb];exact ih
theorem j6(f:Str)(v:V):∀fs:List (Str×V),f∈(gR f v fs).map (·.1)/\∀g,g∈fs.map (·.1)->g∈(gR f v fs).map (·.1)
 | []=>⟨by simp[gR],fun g h=>by simp at h⟩
 | (k,x)::r=>by
  obtain⟨i1,i2⟩:=j6 f v r;rw[show gR f v ((k,x)::r)=(if k=f then(k,v)::r else(k,x)::gR f v r)from rfl];by_cases hk:k=f
  ·rw[if_pos hk]
   subst hk;exact⟨by simp,fun g h=>by simpa using h⟩
  ·rw[if_neg hk]
   refine⟨?_,fun g h=>?_⟩
   ·rw[bC]
    exact aJ _ i1
   ·rw[bC]at h⊢
    rcases aA.mp h with e|e
    ·exact aA.mpr (.inl e)
    ·exact aJ _ (i2 g e)
theorem p8(f:Str)(v:V):∀fs:List (Str×V),(gR f v fs).length<=fs.length+1
 | []=>by simp[gR]
 | (k,x)::r=>by
  have ih:=p8 f v r;rw[show gR f v ((k,x)::r)=(if k=f then(k,v)::r else(k,x)::gR f v r)from rfl];by_cases hk:k=f
  ·rw[if_pos hk,bo,bo];omega
  ·rw[if_neg hk,bo,bo];omega
theorem la.some_of{v:V}{o:Option Value}(r:la (some v) o):∃u,o=some u/\RelV v u:=by
 cases o with
 |none=>exact(show False from r).elim
 |some u=>exact⟨u,rfl,r⟩
theorem la.none_of{o:Option Value}(r:la none o):o=none:=by
 cases o with
 |none=>rfl
 |some u=>exact(show False from r).elim
theorem C1{v:V}{u:Value}(r:RelV v u):G6 u=true:=by
 cases v with
 |non=>cases(show u=bI from r);rfl
 |bl b=>cases(show u=pN b from r);rfl
 |int i=>obtain⟨t,e⟩:=(show ∃t,u=gO i t from r);cases e;rfl
 |str x=>obtain⟨t,e⟩:=(show ∃t,u=fY x t from r);cases e;rfl
 |byt b=>obtain⟨t,e⟩:=(show ∃t,u=Value.bytes b t from r);cases e;rfl
 |flt b=>obtain⟨t,e⟩:=(show ∃t,u=DE b t from r);cases e;rfl
 |ref a=>cases(show u=aX a from r);rfl
 |ty n=>cases(show u=fN n from r);rfl
section
variable {P:Program}{w:World}{H H':Hp}{h h':Heap}{a C dx:Addr}{fs fs':List (Str×V)}
theorem qK(hok:HOk P w H h)(e:H a=some (.ins C dx fs)):∃mA,AA h a dx C mA/\(∀f,la (fs.lookup f) (mA f))/\gZ mA (fs.map (·.1))/\fs.length<=1000/\H dx=some (.own a):=by
 obtain⟨d,z,ne,ob,mA,n,r,q⟩:=(show cZ P w H h a (.ins C dx fs)from hok a _ e);exact⟨mA,⟨ob,n,ne⟩,r,q,z,d⟩
end
structure Cls(K:ae)(C:Addr):Prop where
 pg:kE K C Str.empty=true
 hd:pQ K C=true
 po:DI K C=true
 sa:cn K (.ref C) "__setattr__"=some (some (.builtin "object.__setattr__"))
theorem Cls.get{K:ae}{C:Addr}(c:Cls K C)(f:Str):kE K C f=true:=c.pg
noncomputable def l9(K:ae)(C:Addr)(f:Str):Prop:=cn K (.ref C) f=some none
theorem l9.taker{K:ae}{C:Addr}{f:Str}(n:l9 K C f):sO K C f=some none:=by
 unfold sO;rw[show cn K (.ref C) f=some none from n];rfl
structure Dt(K:ae)(C:Addr)(m:Str)(f:Addr):Prop where
 at_:cn K (.ref C) m=some (some (.ref f))
 fn:lh K (.ref f)=true
 kp:bA K (.ref f)=true
section
variable {X:Cx}{pins:List (Addr×Obj)}{σ:St}{H:Hp}{s:Shared}{a C dx:Addr}{fs:List (Str×V)}{f:Str}{v:V}{A:Around}{E:Value->Shared->Prop}
theorem Ao{b:Bool}{Q:Value->Shared->Prop}(I:Inv X pins σ H s)(e:H a=some (.ins C dx fs))(c:Cls X.K C)(n:l9 X.K C f)(l:fs.lookup f=some v)
  (h:∀u s',Inv X pins σ H s'->RelV v u->Q u s'):wpAny (model X.prog X.w) A (BD (.ref a) f b) Q E s:=by
 obtain⟨mA,O,r,_,_,_⟩:=qK I.hok e;obtain⟨u,hu,ru⟩:=la.some_of (v:=v) (o:=mA f) (by rw[<-l];exact r f);exact get_map I.kIn O (c.get f) c.hd n hu (C1 ru) (h u _ (I.tok _) ru)
theorem r8{m:Str}{g:Addr}{pl:Sem Bool}{Q:Value×List Value->Shared->Prop}(I:Inv X pins σ H s)(e:H a=some (.ins C dx fs))(c:Cls X.K C)(k:Dt X.K C m g)(l:fs.lookup m=none)
  (h:Q (.ref g,[.ref a]) s):wpAny (model X.prog X.w) A (getMethod (.ref a) m pl) Q E s:=by
 obtain⟨mA,O,r,_,_,_⟩:=qK I.hok e;have hn:mA m=none:=la.none_of (by rw[<-l];exact r m);exact Ge I.kIn O (c.get m) k.at_ k.fn hn h
theorem zK{y:V}{u:Value}{Q:Unit->Shared->Prop}(I:Inv X pins σ H s)(e:H a=some (.ins C dx fs))(c:Cls X.K C)(n:l9 X.K C f)(hl:fs.length<1000)(ry:RelV y u)
  (h:∀s',Inv X pins σ (upd H a (.ins C dx (gR f y fs))) s'->Q () s'):wpAny (model X.prog X.w) A (BC (.ref a) f u) Q E s:=by
 obtain⟨mA,O,r,wi,_,ho⟩:=qK I.hok e;have hz:(fs.map (·.1)).length<=sizeLine:=by rw[av,jQ];omega
 refine set_map I.kIn O c.sa c.po n.taker c.hd wi hz fun h' O' sb=>h _ ?_;have hd:∃o,h'.get? dx=some o:=let⟨o,_,_,e',_⟩:=O'.ns;⟨o,e'⟩;refine I.write (x:=a) (e:=dx) (by rw[e];exact True.intro) (.inr ho) (fun b q hb z=>(sb.2 b hb).trans z) hd ?_;refine⟨by rw[aN O.ne];exact ho,?_,O.ne,O'.obj,_,O'.ns,fun g=>?_,fun g hg=>?_⟩
 ·have :=p8 f y fs;omega
 ·show la ((gR f y fs).lookup g) (if g=f then some u else mA g)
  rw[lH];by_cases q:g=f
  ·rw[if_pos q,if_pos q];exact ry
  ·rw[if_neg q,if_neg q];exact r g
 ·by_cases q:g=f
  ·rw[q];exact(j6 f y fs).1
  ·refine(j6 f y fs).2 g (wi g fun z=>hg ?_)
   show(if g=f then some u else mA g)=none;rw[if_neg q];exact z
theorem Inv.made(I:Inv X pins σ H s):Inv X pins σ (upd (upd H s.heap.objs.size (.own (s.heap.objs.size+1))) (s.heap.objs.size+1) (.ins C s.heap.objs.size []))
  {s with heap:=(s.heap.push de).push (eA C s.heap.objs.size)}:=by
 have e1:(s.heap.push de).get? s.heap.objs.size=some de:=au s.heap rfl;have e2:((s.heap.push de).push (eA C s.heap.objs.size)).get? (s.heap.objs.size+1)=some (eA C s.heap.objs.size):=by
  have :=au (s.heap.push de) (o:=eA C s.heap.objs.size) rfl
  rwa [bN]at this
 have e3:(s.heap.push de).Ns s.heap.objs.size (fun _=>none):=⟨de,#[],_,e1,rfl,(fun e he=>absurd he (by simp)),fun _=>rfl⟩;have I1:=I.laid (a:=s.heap.objs.size) (o:=.own (s.heap.objs.size+1)) (h':=s.heap.push de) (t':=s.toks) (fun b u q=>af _ q) (aw _) ⟨_,e1⟩;refine I1.laid (a:=s.heap.objs.size+1) (o:=.ins C s.heap.objs.size []) (t':=s.toks) (fun b u q=>af _ q) (sS (bN _ _)) ?_;have ne:s.heap.objs.size≠s.heap.objs.size+1:=aE (bT _);refine⟨by rw[aN ne,aq],bp _,ne,e2,fun _=>none,(Heap.Ns1.of_empty e3).at fun o q=>af _ q,fun _=>True.intro,fun y hy=>absurd rfl hy⟩
theorem attr_of{prog:Program}{w:World}{env:Env}{e:Expr}{f:Str}{pos:Pos}{s:Shared}{Q:Value->Shared->Prop}(hb:gY e f env (eval e env)=eval e env)
  (h:wpAny (model prog w) A (eval e env) (fun o s₁=>wpAny (model prog w) A (BD o f true) Q E s₁) E s):wpAny (model prog w) A (eval (.Attribute e f pos) env) Q E s:=
 Attribute_any_ h (by rw[arm_eval_Attribute,hb])
end
noncomputable def BY(K:ae)(ta:TE)(f:Str):TE:=fun σ H Q=>ta σ H fun x H1=>∃a C dx fs v,x=.ref a/\H1 a=some (.ins C dx fs)/\Cls K C/\l9 K C f/\fs.lookup f=some v/\Q v H1
noncomputable def EA(K:ae)(ta tv:TE)(f:Str):TS:=fun D σ H=>tv σ H fun y H1=>ta σ H1 fun x H2=>∃a C dx fs,x=.ref a/\H2 a=some (.ins C dx fs)/\Cls K C/\l9 K C f/\fs.length<1000/\
 D.nx σ (upd H2 a (.ins C dx (gR f y fs)))
section
variable {X:Cx}{o e value:Expr}{f:Str}{pos pos' tpos:Pos}{ta tv:TE}
theorem pe_fld(he:PE X e ta)(hb:gY e f X.env (eval e X.env)=eval e X.env):PE X (.Attribute e f pos) (BY X.K ta f):=by
 intro pins s σ H Q I h;refine attr_of hb (thn (he pins s σ H _ I h) fun u s1 ⟨x,H1,I1,rx,a,C,dx,fs,v,ex,ea,c,n,l,q⟩=>?_);subst ex;obtain rfl:u=aX a:=rx;exact Ao I1 ea c n l fun u' s2 I2 ru=>⟨v,H1,I2,ru,q⟩
theorem ps_fld(ha:PE X o ta)(hv:PE X value tv)(hs:kT value (some (.Attribute o f pos')) pos.line X.env=pure false):PS X (.Assign [.Attribute o f pos'] value pos) (EA X.K ta tv f):=by
 intro pins s σ H D I h;refine xl (thn (hv pins s σ H _ I h) fun u s1 ⟨y,H1,I1,ry,q⟩=>thn (ha pins s1 σ H1 _ I1 q) fun ov s2 ⟨x,H2,I2,rx,a,C,dx,fs,ex,ea,c,n,l,q2⟩=>?_) hs;subst ex;obtain rfl:ov=aX a:=rx;exact zK I2 ea c n l ry fun s3 I3=>⟨σ,_,I3,q2⟩
end
section
variable {X:Cx}{pins:List (Addr×Obj)}{σ:St}{H:Hp}{s:Shared}{A:Around}{E:Value->Shared->Prop}{Q:Value->Shared->Prop}{c:Value}{b:Bool}
inductive k9 (K:ae) (H:Hp):V->Value->Prop where
 |non:k9 K H .non (.type "NoneType")
 |bl (x:Bool):k9 K H (.bl x) (.type "bool")
 |int (i:Int):k9 K H (.int i) (.type "int")
 |str (x:Str):k9 K H (.str x) (.type "str")
 |flt (x:UInt64):k9 K H (.flt x) (.type "float")
 |lst {a:Addr} {xs:List V} (e:H a=some (.lst xs)):k9 K H (.ref a) (.type "list")
 |frz {a:Addr} {o:Obj} {xs:List V} (e:H a=some (.frz o (.lst xs))):k9 K H (.ref a) (.type "list")
 |tup {a:Addr} {xs:List V} (e:H a=some (.tup xs)):k9 K H (.ref a) (.type "tuple")
 |dK {a:Addr} {kvs:List (Key×V)} (e:H a=some (.dK kvs)):k9 K H (.ref a) (.type "dict")
 |dT {a:Addr} {kvs:List (List Key×V)} (e:H a=some (.dT kvs)):k9 K H (.ref a) (.type "dict")
 |ins {a C dx:Addr} {fs:List (Str×V)} (e:H a=some (.ins C dx fs)) (cl:Cls K C) (ha:cn K (.ref C) "__class__"=some (some (.builtin "object.__class__")))
   (hn:pO K (.builtin "object.__class__") "__get__"=some (some (.builtin "getset_descriptor.__get__"))) (htk:PySem.W.takesIn K (.builtin "object.__class__")=some true)
   (hm:wZ K C (.type "object")=some true):k9 K H (.ref a) (.ref C)
theorem uy{x:V}{u t:Value}(I:Inv X pins σ H s)(rx:RelV x u)(ty:k9 X.K H x t)(e:cA X.K t c=some b)(h:∀tk,Q (.bool b) {s with toks:=tk}):
  wpAny (model X.prog X.w) A (call (.builtin "isinstance") [u,c]) Q E s:=by
 cases ty with
 |non=>cases(show u=bI from rx);exact cW PySem.W.kitx_none I.kIn True.intro e (fun z=>nomatch z) h
 |bl y=>cases(show u=pN y from rx);exact cW PySem.W.kitx_bool I.kIn True.intro e (fun z=>nomatch z) h
 |int i=>obtain⟨t,q⟩:=(show ∃t,u=gO i t from rx);cases q;exact cW PySem.W.kitx_int I.kIn True.intro e (fun z=>nomatch z) h
 |str y=>obtain⟨t,q⟩:=(show ∃t,u=fY y t from rx);cases q;exact cW PySem.W.kitx_str I.kIn True.intro e (fun z=>nomatch z) h
 |flt y=>obtain⟨t,q⟩:=(show ∃t,u=DE y t from rx);cases q;exact cW PySem.W.kitx_float I.kIn True.intro e (fun z=>nomatch z) h
 | @lst a xs ea=>
  cases(show u=aX a from rx);obtain⟨_,_,n,_,h1⟩:=(show cZ X.prog X.w H s.heap a (.lst xs)from I.hok a _ ea);exact cW DJ I.kIn ⟨_,h1,rfl⟩ e (fun z=>nomatch z) h
 | @frz a ob xs ea=>
  cases(show u=aX a from rx);obtain⟨_,_,_,n,_,h1⟩:=(show cZ X.prog X.w H s.heap a (.frz ob (.lst xs))from I.hok a _ ea);exact cW DJ I.kIn ⟨_,h1,rfl⟩ e (fun z=>nomatch z) h
 | @tup a xs ea=>
  cases(show u=aX a from rx);obtain⟨_,_,_,p⟩:=(show cZ X.prog X.w H s.heap a (.tup xs)from I.hok a _ ea);obtain⟨o,h1,h2,_⟩:=p;exact cW PySem.W.kitx_tuple I.kIn ⟨o,h1,h2⟩ e (fun z=>nomatch z) h
 | @dK a kvs ea=>
  cases(show u=aX a from rx);obtain⟨_,_,vs,_,p⟩:=(show cZ X.prog X.w H s.heap a (.dK kvs)from I.hok a _ ea);obtain⟨o,es,ep,h1,h2,_⟩:=p;exact cW DK I.kIn ⟨o,h1,h2.1⟩ e (fun z=>nomatch z) h
 | @dT a kvs ea=>
  cases(show u=aX a from rx);obtain⟨_,_,xs,_,o,es,ep,h1,h2,_⟩:=(show cZ X.prog X.w H s.heap a (.dT kvs)from I.hok a _ ea);exact cW DK I.kIn ⟨o,h1,h2.1⟩ e (fun z=>nomatch z) h
 | @ins a C dx fs ea cl ha hn htk hm=>
  cases(show u=aX a from rx);obtain⟨mA,O,_⟩:=qK I.hok ea;obtain⟨od,J,_⟩:=O.look;exact cW (PySem.W.kitx_own (cl.get _) cl.hd ha hn htk hm) I.kIn J e (fun z=>nomatch z) h
end
structure gC(k:Nat)(A:Around):Prop where
 hd:A.handled=none
 dp:A.depth+3*k+5<iO
 un:A.units+16*k+200<cLine
theorem gC.mono{j k:Nat}{A:Around}(r:gC k A)(h:j<=k):gC j A:=⟨r.hd,by have :=r.dp;omega,by have :=r.un;omega⟩
theorem gC.deeper{k:Nat}{A:Around}(r:gC (k+1) A)(env:Env):gC k (A.deeper env):=
 ⟨r.hd,by have :=r.dp;show A.depth+1+3*k+5<_;omega,by have :=r.un;show A.units+3+16*k+200<_;omega⟩
theorem Ad{A:Around}{C:Addr}{us:List Value}{kw:List (Str×Value)}:(A.under (.builtin "type.__call__" ⟨.ref C::us,kw⟩)).depth=A.depth+1:=by
 first |rfl|simp[zr,Code.weight,Code.isCreation,Code.isGuard,Code.isCaller,Code.frames,BO,guardIds]
theorem Ac{A:Around}{C:Addr}{us:List Value}{kw:List (Str×Value)}:(A.under (.builtin "type.__call__" ⟨.ref C::us,kw⟩)).units=A.units+1:=by
 first |rfl|simp[zr,Code.cUnits,Code.frames,BO]
theorem gC.make{k:Nat}{A:Around}(r:gC (k+1) A)(C:Addr)(us:List Value)(kw:List (Str×Value)):gC k (A.under (.builtin "type.__call__" ⟨.ref C::us,kw⟩)):=
 ⟨r.hd,by have :=r.dp;rw[Ad];omega,by have :=r.un;rw[Ac];omega⟩
theorem gC.depth{k:Nat}{A:Around}(r:gC k A):A.depth<iO:=by have :=r.dp;omega
theorem gC.units{k:Nat}{A:Around}(r:gC k A):A.units+64<cLine:=by have :=r.un;omega
noncomputable def iG:TA:=fun _ H Q=>Q [] H
noncomputable def iB(ta:TE)(tr:TA):TA:=fun σ H Q=>ta σ H fun x H1=>tr σ H1 fun xs H2=>Q (x::xs) H2
section
variable {X:Cx}{e:Expr}{es:List Expr}{te:TE}{t:TA}{pos:Pos}
theorem jE:PA X [] iG:=fun _ _ _ _ H Q I h=>Calls.spliced_nil ⟨[],H,I,.nil,h⟩
theorem gb(ha:PE X e te)(hr:PA X es t)(hs:aM (e::es) X.env=(false,eval e X.env)::aM es X.env:=by rfl):PA X (e::es) (iB te t):=by
 intro pos pins s σ H Q I h;rw[hs];show wpAny _ _ (spliced ((false,eval e X.env)::backTo pos (aM es X.env))) _ _ s;refine Hg (thn (ha pins s σ H _ I h) fun u s1 ⟨x,H1,I1,r1,q1⟩=>?_);exact thn (hr pos pins s1 σ H1 _ I1 q1) fun us s2 ⟨xs,H2,I2,r2,q2⟩=>⟨x::xs,H2,I2,.cons r1 r2,q2⟩
noncomputable def tTup(t:TA):TE:=fun σ H Q=>t σ H fun xs H1=>xs.length<=sizeLine/\∀p,H1 p=none->Q (.ref p) (upd H1 p (.tup xs))
noncomputable def tLst(t:TA):TE:=fun σ H Q=>t σ H fun xs H1=>xs.length<=sizeLine/\∀p,H1 p=none->Q (.ref p) (upd H1 p (.lst xs))
theorem E1{x1}(h:PA X es t):PE X (.Tuple es x1 pos) (tTup t):=by
 intro pins s σ H Q I hq;refine wpAny_Tuple_spliced (thn (h pos pins s σ H _ I hq) fun us s1 ⟨xs,H1,I1,r,z,q⟩=>⟨by rw[<-r.length];exact z,?_⟩);have hf:H1 s1.heap.objs.size=none:=I1.hok.fresh (aw _);refine⟨.ref s1.heap.objs.size,upd H1 s1.heap.objs.size (.tup xs),I1.laid (t':=s1.toks) (fun b u e=>af _ e) (aw _) ?_,rfl,q _ hf⟩;exact⟨z,us,r,⟨_,au _ rfl,rfl,_,rfl⟩⟩
theorem E8(h:PA X es t):PE X (.List es pos) (tLst t):=by
 intro pins s σ H Q I hq;refine wpAny_List_spliced (thn (h pos pins s σ H _ I hq) fun us s1 ⟨xs,H1,I1,r,z,q⟩=>⟨by rw[<-r.length];exact z,?_⟩);have hf:H1 s1.heap.objs.size=none:=I1.hok.fresh (aw _);refine⟨.ref s1.heap.objs.size,upd H1 s1.heap.objs.size (.lst xs),I1.laid (t':=s1.toks) (fun b u e=>af _ e) (aw _) ?_,rfl,q _ hf⟩;exact⟨z,us,0,r,au _ rfl⟩
end
noncomputable abbrev Sp:=List V->Hp->VK->XK->Prop
noncomputable abbrev CXT:=List Env->Hp->Shared->XK->Value->Shared->Prop
structure AE(P:Program)(w:World)(K:ae)(mg:Str->Option Value)(base:Heap)(A:Around)(outer:List Env)(s:Shared)(H:Hp):Prop where
 frames:A.frames=some outer
 mod:Mod K mg base
 bs:∀b o,base.get? b=some o->s.heap.get? b=some o/\H b=none
 bsz:base.objs.size<=s.heap.objs.size
 r9:s.heap.FunFrames base outer
 frf:∀b∈frs outer,H b=none
 hok:HOk P w H s.heap
 bare:mE s.gens
noncomputable def CE(outer:List Env)(P:Program)(w:World)(H:Hp)(s:Shared)(Q:VK)(u:Value)(s':Shared):Prop:=
 ∃v H',s'.os=s.os/\mE s'.gens/\Un (frs outer) [] H H' s.heap s'.heap/\HOk P w H' s'.heap/\RelV v u/\Q v H'
noncomputable def CR(CX:CXT)(outer:List Env)(P:Program)(w:World)(H:Hp)(s:Shared)(Q:VK)(E:XK)(r:Result)(s':Shared):Prop:=
 match r with
 |.ok (.ret u)=>CE outer P w H s Q u s'
 |.ok _=>False
 |.error e=>CX outer H s E e s'
structure fX(P:Program)(w:World)(K:ae)(mg:Str->Option Value)(base:Heap)(CX:CXT)(k:Nat)(f:Addr)(fd:dI)(ps:List Str)(sp:Sp):Prop where
 len:∀vs H Q E,sp vs H Q E->vs.length=ps.length
 run:∀(A:Around)(outer:List Env)(s:Shared)(H:Hp)(args:Args)(us:List Value)(vs:List V)(Q:VK)(E:XK),gC k A->AE P w K mg base A outer s H->BindsTo s fd args (ps.zip us)->bM vs us->sp vs H Q E->
  eE (model P w) A (.call (.ref f) args) (CR CX outer P w H s Q E) s
theorem AE.make{P:Program}{w:World}{K:ae}{mg:Str->Option Value}{base:Heap}{A:Around}{outer:List Env}{s:Shared}{H:Hp}(e:AE P w K mg base A outer s H)(C:Addr)(us:List Value)(kw:List (Str×Value)):
  AE P w K mg base (A.under (.builtin "type.__call__" ⟨.ref C::us,kw⟩)) outer s H:=⟨by first |exact e.frames| (simpa[zr,Code.envs,BO,pushEnvs]using e.frames),e.mod,e.bs,e.bsz,e.r9,e.frf,e.hok,e.bare⟩
section
variable {X:Cx}{pins:List (Addr×Obj)}{σ:St}{H:Hp}{s s':Shared}
theorem Inv.env0(I:Inv X pins σ H s):AE X.prog X.w X.K X.mg X.base X.A X.stack s H:=
 ⟨I.ok.frames,I.ok.mod,I.bs,aF I.ok.bsz I.sz,I.stack,I.vh,I.hok,I.bare⟩
theorem Inv.after{Q:VK}{u:Value}(I:Inv X pins σ H s)(h:CE X.stack X.prog X.w H s Q u s'):EP X pins σ Q u s':=by
 obtain⟨v,H',os,bare,un,hok,r,q⟩:=h;obtain⟨hh,g,d,t,os'⟩:=s';obtain rfl:os'=s.os:=os;exact⟨v,H',I.call (h':=hh) (g':=g) (d':=d) (t':=t) (ch:=[]) un hok bare (fun b z=>absurd z (by simp)),r,q⟩
end
noncomputable def xE(sp:Sp)(dvs:List V)(E:XK)(t:TA):TE:=fun σ H Q=>t σ H fun vs H1=>sp (vs++dvs) H1 Q E
noncomputable def kL(C:Addr)(m:Str)(sp:Sp)(dvs:List V)(E:XK)(ta:TE)(t:TA):TE:=fun σ H Q=>ta σ H fun x H1=>∃a dx fs,x=.ref a/\H1 a=some (.ins C dx fs)/\fs.lookup m=none/\
 t σ H1 fun vs H2=>sp (x::(vs++dvs)) H2 Q E
noncomputable def tMake(C:Addr)(sp:Sp)(dvs:List V)(E:XK)(t:TA):TE:=fun σ H Q=>t σ H fun vs H1=>∀x dx,H1 x=none->H1 dx=none->dx≠x->
 sp (.ref x::(vs++dvs)) (upd (upd H1 dx (.own x)) x (.ins C dx [])) (fun v H2=>v=.non/\Q (.ref x) H2) E
noncomputable def Binds(K:ae)(fd:dI)(ps:List Str)(ds:List Value):Prop:=
 ∀(s:Shared)(us:List Value),K.In s.heap->(us++ds).length=ps.length->BindsTo s fd ⟨us,[]⟩ (ps.zip (us++ds))
theorem Binds.all{K:ae}{fd:dI}{ps:List Str}(h:∀us:List Value,us.length=ps.length->iR fd ⟨us,[]⟩=pure (ps.zip us)):Binds K fd ps []:=fun s us _ hl=>by
 rw[cX]at hl⊢;exact .of_eq (h us hl)
section
variable {X:Cx}{CX:CXT}{k:Nat}{f C:Addr}{fd:dI}{ps:List Str}{sp:Sp}{dvs:List V}{ds:List Value}{E:XK}{x m:Str}{p pos apos:Pos}{e o:Expr}{es:List Expr}{ta:TE}{t:TA}
structure Mk(K:ae)(C f:Addr):Prop where
 makes:ll K C=true
 init:cn K (.ref C) "__init__"=some (some (.ref f))
 fn:lh K (.ref f)=true
 kp:bA K (.ref C)=true
end
structure wQ(N P:List Str)(sc:Scope):Prop where
 kind:sc.kind=.function
 co:sc.isCoroutine=false
 gen:sc.isGenerator=false
 nd:N.Nodup
 pre:N.take P.length=P
 par:∀x∈P,sc.names.lookup x=some .local\/sc.names.lookup x=some .cell
 nofree:∀y∈sc.names,y.2≠.free
theorem uV{kindOf:Str->Option dH}{x:Str}:∀{binds:List (Str×Value)}{m:Str->Option Value},(∀v,(x,v)∉binds)->bindL kindOf binds m x=m x
 | [],_,_=>rfl
 | (n,v)::r,m,h=>by
  unfold bindL;rw[uV fun w hw=>h w (aJ _ hw)];split
  ·have :x≠n:=by rintro rfl;exact h v aH
   simp[this]
  ·rfl
theorem uX{kindOf:Str->Option dH}{x:Str}:∀{binds:List (Str×Value)}{m:Str->Option Value},(∀v,(x,v)∉binds)->bindC kindOf binds m x=m x
 | [],_,_=>rfl
 | (n,v)::r,m,h=>by
  unfold bindC;rw[uX fun w hw=>h w (aJ _ hw)];split
  ·rfl
  ·have :x≠n:=by rintro rfl;exact h v aH
   simp[this]
theorem uW{kindOf:Str->Option dH}{x:Str}{v:Value}:∀{P:List Str}{vs:List Value}{i:Nat}{m:Str->Option Value},P.Nodup->P[i]? =some x->vs[i]? =some v->kindOf x=some .local->
  bindL kindOf (P.zip vs) m x=some v
 | [],_,_,_,_,h,_,_=>by simp at h
 |_::_,[],_,_,_,_,h,_=>by simp at h
 |p::P,w::vs,0,m,nd,h1,h2,hk=>by
  simp at h1 h2;subst h1;subst h2;show bindL kindOf ((p,w)::P.zip vs) m p=_;unfold bindL;rw[uV fun v hv=>(cO.mp nd).1 (u6 hv).1,if_pos hk];simp
 |p::P,w::vs,i+1,m,nd,h1,h2,hk=>by
  show bindL kindOf ((p,w)::P.zip vs) m x=_;unfold bindL;exact uW (i:=i) (cO.mp nd).2 (by simpa using h1) (by simpa using h2) hk
theorem uY{kindOf:Str->Option dH}{x:Str}{v:Value}:∀{P:List Str}{vs:List Value}{i:Nat}{m:Str->Option Value},P.Nodup->P[i]? =some x->vs[i]? =some v->kindOf x≠some .local->
  bindC kindOf (P.zip vs) m x=some v
 | [],_,_,_,_,h,_,_=>by simp at h
 |_::_,[],_,_,_,_,h,_=>by simp at h
 |p::P,w::vs,0,m,nd,h1,h2,hk=>by
  simp at h1 h2;subst h1;subst h2;show bindC kindOf ((p,w)::P.zip vs) m p=_;unfold bindC;rw[uX fun v hv=>(cO.mp nd).1 (u6 hv).1,if_neg hk];simp
 |p::P,w::vs,i+1,m,nd,h1,h2,hk=>by
  show bindC kindOf ((p,w)::P.zip vs) m x=_;unfold bindC;exact uY (i:=i) (cO.mp nd).2 (by simpa using h1) (by simpa using h2) hk
noncomputable def start(N:List Str)(vs:List V):St:=vs.map some++bL (N.length-vs.length) none
noncomputable def tF(CX:CXT)(P:Program)(w:World)(K:ae)(mg:Str->Option Value)(base:Heap)(N:List Str)(qual:Str)(scope:Scope)(f:Addr)(cd:Value)(A:Around)(outer:List Env)(s:Shared)(H:Hp)(E:XK):Cx where
 prog:=P
 w:=w
 K:=K
 mg:=mg
 base:=base
 A:=A.deeper (envOfC qual scope s.heap.objs.size f cd)
 N:=N
 s₀:=s
 H₀:=H
 env:=envOfC qual scope s.heap.objs.size f cd
 outer:=outer
 stack:=envOfC qual scope s.heap.objs.size f cd::outer
 ex:=[]
 calm:=true
 fn:=fun _=>true
 pn:=[]
 xe:=fun e s'=>wpAny (model P w) (A.deeper (envOfC qual scope s.heap.objs.size f cd)) (leaving (envOfC qual scope s.heap.objs.size f cd) e) (fun _ s''=>CX outer H s E e s'') (fun e' s''=>CX outer H s E e' s'') s'
theorem yG{sc:Scope}{n:Nat}{x:Str}(h:sc.names.lookup x=some .cell):∃c,(cy n sc.names []).lookup x=some c:=by
 have q:=za sc.names n [] (.inl h);exact ck.mp q
theorem CV{CX:CXT}{P:Program}{w:World}{K:ae}{mg:Str->Option Value}{base:Heap}{N ps:List Str}{qual:Str}{scope:Scope}{f:Addr}{cd:Value}{A:Around}{outer:List Env}{s s1:Shared}{H:Hp}{E:XK}{us:List Value}{vs:List V}
  (S:wQ N ps scope)(hd:A.handled=none)(e0:AE P w K mg base A outer s H)(hl:vs.length=ps.length)(r:bM vs us)
  (x:InCallC s s.heap.objs.size (bindL (envOfC qual scope s.heap.objs.size f cd).kindOf (ps.zip us) fun _=>none) (cy (s.heap.objs.size+1) scope.names []) (bindC (envOfC qual scope s.heap.objs.size f cd).kindOf (ps.zip us) fun _=>none) s1):
  Inv (tF CX P w K mg base N qual scope f cd A outer s H E) [] (start N vs) H s1:=by
 have hpl:ps.length<=N.length:=by have :=congrArg gS S.pre;rw[dD]at this;omega
 obtain⟨h1,tk,rfl,hk⟩:=x.done;have noA:∀b:Addr,b∉(tF CX P w K mg base N qual scope f cd A outer s H E).ex:=fun b z=>absurd (show b∈([]:List Addr)from z) (by simp);refine⟨⟨e0.mod,S.kind,rfl,rfl,aw _,fun y z c h1 h2=>?_,fun y hy=>?_,fun y c _ h=>?_,fun _=>hd,Around.frames_deeper e0.frames,.inr ⟨rfl,rfl⟩,fun b z=>absurd z (noA b),e0.bs,e0.bsz,fun b _ _=>noA b,fun b z=>absurd z (noA b),e0.r9,e0.frf⟩,
  rfl,e0.bare,Un.kept hk,⟨_,x.toInCall.ns,fun i y v h1 h2 h3=>?_⟩,fun y c h=>⟨_,x.cell y c h⟩,e0.hok.fresh (aw _),fun y c h=>?_,fun p hp=>absurd (show p∈([]:List (Addr×Obj))from hp) (by simp),e0.hok.kept hk,?_⟩
 ·exact name_of_addr x.apart (bq h1) (bq h2)
 ·have hy:scope.names.lookup y=some .cell\/scope.names.lookup y=some .free:=hy
  rcases hy with hy|hy
  ·exact yG hy
  ·exact absurd rfl (S.nofree _ (bq hy))
 ·exact jS (x.above y c (bq h))
 ·have hi:i<vs.length:=by
   unfold start at h2;by_cases hi:i<vs.length
   ·exact hi
   ·rw[fR (by simpa using hi)]at h2
    rw[List.getElem?_replicate]at h2;split at h2<;>cases h2
  have ha:vs[i]? =some v:=by
   unfold start at h2;rw[km (by simpa using hi),aQ]at h2;cases e:vs[i]? with
   |none=>rw[e]at h2;cases h2
   |some a=>rw[e]at h2;cases h2;rfl
  obtain⟨u,hu,rv⟩:=r.get ha;have hp:ps[i]? =some y:=by
   rw[<-S.pre,zl (by omega)];exact h1
  have ndP:ps.Nodup:=by rw[<-S.pre];exact S.nd.sublist (kG _ _)
  refine⟨u,rv,?_⟩;rcases S.par y (bf hp)with k|k
  ·exact .inl ⟨k,uW ndP hp hu k⟩
  ·obtain⟨c,e⟩:=yG (n:=s.heap.objs.size+1) k
   refine .inr ⟨.inl k,c,e,?_⟩;have q:=x.cell y c e;rw[uY ndP hp hu (by show scope.names.lookup y≠_;rw[k];decide)]at q;exact q
 ·exact e0.hok.fresh (jS (x.above y c (bq h)))
 ·unfold start
  show _=N.length;rw[cm,av,List.length_replicate];omega
theorem fn_of{CX:CXT}{P:Program}{w:World}{K:ae}{mg:Str->Option Value}{base:Heap}{k:Nat}{f:Addr}{name qual:Str}{params:Arguments}{body:List Stmt}{scope:Scope}{dV kV doc pm cdv ct oc:Value}{an od:Option Addr}
  {osl:Array (Option Value)}{N ps:List Str}{sp:Sp}(lk:K.lookup f=some ⟨oc,od,.func (aC name qual params body scope dV kV doc pm an cdv ct),osl⟩)(hcd:cJ K cdv qual=true)(S:wQ N ps scope)
  (len:∀vs H Q E,sp vs H Q E->vs.length=ps.length)
  (hbody:∀(A:Around)(outer:List Env)(s:Shared)(H:Hp)(vs:List V)(Q:VK)(E:XK),gC k (A.deeper (envOfC qual scope s.heap.objs.size f cdv))->sp vs H Q E->
   ∃t,PSs (tF CX P w K mg base N qual scope f cdv A outer s H E) body t/\t {nx:=fun _ H'=>Q .non H',rt:=Q} (start N vs) H):
  fX P w K mg base CX (k+1) f (aC name qual params body scope dV kV doc pm an cdv ct) ps sp:=by
 refine⟨len,fun A outer s H args us vs Q E hr e0 hb r hsp=>?_⟩;have hl:=len _ _ _ _ hsp;have KX:K.In s.heap:=e0.mod.kin.keeps fun b o e=>(e0.bs b o e).1;have lim:s.heap.NoLimit:=e0.mod.nolimit.keeps fun b o e=>(e0.bs b o e).1;have hkind:∀y∈ps.zip us,scope.names.lookup y.1=some .local\/(scope.names.lookup y.1=some .cell/\((cy (s.heap.objs.size+1) scope.names []).lookup y.1).isSome=true):=fun⟨n,v⟩ hy=>by
  rcases S.par n (u6 hy).1 with q|q
  ·exact .inl q
  ·exact .inr ⟨q,za _ _ _ (.inl q)⟩
 refine codeAny_call_function hr.depth (KX _ _ lk) rfl S.co S.gen rfl (PySem.W.codeRec_of KX hcd) (hb _ _ _ _ ?_);refine wpAny_newFunctionEnv_cells S.kind hkind fun env he s1 x=>?_;subst he;refine⟨lim.keeps x.toInCall.keep,codeAny_func ?_⟩;obtain⟨t,ht,hq⟩:=hbody A outer s H vs Q E (hr.deeper _) hsp;have I:Inv (tF CX P w K mg base N qual scope f cdv A outer s H E) [] (start N vs) H s1:=CV S hr.hd e0 hl r x;refine cH (ht [] s1 (start N vs) H _ I hq) (fun fl s' hs=>?_) fun e s' hs=>hs;have fin:∀{σ':St}{H':Hp}{v:V}{u:Value},Inv (tF CX P w K mg base N qual scope f cdv A outer s H E) [] σ' H' s'->RelV v u->Q v H'->CE outer P w H s Q u s':=
  fun{σ' H' v u} J rv q=>⟨v,H',J.os,J.bare,J.base,J.hok,rv,q⟩
 cases fl with
 |ret u=>
  obtain⟨v,σ',H',J,rv,q⟩:=hs;exact fin J rv q
 |next =>
  obtain⟨σ',H',J,q⟩:=hs;exact fin (v:=V.non) (u:=bI) J rfl q
 |brk=>
  obtain⟨_,_,_,q⟩:=hs;exact d8 q
 |cont=>
  obtain⟨_,_,_,q⟩:=hs;exact d8 q
section
variable {X:Cx}{x:Str}{p pos:Pos}{e:Expr}{es:List Expr}{t:TA}{id T:String}{r:List V->Hp->VK->Prop}
noncomputable def tCB(r:List V->Hp->VK->Prop)(t:TA):TE:=fun σ H Q=>t σ H fun vs H1=>r vs H1 Q
theorem cD(hc:eL X (.builtin id) r)(hg:Gl X x)(hm:X.mg x=none)(hv:eQ x=some (.builtin id))(ha:PA X (e::es) t)(hn:x≠"__name__":=by decide) (hdb:(x==("__debug__":Str))=false:=by decide)
  (he:aM (e::es) X.env=(false,eval e X.env)::aM es X.env:=by rfl) (hpl:(backTo pos (aM es X.env)).any (·.1)=false:=by rfl):PE X (.Call (.Name x p) (e::es) [] pos) (tCB r t):=by
 intro pins s σ H Q I h;refine dN (kz I hg hm hv ?_ hn hdb);exact gP (thn (ha pos pins s σ H _ I h) fun us s1 ⟨vs,H1,I1,r1,q1⟩=>hc pins s1 σ H1 vs us Q I1 r1 q1) he hpl
theorem gz(hc:eL X (.type T) r)(hg:Gl X x)(hm:X.mg x=none)(hv:eQ x=some (.type T))(ha:PA X (e::es) t)(hn:x≠"__name__":=by decide) (hdb:(x==("__debug__":Str))=false:=by decide)
  (he:aM (e::es) X.env=(false,eval e X.env)::aM es X.env:=by rfl) (hpl:(backTo pos (aM es X.env)).any (·.1)=false:=by rfl):PE X (.Call (.Name x p) (e::es) [] pos) (tCB r t):=by
 intro pins s σ H Q I h;refine dN (kz I hg hm hv ?_ hn hdb);exact dJ (thn (ha pos pins s σ H _ I h) fun us s1 ⟨vs,H1,I1,r1,q1⟩=>hc pins s1 σ H1 vs us Q I1 r1 q1) he hpl
end
end L2
namespace HT
open PySem PyProof.Rows
section
open PySem.SeqAt
open PySem.AutoSeq1 (wpAny_loadPart')
open PySem.MeetsSeq PySem.MeetsSeq2 PySem.MeetsSeq3
end
section
variable {prog:Program}{w:World}{A:Around}{E:Value->Shared->Prop}{s:Shared}
theorem cat_tup{t b:Addr}{vs ws:List Value}{Q:Value->Shared->Prop}(ht:IsTup s.heap t vs.toArray)(hb:IsTup s.heap b ws.toArray)(hv:vs≠[])
  (h1:ws=[]->Q (.ref t) s)(h2:ws≠[]->Q (.ref s.heap.objs.size) {s with heap:=s.heap.push {cls:=.type "tuple",data:=.seq (vs++ws).toArray}})
  (hsz:vs.length+ws.length<=sizeLine):wpAny (model prog w) A (dX .Add (.ref t) (.ref b)) Q E s:=by
 obtain⟨⟨cls,dd,data,sl⟩,ho,hc,n,hd⟩:=id ht;obtain⟨⟨cls2,dd2,data2,sl2⟩,ho2,hc2,n2,hd2⟩:=id hb;simp only at hc hd hc2 hd2;subst hc hd hc2 hd2;have e:vs.toArray++ws.toArray=(vs++ws).toArray:=by simp
 by_cases hw:ws=[]
 ·exact concat_meets ⟨_,ho,rfl⟩ ⟨_,ho2,rfl⟩ y6 G0 lj kF (kh _ _)
   (tuple_addW1 t b vs.toArray ws.toArray n n2 dd dd2 sl sl2 (by simpa using hv) (by simp[hw])) ⟨ho,ho2,h1 hw⟩
 ·refine concat_meets ⟨_,ho,rfl⟩ ⟨_,ho2,rfl⟩ y6 G0 lj kF (kh _ _)
   (tuple_addW2 t b vs.toArray ws.toArray n n2 dd dd2 sl sl2 (by simpa using hv) (by simpa using hw) (by rw[ay,ay];exact hsz)) ⟨ho,ho2,?_⟩
  rw[e];exact h2 hw
noncomputable def sIx(n d:Nat):Option Int->Nat
 |none=>d
 |some v=>if v<0 then(v+(n:Int)).toNat else min v.toNat n
theorem Ex(n d:Nat)(hd:d<=n)(o:Option Int):sIx n d o<=n:=by
 cases o with
 |none=>exact hd
 |some v=>
  show(if v<0 then(v+(n:Int)).toNat else min v.toNat n)<=n;by_cases hv:v<0
  ·rw[if_pos hv];omega
  ·rw[if_neg hv];exact Nat.min_le_right _ _
theorem clip_eq(v:Int)(n d:Nat):(if v<0 then max (v+(n:Int)) 0 else min v (n:Int))=((sIx n d (some v):Nat):Int):=by
 show(if v<0 then max (v+(n:Int)) 0 else min v (n:Int))=(((if v<0 then(v+(n:Int)).toNat else min v.toNat n):Nat):Int);by_cases hv:v<0
 ·simp only[if_pos hv];omega
 ·simp only[if_neg hv];omega
end
end HT
namespace L2
open PySem PySem.Spec PyProof.Rows
noncomputable abbrev TO:=St->Hp->(Option Int->Hp->Prop)->Prop
noncomputable def PO(X:Cx)(e:Option Expr)(t:TO):Prop:=
 ∀(pins:List (Addr×Obj))(s:Shared)(σ:St)(H:Hp)(Q:Option Int->Hp->Prop),Inv X pins σ H s->t σ H Q->
  wpAny (model X.prog X.w) X.A (evalPart e X.env) (fun u s'=>∃o H',Inv X pins σ H' s'/\IsPart u o/\Q o H') X.xe s
noncomputable def ve:TO:=fun _ H Q=>Q none H
noncomputable def D6(t:TE):TO:=fun σ H Q=>t σ H fun x H1=>∃i,x=.int i/\Q (some i) H1
theorem intsAre_of{ns:List Int}:∀{us:List Value},bM (ns.map V.int) us->b7 us ns:=by
 induction ns with
 |nil=>intro us r;rw[jB]at r;cases r;exact .nil
 |cons n ns ih=>
  intro us r;rw[bC]at r;cases r with
  |cons r1 r2=>
   obtain⟨t,e⟩:=r1;subst e;exact .cons n t (ih r2)
section
variable {X:Cx}{e:Expr}{te:TE}{lo hi:Option Expr}{tl th:TO}{pos p2:Pos}
theorem po_none:PO X none ve:=by
 intro pins s σ H Q I h;rw[evalPart_none];exact ai ⟨none,H,I,.none,h⟩
theorem po_some(h:PE X e te):PO X (some e) (D6 te):=by
 intro pins s σ H Q I hw;rw[evalPart_some];refine thn (h pins s σ H _ I hw) fun u s1 ⟨x,H1,I1,r1,q1⟩=>?_;obtain⟨i,rfl,q⟩:=q1;obtain⟨t,rfl⟩:=r1;exact⟨some i,H1,I1,.int i t,q⟩
noncomputable def SlR(X:Cx)(r:V->Option Int->Option Int->Hp->VK->Prop):Prop:=
 ∀(pins:List (Addr×Obj))(s:Shared)(σ:St)(H:Hp)(x:V)(v vl vu:Value)(lo hi:Option Int)(sl:Addr)(Q:VK),Inv X pins σ H s->RelV x v->s.heap.IsSliceOf sl vl vu .none->IsPart vl lo->IsPart vu hi->r x lo hi H Q->
  ∃T id,typeLookup (.type T) "__getitem__"=pure (some (.builtin id))/\s.TypeIs v T/\wpAny (model X.prog X.w) X.A (getItem v (.ref sl)) (EP X pins σ Q) X.xe s
theorem SlR.or{r r':V->Option Int->Option Int->Hp->VK->Prop}(h:SlR X r)(h':SlR X r'):SlR X (fun x lo hi H Q=>r x lo hi H Q\/r' x lo hi H Q):=by
 intro pins s σ H x v vl vu lo hi sl Q I rx hs pl pu q;rcases q with q|q
 ·exact h pins s σ H x v vl vu lo hi sl Q I rx hs pl pu q
 ·exact h' pins s σ H x v vl vu lo hi sl Q I rx hs pl pu q
noncomputable def tSl(r:V->Option Int->Option Int->Hp->VK->Prop)(te:TE)(tl th:TO):TE:=fun σ H Q=>te σ H fun x H1=>tl σ H1 fun l H2=>th σ H2 fun u H3=>r x l u H3 Q
theorem E4{r:V->Option Int->Option Int->Hp->VK->Prop}(hr:SlR X r)(he:PE X e te)(hl:PO X lo tl)(hu:PO X hi th):PE X (.Subscript e (.Slice lo hi none p2) pos) (tSl r te tl th):=by
 intro pins s σ H Q I h;refine Subscript_ (thn (he pins s σ H _ I h) fun v s1 ⟨x,H1,I1,r1,q1⟩=>?_);refine wpAny_Slice (thn (hl pins s1 σ H1 _ I1 q1) fun vl s2 ⟨l,H2,I2,pl,q2⟩=>thn (hu pins s2 σ H2 _ I2 q2) fun vu s3 ⟨u,H3,I3,pu,q3⟩=>?_);rw[evalPart_none];refine ai ?_;have I4:Inv X pins σ H3 {s3 with heap:=s3.heap.push {cls:=.type "slice",data:=.fields #[vl,vu,.none]}}:=I3.kept (t':=s3.toks) fun b ob q=>af _ q;obtain⟨T,id,hT,ht,hg⟩:=hr pins {s3 with heap:=s3.heap.push {cls:=.type "slice",data:=.fields #[vl,vu,.none]}} σ H3 x v vl vu l u s3.heap.objs.size Q I4 r1 (Heap.IsSliceOf.new ..) pl pu q3;show wpAny (model X.prog X.w) X.A (GZ e (.Slice lo hi none p2) v (.ref s3.heap.objs.size)) (EP X pins σ Q) X.xe {s3 with heap:=s3.heap.push {cls:=.type "slice",data:=.fields #[vl,vu,.none]}};exact tail_any (ops:=[.ref s3.heap.objs.size,v]) ht hT hg (by with_unfolding_all rfl)
noncomputable def GB(xs:List V)(lo hi:Option Int):List V:=(xs.drop (HT.sIx xs.length 0 lo)).take (HT.sIx xs.length xs.length hi-HT.sIx xs.length 0 lo)
theorem yB(xs:List V)(lo hi:Option Int):(GB xs lo hi).length<=xs.length:=by
 unfold GB;rw[dD,List.length_drop];omega
noncomputable def rSlT(K:ae):V->Option Int->Option Int->Hp->VK->Prop:=fun x lo hi H Q=>∃a xs,x=.ref a/\SqT K H a xs/\
 ¬(HT.sIx xs.length 0 lo=0/\HT.sIx xs.length xs.length hi=xs.length)/\∀p,H p=none->Q (.ref p) (upd H p (.tup (GB xs lo hi)))
noncomputable def AW(K:ae):R2:=fun x y H Q=>∃a b xs ys,x=.ref a/\y=.ref b/\SqT K H a xs/\SqT K H b ys/\xs≠[]/\xs.length+ys.length<=sizeLine/\
 (ys=[]->Q (.ref a) H)/\(ys≠[]->∀p,H p=none->Q (.ref p) (upd H p (.tup (xs++ys))))
theorem bM.vW{xs:List V}{us:List Value}(r:bM xs us):us=[]↔xs=[]:=by
 cases r with
 |nil=>simp
 |cons _ _=>simp
theorem op_catT:OpR X (dX .Add) (AW X.K):=by
 intro pins s σ H x y v u Q I rx ry h;obtain⟨a,b,xs,ys,rfl,rfl,ha,hb,hx,hz,q1,q2⟩:=h;cases rx;cases ry;obtain⟨its,r1,p1,_⟩:=I.tuple ha;obtain⟨its2,r2,p2,_⟩:=I.tuple hb;refine HT.cat_tup p1 p2 (fun z=>hx (r1.vW.mp z)) (fun z=>⟨.ref a,H,I,rfl,q1 (r2.vW.mp z)⟩) (fun z=>?_) (by rw[<-r1.length,<-r2.length];exact hz);refine⟨.ref s.heap.objs.size,_,I.laid (t':=s.toks) (o:=.tup (xs++ys)) (fun b ob q=>af _ q) (aw _) ?_,rfl,q2 (fun w=>z (r2.vW.mpr w)) _ (I.hok.fresh (aw _))⟩;exact⟨by rw[cm];exact hz,_,r1.append r2,IsTup.new _ _⟩
end
noncomputable def ixN(n:Nat)(i:Int):Option Nat:=if 0<=i then(if i<n then some i.toNat else none)else if -(n:Int)<=i then some (i+n).toNat else none
noncomputable def atI{α:Type}(xs:List α)(i:Int):Option α:=(ixN xs.length i).bind fun j=>xs[j]?
theorem Bj{n:Nat}{i:Int}{j:Nat}(h:ixN n i=some j):seqIndex? i n=some j/\j<n∧-(n:Int)<=i/\i<n:=by
 unfold ixN at h;by_cases h0:0<=i
 ·rw[if_pos h0]at h
  by_cases h1:i<n
  ·rw[if_pos h1]at h
   have e:i.toNat=j:=aP h;exact⟨by rw[ze h0 h1,e],by omega,by omega,h1⟩
  ·rw[if_neg h1]at h;cases h
 ·rw[if_neg h0]at h
  by_cases h1: -(n:Int)<=i
  ·rw[if_pos h1]at h
   have e:(i+n).toNat=j:=aP h;exact⟨by rw[seqIndex_neg (by omega) h1,e],by omega,h1,by omega⟩
  ·rw[if_neg h1]at h;cases h
theorem wL{α:Type}{xs:List α}{i:Int}{v:α}(h:atI xs i=some v):∃j,seqIndex? i xs.length=some j/\xs[j]? =some v/\j<xs.length∧-(xs.length:Int)<=i/\i<xs.length:=by
 unfold atI at h;cases e:ixN xs.length i with
 |none=>rw[e]at h;cases h
 |some j=>
  rw[e]at h;obtain⟨h1,h2,h3,h4⟩:=Bj e;exact⟨j,h1,h,h2,h3,h4⟩
theorem d0{α:Type}{xs:List α}{j:Nat}{v:α}(h:xs[j]? =some v):atI xs (j:Int)=some v:=by
 have hj:j<xs.length:=(aY.mp h).1;have e:ixN xs.length (j:Int)=some j:=by
  unfold ixN;rw[if_pos (by omega),if_pos (by omega)];simp
 unfold atI;rw[e];exact h
noncomputable def BA(b:Expr):Prop:=∀o i,subscripted b false o i=operate [o,i] (getItem o i)
noncomputable def IxR(X:Cx)(r:R2):Prop:=
 ∀(value slice:Expr)(pins:List (Addr×Obj))(s:Shared)(σ:St)(H:Hp)(x y:V)(v u:Value)(Q:VK),Inv X pins σ H s->RelV x v->RelV y u->r x y H Q->
  subscripted slice false v u=operate [v,u] (getItem v u)->wpAny (model X.prog X.w) X.A (GZ value slice v u) (EP X pins σ Q) X.xe s
noncomputable def MtR(X:Cx)(id:String)(r:V->List V->Hp->VK->Prop):Prop:=
 ∀(pins:List (Addr×Obj))(s:Shared)(σ:St)(H:Hp)(x:V)(xs:List V)(v:Value)(us:List Value)(Q:VK),Inv X pins σ H s->RelV x v->bM xs us->r x xs H Q->
  wpAny (model X.prog X.w) X.A (call (.builtin id) (v::us)) (EP X pins σ Q) X.xe s
section
variable {X:Cx}{a b:Expr}{ta tb:TE}{pos:Pos}
theorem IxR.or{r r':R2}(h:IxR X r)(h':IxR X r'):IxR X (fun x y H Q=>r x y H Q\/r' x y H Q):=by
 intro value slice pins s σ H x y v u Q I rx ry q hs;rcases q with q|q
 ·exact h value slice pins s σ H x y v u Q I rx ry q hs
 ·exact h' value slice pins s σ H x y v u Q I rx ry q hs
theorem MtR.or{id:String}{r r':V->List V->Hp->VK->Prop}(h:MtR X id r)(h':MtR X id r'):MtR X id (fun x xs H Q=>r x xs H Q\/r' x xs H Q):=by
 intro pins s σ H x xs v us Q I rx rs q;rcases q with q|q
 ·exact h pins s σ H x xs v us Q I rx rs q
 ·exact h' pins s σ H x xs v us Q I rx rs q
theorem E9{r:R2}(hr:IxR X r)(ha:PE X a ta)(hb:PE X b tb)(hs:BA b):PE X (.Subscript a b pos) (tOp r ta tb):=by
 intro pins s σ H Q I h;exact Subscript_ (binT ha hb I h fun v u s2 x y H2 I2 rx ry q=>hr a b pins s2 σ H2 x y v u Q I2 rx ry q (hs _ _))
noncomputable def rIxL(K:ae):R2:=fun x y H Q=>∃p xs i v,x=.ref p/\y=.int i/\SqL K H p xs/\atI xs i=some v/\Q v H
noncomputable def rIxT(K:ae):R2:=fun x y H Q=>∃p xs i v,x=.ref p/\y=.int i/\SqT K H p xs/\atI xs i=some v/\Q v H
noncomputable def rIxS:R2:=fun x y H Q=>∃z i c,x=.str z/\y=.int i/\z.length<=sizeLine/\atI z.cps.toList i=some c/\Q (.str ⟨#[c]⟩) H
theorem ix_list:IxR X (rIxL X.K):=by
 intro value slice pins s σ H x y v u Q I rx ry h hs;obtain⟨p,xs,i,z,rfl,rfl,hq,he,q⟩:=h;cases rx;obtain⟨t,rfl⟩:=ry;obtain⟨its,r,pl,hz⟩:=I.list hq;obtain⟨j,h1,h2,h3,h4,h5⟩:=wL he;obtain⟨w,ew,rw'⟩:=r.get h2;have hl:=r.length;have hn:=m5;have fin:EP X pins σ Q w s:=⟨z,H,I,rw',q⟩;by_cases h0:0<=i
 ·have hj:i.toNat=j:=by
   rw[ze h0 h5]at h1;exact aP h1
  exact item_listR pl.isList h0 (by omega) (by rw[hj];simpa using ew) fin hs
 ·have hj:(i+(its.toArray.size:Int)).toNat=j:=by
   rw[seqIndex_neg (by omega) h4]at h1;rw[ay,<-hl];exact aP h1
  exact oW (x:=w) pl.isList.typeIs slot_list_getitem.lookup
   (wpAny_getItem_list_neg (Q:=fun r s'=>r=w/\EP X pins σ Q r s') pl.isList (by omega) (by rw[ay]<;>omega) (by omega) (by rw[hj];simpa using ew) ⟨rfl,fin⟩) hs
theorem ix_tup:IxR X (rIxT X.K):=by
 intro value slice pins s σ H x y v u Q I rx ry h hs;obtain⟨p,xs,i,z,rfl,rfl,hq,he,q⟩:=h;cases rx;obtain⟨t,rfl⟩:=ry;obtain⟨its,r,pl,hz⟩:=I.tuple hq;obtain⟨j,h1,h2,h3,h4,h5⟩:=wL he;obtain⟨w,ew,rw'⟩:=r.get h2;have hl:=r.length;have hn:=m5;have fin:EP X pins σ Q w s:=⟨z,H,I,rw',q⟩;exact oW (x:=w) pl.typeIs slot_tuple_getitem.lookup
  (getItem_tuple (j:=j) (Q:=fun r s'=>r=w/\EP X pins σ Q r s') pl (by omega) (by omega) (by rw[ay,<-hl];exact h1) (by simpa using ew) ⟨rfl,fin⟩) hs
theorem ix_str:IxR X rIxS:=by
 intro value slice pins s σ H x y v u Q I rx ry h hs;obtain⟨z,i,c,rfl,rfl,hz,he,q⟩:=h;obtain⟨t,rfl⟩:=rx;obtain⟨t',rfl⟩:=ry;obtain⟨j,h1,h2,h3,h4,h5⟩:=wL he;have hl:z.cps.toList.length=z.length:=by simp[y9]
 rw[hl]at h1 h4 h5;have hn:=m5;exact tail_any (typeIs_str s z t) slot_str_getitem.lookup (getItem_str (c:=c) (by
  have e1:decide (i< -(2^63:Int))=false:=decide_eq_false (by omega);have e2:decide (i≥ 2^63)=false:=decide_eq_false (by omega);rw[e1,e2,Bool.or_false]) (by rw[h1];simpa using h2) ⟨.str ⟨#[c]⟩,H,I.tok _,⟨_,rfl⟩,q⟩) hs
noncomputable def rIx(K:ae):R2:=fun x y H Q=>rIxL K x y H Q\/rIxT K x y H Q\/rIxS x y H Q
theorem FY:IxR X (rIx X.K):=ix_list.or (ix_tup.or ix_str)
theorem Ab(its:List Value)(n j:Nat)(u:Value):aW (·.setIfInBounds j u) {cls:=.type "list",data:=.seq its.toArray n}={cls:=.type "list",data:=.seq (its.set j u).toArray n}:=by
 simp[aW]
theorem Inv.lst{pins:List (Addr×Obj)}{σ:St}{H:Hp}{s:Shared}{p:Addr}{xs:List V}(I:Inv X pins σ H s)(h:H p=some (.lst xs)):
  ∃(its:List Value)(n:Nat),bM xs its/\s.heap.get? p=some {cls:=.type "list",data:=.seq its.toArray n}/\xs.length<=sizeLine:=by
 obtain⟨z,its,n,r,e⟩:=I.hok p _ h;exact⟨its,n,r,e,z⟩
theorem Inv.lstUpd{pins:List (Addr×Obj)}{σ:St}{H:Hp}{s:Shared}{p:Addr}{xs ys:List V}{its its':List Value}{n n':Nat}{f:Obj->Obj}(I:Inv X pins σ H s)(h:H p=some (.lst xs))
  (ho:s.heap.get? p=some {cls:=.type "list",data:=.seq its.toArray n}) (hf:f {cls:=.type "list",data:=.seq its.toArray n}={cls:=.type "list",data:=.seq its'.toArray n'}) (r:bM ys its') (hz:ys.length<=sizeLine) (t:Nat):
  Inv X pins σ (upd H p (.lst ys)) {s with heap:=s.heap.update p f,toks:=t}:=by
 have e:(s.heap.update p f).get? p=some {cls:=.type "list",data:=.seq its'.toArray n'}:=by
  rw[bF f ho (by rw[hf]<;>rfl),hf]
 refine I.write (x:=p) (e:=p) (by rw[h];trivial) (.inl rfl) (fun b u hb q=>(aD _ _ (bK hb)).trans q) ⟨_,e⟩ ?_;exact⟨hz,its',n',r,e⟩
noncomputable def rSetL:V->V->V->Hp->(Hp->Prop)->Prop:=fun o i v H Q=>∃p xs k j,o=.ref p/\i=.int k/\H p=some (.lst xs)/\ixN xs.length k=some j/\Q (upd H p (.lst (xs.set j v)))
theorem set_list:PSet X rSetL:=by
 intro pins s σ H o i v ov iv u Q I ro ri rv h;obtain⟨p,xs,k,j,rfl,rfl,hp,hj,q⟩:=h;cases ro;obtain⟨t,rfl⟩:=ri;obtain⟨its,n,r,ho,hz⟩:=I.lst hp;obtain⟨h1,h2,h3,h4⟩:=Bj hj;have hl:=r.length;have hn:=m5;have I':Inv X pins σ (upd H p (.lst (xs.set j v))) {s with heap:=s.heap.update p (aW (·.setIfInBounds j u))}:=
  I.lstUpd hp ho (Ab its n j u) (r.set rv j) (by rw[List.length_set];exact hz) s.toks
 by_cases h0:0<=k
 ·have hk:k.toNat=j:=by
   rw[ze h0 h4]at h1;exact aP h1
  exact PySem.W.ki_setAt ho h0 (by omega) (by rw[ay,<-hl];exact h4) (by rw[hk];exact⟨_,I',q⟩)
 ·have hk:(k+(its.toArray.size:Int)).toNat=j:=by
   rw[seqIndex_neg (by omega) h3]at h1;rw[ay,<-hl];exact aP h1
  exact PySem.W.ki_setBack ho (by omega) (by rw[ay,<-hl];exact h3) (by omega) (by rw[hk];exact⟨_,I',q⟩)
theorem vq(lo hi:Option Int)(n:Nat):(jP lo hi none n).1=((HT.sIx n 0 lo:Nat):Int)/\(jP lo hi none n).2.1=((HT.sIx n n hi:Nat):Int)/\(jP lo hi none n).2.2=1:=by
 refine⟨?_,?_,rfl⟩
 ·cases lo with
  |none=>simp[jP,HT.sIx]
  |some i=>
   simp only[jP,HT.sIx,qN,show(1:Int)>0 by decide,if_true];by_cases h:i<0
   ·simp only[h,if_true]<;>omega
   ·simp only[h,if_false]<;>omega
 ·cases hi with
  |none=>simp[jP,HT.sIx]
  |some i=>
   simp only[jP,HT.sIx,qN,show(1:Int)>0 by decide,if_true];by_cases h:i<0
   ·simp only[h,if_true]<;>omega
   ·simp only[h,if_false]<;>omega
theorem tj(its:List Value)(lo hi:Option Int):slicePick its.toArray lo hi none=((its.drop (HT.sIx its.length 0 lo)).take (HT.sIx its.length its.length hi-HT.sIx its.length 0 lo)).toArray:=by
 obtain⟨h1,h2,h3⟩:=vq lo hi its.toArray.size;unfold slicePick;rw[h1,h2,h3];simp only[sliceRange_one,pick_run,ay]<;>rfl
noncomputable def rSlL(K:ae):V->Option Int->Option Int->Hp->VK->Prop:=fun x lo hi H Q=>∃a xs,x=.ref a/\SqL K H a xs/\∀p,H p=none->Q (.ref p) (upd H p (.lst (GB xs lo hi)))
theorem sl_list:SlR X (rSlL X.K):=by
 intro pins s σ H x v vl vu lo hi sl Q I rx hs pl pu h;obtain⟨a,xs,rfl,hx,q⟩:=h;cases rx;obtain⟨its,r,ht,hz⟩:=I.list hx;have hlen:=r.length;refine⟨"list",_,slot_list_getitem.lookup,ht.isList.typeIs,?_⟩;refine wpAny_getItem_list_slice ht.isList hs pl pu .none (by simp) ?_ (by rw[ay]<;>omega);rw[tj,<-hlen];refine⟨.ref s.heap.objs.size,_,I.laid (t':=s.toks) (o:=.lst (GB xs lo hi)) (fun b ob q=>af _ q) (aw _) ?_,rfl,q _ (I.hok.fresh (aw _))⟩;exact⟨aF (yB xs lo hi) hz,_,0,(r.drop (HT.sIx xs.length 0 lo)).take (HT.sIx xs.length xs.length hi-HT.sIx xs.length 0 lo),au _ rfl⟩
noncomputable def ow:V->Bool
 |.non=>true
 |.bl _=>true
 |.int _=>true
 |.str _=>true
 |_=>false
noncomputable def eqV:V->V->Bool
 |.non,.non=>true
 |.bl a,.bl b=>a==b
 |.bl a,.int b=>(if a then 1 else 0)==b
 |.int a,.bl b=>a==(if b then 1 else 0)
 |.int a,.int b=>a==b
 |.str a,.str b=>a==b
 |_,_=>false
theorem fB{A:Around}{s:Shared}{y x:V}{u v:Value}(ry:RelV y u)(rx:RelV x v)(fy:ow y=true)(fx:ow x=true):SeqAt.EqAt A s u v (eqV y x):=by
 cases y with
 |non=>
  cases ry;cases x with
  |non=>cases rx;exact SeqAt.EqAt.same _
  |bl b=>cases rx;exact SeqAt.EqAt.none_bool b
  |int b=>obtain⟨t,rfl⟩:=rx;exact SeqAt.EqAt.none_int b t
  |str b=>obtain⟨t,rfl⟩:=rx;exact SeqAt.EqAt.none_str b t
  |_=>exact absurd (show false=true from fx) aB
 |bl a=>
  cases ry;cases x with
  |non=>cases rx;exact SeqAt.EqAt.bool_none a
  |bl b=>cases rx;exact SeqAt.EqAt.bool_bool a b
  |int b=>obtain⟨t,rfl⟩:=rx;exact SeqAt.EqAt.bool_int a b t
  |str b=>obtain⟨t,rfl⟩:=rx;exact SeqAt.EqAt.bool_str a b t
  |_=>exact absurd (show false=true from fx) aB
 |int a=>
  obtain⟨t',rfl⟩:=ry;cases x with
  |non=>cases rx;exact SeqAt.EqAt.int_none a t'
  |bl b=>cases rx;exact SeqAt.EqAt.int_bool a t' b
  |int b=>obtain⟨t,rfl⟩:=rx;exact SeqAt.EqAt.int_int a t' b t
  |str b=>obtain⟨t,rfl⟩:=rx;exact zh a t' b t
  |_=>exact absurd (show false=true from fx) aB
 |str a=>
  obtain⟨t',rfl⟩:=ry;cases x with
  |non=>cases rx;exact SeqAt.EqAt.str_none a t'
  |bl b=>cases rx;exact SeqAt.EqAt.str_bool a t' b
  |int b=>obtain⟨t,rfl⟩:=rx;exact zg a t' b t
  |str b=>obtain⟨t,rfl⟩:=rx;exact SeqAt.EqAt.str_str a t' b t
  |_=>exact absurd (show false=true from fx) aB
 |_=>exact absurd (show false=true from fy) aB
noncomputable def eqU(x:V)(u:Value):Bool:=match u with
 |.none=>eqV .non x
 |.bool b=>eqV (.bl b) x
 |.int i _=>eqV (.int i) x
 |.str z _=>eqV (.str z) x
 |_=>false
theorem Gs{x y:V}{u:Value}(r:RelV y u)(f:ow y=true):eqU x u=eqV y x:=by
 cases y with
 |non=>cases r;rfl
 |bl b=>cases r;rfl
 |int i=>obtain⟨t,rfl⟩:=r;rfl
 |str z=>obtain⟨t,rfl⟩:=r;rfl
 |_=>exact absurd (show false=true from f) aB
theorem oS{x:V}:∀{xs:List V}{us:List Value},bM xs us->xs.all ow=true->us.any (eqU x)=xs.any fun y=>eqV y x
 |_,_,.nil,_=>rfl
 |y::xs,u::us,.cons r t,f=>by
  rw[zm,ag]at f;rw[kX,kX,Gs r f.1,oS t f.2]
theorem lF{A:Around}{s:Shared}{x:V}{v:Value}(rx:RelV x v)(fx:ow x=true):∀{xs:List V}{us:List Value},bM xs us->xs.all ow=true->∀u∈us,SeqAt.EqAt A s u v (eqU x u)
 |_,_,.nil,_=>fun u hu=>by cases hu
 |y::xs,u::us,.cons r t,f=>fun u' hu=>by
  rw[zm,ag]at f;rcases aA.mp hu with rfl|hu
  ·rw[Gs r f.1];exact fB r rx f.1 fx
  ·exact lF rx fx t f.2 u' hu
noncomputable def inV(x:V)(xs:List V):Bool:=xs.any fun y=>eqV y x
noncomputable def rIn(K:ae)(neg:Bool):R2:=fun x y H Q=>∃p xs,y=.ref p/\(SqL K H p xs\/SqT K H p xs)/\ow x=true/\xs.all ow=true/\Q (.bl (if neg then !inV x xs else inV x xs)) H
theorem Cq:OpR X (cV .In) (rIn X.K false):=by
 intro pins s σ H x y v u Q I rx ry h;obtain⟨p,xs,rfl,hq,fx,fs,q⟩:=h;cases ry;rcases hq with hq|hq
 ·obtain⟨its,r,pl,hz⟩:=I.list hq
  refine SeqAt.in_listAt (eqU x) pl.isList (fun w hw=>lF rx fx r fs w (by simpa using hw)) ⟨.bl _,H,I,rfl,?_⟩;rw[show its.toArray.any (eqU x)=its.any (eqU x) by simp,oS r fs];exact q
 ·obtain⟨its,r,pl,hz⟩:=I.tuple hq
  refine SeqAt.in_tupleAt (eqU x) pl (fun w hw=>lF rx fx r fs w (by simpa using hw)) ⟨.bl _,H,I,rfl,?_⟩;rw[show its.toArray.any (eqU x)=its.any (eqU x) by simp,oS r fs];exact q
theorem vQ:OpR X (cV .NotIn) (rIn X.K true):=by
 intro pins s σ H x y v u Q I rx ry h;obtain⟨p,xs,rfl,hq,fx,fs,q⟩:=h;cases ry;rcases hq with hq|hq
 ·obtain⟨its,r,pl,hz⟩:=I.list hq
  refine SeqAt.notIn_listAt (eqU x) pl.isList (fun w hw=>lF rx fx r fs w (by simpa using hw)) ⟨.bl _,H,I,rfl,?_⟩;rw[show its.toArray.any (eqU x)=its.any (eqU x) by simp,oS r fs];exact q
 ·obtain⟨its,r,pl,hz⟩:=I.tuple hq
  refine SeqAt.notIn_tupleAt (eqU x) pl (fun w hw=>lF rx fx r fs w (by simpa using hw)) ⟨.bl _,H,I,rfl,?_⟩;rw[show its.toArray.any (eqU x)=its.any (eqU x) by simp,oS r fs];exact q
theorem vP:OpR X (cV .NotIn) (fun x y H Q=>∃i j,x=.str i/\y=.str j/\Q (.bl (!(!(gh j i 0 j.length 1).isEmpty))) H):=by
 intro pins s σ H x y v u Q I rx ry h;obtain⟨i,j,rfl,rfl,q⟩:=h;obtain⟨t,rfl⟩:=rx;obtain⟨t',rfl⟩:=ry;exact notIn_str ⟨.bl _,H,I,rfl,q⟩
theorem wz:eL X (.builtin "len") (fun xs H Q=>∃p ys,xs=[.ref p]/\(SqL X.K H p ys\/SqT X.K H p ys)/\Q (.int ys.length) H):=by
 intro pins s σ H xs us Q I r h;obtain⟨p,ys,rfl,hq,q⟩:=h;obtain⟨u,rfl,rx⟩:=vals1 r;cases rx;have hn:=m5;rcases hq with hq|hq
 ·obtain⟨its,r',pl,hz⟩:=I.list hq
  have hlen:=r'.length;exact Calls.call_len_list pl.isList (by simp only[ay]<;>omega) ⟨.int ys.length,H,I.tok _,⟨s.toks+1,by rw[ay,hlen]⟩,q⟩
 ·obtain⟨its,r',pl,hz⟩:=I.tuple hq
  have hlen:=r'.length;exact len_tuple pl (by simp only[ay]<;>omega) ⟨.int ys.length,H,I.tok _,⟨s.toks+1,by rw[ay,hlen]⟩,q⟩
theorem wy:eL X (.builtin "len") (fun xs H Q=>∃z,xs=[.str z]/\z.length<=sizeLine/\Q (.int z.length) H):=by
 intro pins s σ H xs us Q I r h;obtain⟨z,rfl,hz,q⟩:=h;obtain⟨u,rfl,t,rfl⟩:=vals1 r;have hn:=m5;exact len_str (by omega) ⟨.int z.length,H,I.tok _,⟨_,rfl⟩,q⟩
theorem eL.or{f:Value}{r r':List V->Hp->VK->Prop}(h:eL X f r)(h':eL X f r'):eL X f (fun xs H Q=>r xs H Q\/r' xs H Q):=by
 intro pins s σ H xs us Q I rs q;rcases q with q|q
 ·exact h pins s σ H xs us Q I rs q
 ·exact h' pins s σ H xs us Q I rs q
theorem wx:eL X (.type "list") (fun xs H Q=>∃p ys,xs=[.ref p]/\(SqL X.K H p ys\/SqT X.K H p ys)/\∀l,H l=none->Q (.ref l) (upd H l (.lst ys))):=by
 intro pins s σ H xs us Q I r h;obtain⟨p,ys,rfl,hq,q⟩:=h;obtain⟨u,rfl,rx⟩:=vals1 r;cases rx;have fin:∀(its:List Value),bM ys its->ys.length<=sizeLine->∀(h':Heap)(c':Nat),(∀b o',s.heap.get? b=some o'->h'.get? b=some o')->
   h'.get? s.heap.objs.size=some {cls:=.type "list",dict:=none,data:=.seq its.toArray c',slots:= #[]}->EP X pins σ Q (.ref s.heap.objs.size) {s with heap:=h'}:=fun its r' hz h' c' kp e=>
  ⟨.ref s.heap.objs.size,_,I.laid (t':=s.toks) kp (aw _) (show cZ X.prog X.w _ h' _ (.lst ys)from⟨hz,its,c',r',e⟩),rfl,q _ (I.hok.fresh (aw _))⟩
 rcases hq with hq|hq
 ·obtain⟨its,r',pl,hz⟩:=I.list hq
  have hlen:=r'.length;obtain⟨o,ho,hc,n,hd⟩:=pl.isList;exact call_list_seq p (.inl rfl) ho hc hd (fun h' c' kp e=>fin its r' hz h' c' kp e) (by simp only[ay]<;>omega)
 ·obtain⟨its,r',pl,hz⟩:=I.tuple hq
  have hlen:=r'.length;obtain⟨o,ho,hc,n,hd⟩:=pl;exact call_list_seq p (.inr rfl) ho hc hd (fun h' c' kp e=>fin its r' hz h' c' kp e) (by simp only[ay]<;>omega)
theorem tH:eL X (.type "tuple") (fun xs H Q=>∃p ys,xs=[.ref p]/\((SqL X.K H p ys/\∀l,H l=none->Q (.ref l) (upd H l (.tup ys)))\/(SqT X.K H p ys/\Q (.ref p) H))):=by
 intro pins s σ H xs us Q I r h;obtain⟨p,ys,rfl,h⟩:=h;obtain⟨u,rfl,rx⟩:=vals1 r;cases rx;rcases h with⟨hq,q⟩ |⟨hq,q⟩
 ·obtain⟨its,r',pl,hz⟩:=I.list hq
  have hlen:=r'.length;refine call_tuple_list pl.isList (fun h' kp=>?_) (by simp only[ay]<;>omega);have I1:Inv X pins σ H {s with heap:=h'}:=I.kept (t':=s.toks) kp;have I2:Inv X pins σ (upd H h'.objs.size (.tup ys)) {s with heap:=h'.push {cls:=.type "tuple",data:=.seq its.toArray}}:=
   I1.laid (t':=s.toks) (fun b o e=>af _ e) (aw _) (show cZ X.prog X.w _ _ _ (.tup ys)from⟨hz,its,r',IsTup.new _ _⟩)
  exact⟨.ref h'.objs.size,_,I2,rfl,q _ (I1.hok.fresh (aw _))⟩
 ·obtain⟨its,r',pl,hz⟩:=I.tuple hq
  exact call_tuple_same pl ⟨.ref p,H,I,rfl,q⟩
noncomputable def tyV(K:ae)(T:String)(x:V)(H:Hp):Prop:=match x with
 |.str _=>T="str"
 |.int _=>T="int"
 |.ref p=>(T="list"/\∃xs,SqL K H p xs)\/(T="tuple"/\∃o,K.lookup p=some o/\o.cls=.type "tuple"/\o.dict=none)\/
   (T="dict"/\((∃kvs,H p=some (.dK kvs))\/∃kvs,H p=some (.dT kvs)))\/(T="set"/\∃S n,H p=some (.set S n))
 |_=>False
theorem tyV_is{pins:List (Addr×Obj)}{σ:St}{H:Hp}{s:Shared}{T:String}{x:V}{v:Value}(I:Inv X pins σ H s)(r:RelV x v)(ty:tyV X.K T x H):
  s.TypeIs v T/\∀a,v=.ref a->∃ob,s.heap.get? a=some ob/\ob.dict=none:=by
 cases x with
 |str z=>
  obtain⟨t,rfl⟩:=r;cases(show T="str" from ty);exact⟨typeIs_str s z t,fun _ e=>nomatch e⟩
 |int i=>
  obtain⟨t,rfl⟩:=r;cases(show T="int" from ty);exact⟨typeIs_int s i t,fun _ e=>nomatch e⟩
 |ref p=>
  cases r;rcases ty with⟨rfl,xs,hq⟩ |⟨rfl,o,hk,hc,hd⟩ |⟨rfl,hk⟩ |⟨rfl,S,n,hk⟩
  ·obtain⟨its,_,pl,_⟩:=I.list hq
   refine⟨pl.isList.typeIs,fun a e=>?_⟩;cases e;obtain⟨o,n,e,c,hd,_⟩:=pl;exact⟨o,e,hd⟩
  ·refine⟨⟨o,I.kIn p o hk,hc⟩,fun a e=>?_⟩
   cases e;exact⟨o,I.kIn _ o hk,hd⟩
  ·have z:∃o,s.heap.get? p=some o/\o.ExactDict:=by
    rcases hk with⟨kvs,hk⟩ |⟨kvs,hk⟩
    ·obtain⟨_,_,_,_,o,_,_,e,ex,_⟩:=I.hok p _ hk
     exact⟨o,e,ex⟩
    ·obtain⟨_,_,_,_,o,_,_,e,ex,_⟩:=I.hok p _ hk
     exact⟨o,e,ex⟩
   obtain⟨o,e,ex⟩:=z;refine⟨⟨o,e,ex.1⟩,fun a e2=>?_⟩;cases e2;exact⟨o,e,ex.2.1⟩
  ·obtain⟨o,_,_,_,e,ex,_⟩:=I.hok p _ hk
   refine⟨⟨o,e,ex.1⟩,fun a e2=>?_⟩;cases e2;exact⟨o,e,ex.2.1⟩
 |_=>exact d8 ty
noncomputable def tBM0(K:ae)(T:String)(r:V->List V->Hp->VK->Prop)(to:TE):TE:=fun σ H Q=>to σ H fun x H1=>tyV K T x H1/\r x [] H1 Q
noncomputable def tBM(K:ae)(T:String)(r:V->List V->Hp->VK->Prop)(to:TE)(t:TA):TE:=fun σ H Q=>to σ H fun x H1=>tyV K T x H1/\t σ H1 fun xs H2=>r x xs H2 Q
variable {o e:Expr}{es:List Expr}{to:TE}{t:TA}{name:Str}{apos cpos:Pos}{T id:String}{r:V->List V->Hp->VK->Prop}
theorem Fg(pa:PlainAttrs T)(slot:Slot T name id)(hty:typeOf (.builtin id)=pure (.type "method_descriptor"))(hm:MtR X id r)(ho:PE X o to)(ha:PA X (e::es) t)
  (hbase:gY o name X.env (eval o X.env)=eval o X.env:=by rfl)
  (hfew:((backTo cpos (aM (e::es) X.env)).all (fun x=> !x.1)&&(qC cpos (jR [] X.env)).all (fun x=>x.1.isSome)
   &&decide ((e::es).length+([]:List Keyword).length+(if([]:List Keyword).isEmpty then 0 else 1)<30))=true:=by rfl)
  (hline:(apos.endLine==cpos.line)=true:=by rfl) (hs:aM (e::es) X.env=(false,eval e X.env)::aM es X.env:=by rfl) (hplain:(backTo cpos (aM es X.env)).any (·.1)=false:=by rfl):
  PE X (.Call (.Attribute o name apos) (e::es) [] cpos) (tBM X.K T r to t):=by
 intro pins s σ H Q I h;refine wpAny_Call_method_late hbase hfew hline rfl (thn (ho pins s σ H _ I h) fun v s1 ⟨x,H1,I1,r1,ty,q1⟩=>?_);obtain⟨h1,h2⟩:=tyV_is I1 r1 ty;refine⟨T,id,pa,slot,hty,h1,h2,?_⟩;have hA:=ha cpos pins s1 σ H1 _ I1 q1;rw[hs]at hA⊢;refine Calls.callWith_builtin (by show(false||(backTo cpos (aM es X.env)).any (·.1))=false;rw[hplain]<;>rfl) (Calls.evalArgs_plain ?_);exact thn hA fun us s2 ⟨vs,H2,I2,r2,q2⟩=>hm pins s2 σ H2 x vs v us Q I2 r1 r2 q2
end
noncomputable def MtM(X:Cx)(id:String)(r:V->List V->Hp->VK->Prop):Prop:=
 ∀(pins:List (Addr×Obj))(s:Shared)(σ:St)(H:Hp)(x:V)(xs:List V)(v:Value)(us:List Value)(Q:VK),Inv X pins σ H s->RelV x v->bM xs us->r x xs H Q->
  wpAny (model X.prog X.w) X.A (call (.builtin id) (v::us)) (EP X pins σ Q) X.xe s
theorem bM.one{x:V}{us:List Value}(h:bM [x] us):∃u,us=[u]/\RelV x u:=by
 cases h with
 |cons r k=>cases k with
  |nil=>exact⟨_,rfl,r⟩
theorem bM.two{x y:V}{us:List Value}(h:bM [x,y] us):∃u v,us=[u,v]/\RelV x u/\RelV y v:=by
 cases h with
 |cons r k=>
  obtain⟨v,e,q⟩:=bM.one k;exact⟨_,v,by rw[e],r,q⟩
theorem bM.rep{xs:List V}{us:List Value}(h:bM xs us):∀k:Nat,bM (bL k xs).flatten (bL k us).flatten
 | 0=>.nil
 |k+1=>by
  rw[eR,eR,kH,kH];exact bM.append h (bM.rep h k)
theorem foldl_rep(its:List Value):∀(k:Nat)(acc:List Value),
  List.foldl (fun x1 x2=>x1++x2) acc.toArray (bL k its.toArray)=(acc++(bL k its).flatten).toArray
 | 0,acc=>by simp
 |k+1,acc=>by
  have e:acc.toArray++its.toArray=(acc++its).toArray:=by simp
  have e2:(acc++its)++(bL k its).flatten=acc++(bL (k+1) its).flatten:=by
   rw[eR,kH,kK]
  rw[<-e2,<-foldl_rep its k (acc++its),<-e,eR,dq]
section
variable {X:Cx}{pins:List (Addr×Obj)}{σ:St}{H:Hp}{s:Shared}{l b:Addr}{xs ys zs:List V}
theorem Inv.lset{its its':List Value}{n:Nat}{f:Array Value->Array Value}{t':Nat}(I:Inv X pins σ H s)(hH:H l=some (.lst xs))
  (e:s.heap.get? l=some {cls:=.type "list",data:=.seq its.toArray n}) (hf:f its.toArray=its'.toArray) (hv:bM ys its') (hz:ys.length<=sizeLine):
  Inv X pins σ (upd H l (.lst ys)) {s with heap:=s.heap.update l (aW f),toks:=t'}:=by
 have q:=DF e f;rw[hf]at q;refine I.write (x:=l) (e:=l) (by rw[hH];exact trivial) (.inl rfl) (fun b' u hb hu=>(aD s.heap (aW f) (bK hb)).trans hu) ⟨_,q⟩ ?_;exact⟨hz,its',_,hv,q⟩
theorem Inv.lnew{its:List Value}{t':Nat}(I:Inv X pins σ H s)(hv:bM ys its)(hz:ys.length<=sizeLine):
  Inv X pins σ (upd H s.heap.objs.size (.lst ys)) {s with heap:=s.heap.push {cls:=.type "list",data:=.seq its.toArray},toks:=t'}:=
 I.laid (fun _ _ q=>af _ q) (aw _) ⟨hz,its,0,hv,au _ rfl⟩
theorem Inv.fresh(I:Inv X pins σ H s):H s.heap.objs.size=none:=I.hok.fresh (aw _)
theorem Inv.lstM(I:Inv X pins σ H s)(hH:H l=some (.lst xs)):xs.length<=sizeLine/\∃(its:List Value)(n:Nat),bM xs its/\xs.length=its.length/\s.heap.get? l=some {cls:=.type "list",data:=.seq its.toArray n}:=by
 obtain⟨z,its,n,r,e⟩:=I.hok l _ hH;exact⟨z,its,n,r,r.length,e⟩
theorem Fp{n:Nat}(h:n<=sizeLine):jc n=false:=by
 unfold jc;exact decide_eq_false (by omega)
end
section
variable {X:Cx}
noncomputable def AZ:V->List V->Hp->VK->Prop:=fun x vs H Q=>∃l xs y,x=.ref l/\vs=[y]/\H l=some (.lst xs)/\xs.length<sizeLine/\Q .non (upd H l (.lst (xs++[y])))
theorem Cw:MtM X "list.append" AZ:=by
 intro pins s σ H x vs v us Q I rx rv h;obtain⟨l,xs,y,rfl,rfl,hH,hz,q⟩:=h;cases rx;obtain⟨u,rfl,ru⟩:=rv.one;obtain⟨z,its,n,r,hl,e⟩:=I.lstM hH;refine DD F.slot_list_append ⟨_,e,rfl⟩ F.entry_list_append (F.args_list_append_2 _ _) (PySem.list_append l its.toArray n u (by rw[ay];omega)) ⟨e,?_⟩;refine⟨.non,_,I.lset (its':=its++[u]) hH e (by simp) (r.append (.cons ru .nil)) ?_,rfl,q⟩;rw[cm,mX];omega
noncomputable def rPop:V->List V->Hp->VK->Prop:=fun x vs H Q=>∃l xs y,x=.ref l/\vs=[]/\H l=some (.lst xs)/\xs[xs.length-1]? =some y/\Q y (upd H l (.lst xs.dropLast))
noncomputable def rPopAt:V->List V->Hp->VK->Prop:=fun x vs H Q=>∃l xs i k y,x=.ref l/\vs=[.int i]/\H l=some (.lst xs)∧-(2^63)<=i/\i<2^63/\seqIndex? i xs.length=some k/\xs[k]? =some y/\Q y (upd H l (.lst (xs.eraseIdx k)))
noncomputable def rReverse:V->List V->Hp->VK->Prop:=fun x vs H Q=>∃l xs,x=.ref l/\vs=[]/\H l=some (.lst xs)/\Q .non (upd H l (.lst xs.reverse))
noncomputable def rClear:V->List V->Hp->VK->Prop:=fun x vs H Q=>∃l xs,x=.ref l/\vs=[]/\H l=some (.lst xs)/\Q .non (upd H l (.lst []))
noncomputable def rCat:R2:=fun x y H Q=>∃l b xs zs,x=.ref l/\y=.ref b/\H l=some (.lst xs)/\H b=some (.lst zs)/\xs.length+zs.length<=sizeLine/\∀p,H p=none->Q (.ref p) (upd H p (.lst (xs++zs)))
theorem op_cat:OpR X (dX .Add) rCat:=by
 intro pins s σ H x y v u Q I rx ry h;obtain⟨l,b,xs,zs,rfl,rfl,hH,hB,hz,q⟩:=h;cases rx;cases ry;obtain⟨z,its,n,r,hl,e⟩:=I.lstM hH;obtain⟨z2,its2,n2,r2,hl2,e2⟩:=I.lstM hB;refine PySem.P.add_list e e2 ?_ (by rw[ay,ay];omega);have ea:its.toArray++its2.toArray=(its++its2).toArray:=by simp
 rw[ea];exact⟨.ref _,_,I.lnew (t':=s.toks) (r.append r2) (by rw[cm];omega),rfl,q _ I.fresh⟩
noncomputable def rRep:R2:=fun x y H Q=>∃l k xs,x=.ref l/\y=.int k/\H l=some (.lst xs)∧-(2^63)<=k/\k<2^63/\xs.length*k.toNat<=sizeLine/\
 ∀p,H p=none->Q (.ref p) (upd H p (.lst (bL k.toNat xs).flatten))
theorem len_rep{α:Type}(xs:List α)(k:Nat):(bL k xs).flatten.length=k*xs.length:=by
 induction k with
 |zero=>simp
 |succ k ih=>rw[eR,kH,cm,ih,Nat.succ_mul,Nat.add_comm]
theorem op_rep:OpR X (dX .Mult) rRep:=by
 intro pins s σ H x y v u Q I rx ry h;obtain⟨l,k,xs,rfl,rfl,hH,h1,h2,hz,q⟩:=h;cases rx;obtain⟨t,rfl⟩:=ry;obtain⟨z,its,n,r,hl,e⟩:=I.lstM hH;have hlen:its.toArray.size*k.toNat<=sizeLine:=by rw[ay,<-hl];exact hz
 have hcap:¬its.toArray.size*k.toNat>(2^63-1)/8:=by
  have :(sizeLine:Nat)<=(2^63-1)/8:=by decide
  omega
 have hfit:¬(!Builtin.List.listFitsIndex k)=true:=by
  rw[fitsIndex_both h1 h2];exact aB
 have hlong:¬jc (its.toArray.size*k.toNat)=true:=by
  rw[Fp hlen];exact aB
 have hnew:List.foldl (fun x1 x2=>x1++x2) #[] (bL (if its.toArray.isEmpty=true then 0 else k.toNat) its.toArray)=(bL k.toNat its).flatten.toArray:=by
  have f0:∀m:Nat,List.foldl (fun x1 x2=>x1++x2) #[] (bL m its.toArray)=(bL m its).flatten.toArray:=fun m=>by
   have :=foldl_rep its m []
   rw[fo]at this;exact this
  rw[f0];cases its with
  |nil=>simp
  |cons a r'=>rw[if_neg (by simp)]
 refine wpAny_binaryOp_repeat_ref (T:="list") (U:="int") (by decide) ⟨_,e,rfl⟩ (fun s'=>typeIs_int s' k t) noFill_list_mul F.fills_int_mul F.slot_int_rmul repeat_list F.slot_int_index.lookup
  (DD F.slot_int_rmul (typeIs_int s k t) F.entry_int_rmul (F.args_int_rmul_2 _ _) (int___rmul___int_list k t l its.toArray n)
   ⟨e,rfl,⟨_,e,rfl⟩,DD F.slot_list_mul ⟨_,e,rfl⟩ F.entry_list_mul (F.args_list_mul_2 _ _) (AutoListH.list___mul___list_int_3 l its.toArray n k t hfit hcap hlong) ⟨e,?_⟩⟩)
 rw[hnew];exact⟨.ref _,_,I.lnew (t':=s.toks) (r.rep k.toNat) (by rw[len_rep,Nat.mul_comm];exact hz),rfl,q _ I.fresh⟩
end
section
variable {κ:Type}[DecidableEq κ]
noncomputable def dU(kvs:List (κ×V))(k:κ):Option V:=(kvs.find? fun kv=>decide (kv.1=k)).map (·.2)
noncomputable def putK(kvs:List (κ×V))(k:κ)(v:V):List (κ×V):=
 if(kvs.any fun kv=>decide (kv.1=k))=true then kvs.map (fun kv=>if kv.1=k then(kv.1,v)else kv)else kvs++[(k,v)]
theorem fS{p:κ×V}{r:List (κ×V)}{k:κ}(e:p.1=k):dU (p::r) k=some p.2:=by simp[dU,gN,e]
theorem fT{p:κ×V}{r:List (κ×V)}{k:κ}(e:¬p.1=k):dU (p::r) k=dU r k:=by simp[dU,gN,e]
theorem iX(k:κ):∀kvs:List (κ×V),(kvs.any fun kv=>decide (kv.1=k))=(dU kvs k).isSome
 | []=>rfl
 |p::r=>by
  rw[kX];by_cases e:p.1=k
  ·simp only[fS e,decide_eq_true e,Bool.true_or,eX]
  ·rw[fT e,decide_eq_false e,Bool.false_or];exact iX k r
theorem xx(k j:κ)(y:V):∀kvs:List (κ×V),dU (kvs.map fun kv=>if kv.1=k then(kv.1,y)else kv) j=(dU kvs j).map fun x=>if j=k then y else x
 | []=>rfl
 |p::r=>by
  have ih:=xx k j y r;rw[bC];by_cases h:p.1=k
  ·rw[if_pos h]
   by_cases e:p.1=j
   ·rw[fS (p:=(p.1,y)) e,fS e,iU,if_pos (e.symm.trans h)]
   ·rw[fT (p:=(p.1,y)) e,fT e,ih]
  ·rw[if_neg h]
   by_cases e:p.1=j
   ·rw[fS (p:=p) e,fS e,iU,if_neg (fun z=>h (e.trans z))]
   ·rw[fT (p:=p) e,fT e,ih]
theorem tM(k j:κ)(y:V):∀kvs:List (κ×V),dU kvs k=none->dU (kvs++[(k,y)]) j=if j=k then some y else dU kvs j
 | [],_=>by
  by_cases e:k=j
  ·rw[if_pos e.symm];exact fS (p:=(k,y)) e
  ·rw[if_neg (fun z=>e z.symm)];exact fT (p:=(k,y)) e
 |p::r,hn=>by
  rw[eT];have hk:¬p.1=k:=fun z=>by rw[fS z]at hn;cases hn
  rw[fT hk]at hn;have ih:=tM k j y r hn;by_cases e:p.1=j
  ·rw[fS e,fS e,if_neg (fun z=>hk (e.trans z))]
  ·rw[fT e,fT e,ih]
theorem DU(kvs:List (κ×V))(k j:κ)(y:V):dU (putK kvs k y) j=if j=k then some y else dU kvs j:=by
 unfold putK;by_cases a:(kvs.any fun kv=>decide (kv.1=k))=true
 ·rw[if_pos a,xx]
  rw[iX]at a;by_cases e:j=k
  ·obtain⟨x,hx⟩:=ck.mp a
   rw[if_pos e,e,hx,iU,if_pos rfl]
  ·rw[if_neg e]
   cases dU kvs j with
   |none=>rfl
   |some x=>rw[iU,if_neg e]
 ·rw[if_neg a]
  refine tM k j y kvs ?_;rw[iX]at a;cases q:dU kvs k with
  |none=>rfl
  |some x=>rw[q]at a;exact(a rfl).elim
theorem lK(kvs:List (κ×V))(k:κ)(v:V):(putK kvs k v).length<=kvs.length+1:=by
 unfold putK;split
 ·rw[av];omega
 ·rw[cm,bo,jb];omega
theorem ES{kvs:List (κ×V)}{k:κ}(v:V)(h:dU kvs k=none):putK kvs k v=kvs++[(k,v)]:=by
 unfold putK;rw[iX,h];exact if_neg (by decide)
theorem la.CU{o:Option V}{u:Option Value}(r:la o u):o.isSome=u.isSome:=by
 cases o with
 |none=>cases u with
  |none=>rfl
  |some _=>exact(show False from r).elim
 |some _=>cases u with
  |none=>exact(show False from r).elim
  |some _=>rfl
theorem KV.any{kvs:List (κ×V)}{vs:List (κ×Value)}(r:KV kvs vs)(k:κ):(kvs.any fun kv=>decide (kv.1=k))=vs.any fun kv=>decide (kv.1=k):=by
 unfold KV at r
 induction r with
 |nil=>rfl
 |cons h t ih=>rw[kX,kX,ih,h.1]
theorem KV.repl{kvs:List (κ×V)}{vs:List (κ×Value)}(r:KV kvs vs)(k:κ){y:V}{u:Value}(ry:RelV y u):
  KV (kvs.map fun kv=>if kv.1=k then(kv.1,y)else kv) (vs.map fun kv=>if kv.1=k then(kv.1,u)else kv):=by
 unfold KV at r⊢
 induction r with
 |nil=>exact .nil
 | @cons p q ps qs h t ih=>
  rw[bC,bC];refine .cons ?_ ih;obtain⟨h1,h2⟩:=h;by_cases e:p.1=k
  ·rw[if_pos e,if_pos (h1.symm.trans e)];exact⟨h1,ry⟩
  ·rw[if_neg e,if_neg (fun z=>e (h1.trans z))];exact⟨h1,h2⟩
theorem KV.put{kvs:List (κ×V)}{vs:List (κ×Value)}(r:KV kvs vs)(k:κ){y:V}{u:Value}(ry:RelV y u):KV (putK kvs k y) (stored vs k u):=by
 unfold putK stored;rw[r.any k];by_cases e:(vs.any fun kv=>decide (kv.1=k))=true
 ·rw[if_pos e,if_pos e];exact r.repl k ry
 ·rw[if_neg e,if_neg e];exact Paired.snoc r ⟨rfl,ry⟩
end
theorem Bi{P:Program}{w:World}{k:Key}{u:Value}(r:RelV (kV k) u):(bV P w).is k u=true:=by
 cases k with
 |inl i=>obtain⟨t,e⟩:=(show ∃t,u=gO i t from r);subst e;exact lE P w i t
 |inr x=>obtain⟨t,e⟩:=(show ∃t,u=fY x t from r);subst e;exact x9 P w x t
theorem pw{P:Program}{w:World}:∀{ks:List Key}{us:List Value},bM (ks.map kV) us->ItemsAre (bV P w) ks us
 | [],_,r=>by rw[jB]at r;cases r;exact .nil
 |k::ks,_,r=>by
  rw[bC]at r;cases r with
  |cons h t=>exact .cons (Bi h) (pw t)
noncomputable abbrev KT(H:Hp):List (List Key×V)->List (List Key×Addr×Value)->Prop:=Paired fun p q=>p.1=q.1/\H q.2.1=some (.tup (p.1.map kV))/\RelV p.2 q.2.2
theorem KT.val{H:Hp}{kvs:List (List Key×V)}{xs:List (List Key×Addr×Value)}(r:KT H kvs xs)(k:List Key):la (dU kvs k) ((atKey xs k).map (·.2)):=by
 induction r with
 |nil=>exact True.intro
 | @cons p q ps qs h t ih=>
  obtain⟨h1,_,h2⟩:=h;by_cases e:p.1=k
  ·have e':q.1=k:=h1.symm.trans e
   have b:atKey (q::qs) k=some q.2:=by simp[atKey,gN,e']
   rw[fS e,b];exact h2
  ·have e':¬q.1=k:=fun z=>e (h1.trans z)
   have b:atKey (q::qs) k=atKey qs k:=by simp[atKey,gN,e']
   rw[fT e,b];exact ih
theorem KT.repl{H:Hp}{kvs:List (List Key×V)}{xs:List (List Key×Addr×Value)}(r:KT H kvs xs)(k:List Key){y:V}{u:Value}(ry:RelV y u):
  KT H (kvs.map fun kv=>if kv.1=k then(kv.1,y)else kv) (xs.map (putAt k u)):=by
 induction r with
 |nil=>exact .nil
 | @cons p q ps qs h t ih=>
  rw[bC,bC];refine .cons ?_ ih;obtain⟨h1,h2,h3⟩:=h;unfold putAt;by_cases e:p.1=k
  ·rw[if_pos e,if_pos (h1.symm.trans e)];exact⟨h1,h2,ry⟩
  ·rw[if_neg e,if_neg (fun z=>e (h1.trans z))];exact⟨h1,h2,h3⟩
theorem KT.put{H:Hp}{kvs:List (List Key×V)}{xs:List (List Key×Addr×Value)}(r:KT H kvs xs)(k:List Key){b:Addr}{y:V}{u:Value}(hb:H b=some (.tup (k.map kV)))(ry:RelV y u):
  KT H (putK kvs k y) (storedH xs k b u):=by
 have e:(kvs.any fun kv=>decide (kv.1=k))=(atKey xs k).isSome:=by
  rw[iX,(r.val k).CU,Option.isSome_map]
 unfold putK storedH;rw[e];by_cases q:(atKey xs k).isSome=true
 ·rw[if_pos q,if_pos q];exact r.repl k ry
 ·rw[if_neg q,if_neg q];exact Paired.snoc r ⟨rfl,hb,ry⟩
theorem KT.keeps{H H':Hp}{kvs:List (List Key×V)}{xs:List (List Key×Addr×Value)}(r:KT H kvs xs)(ht:∀b ys,H b=some (.tup ys)->H' b=some (.tup ys)):KT H' kvs xs:=
 Paired.vZ r fun _ _ z=>⟨z.1,ht _ _ z.2.1,z.2.2⟩
section
variable {P:Program}{w:World}{H:Hp}{h:Heap}{a:Addr}
theorem rd_of{u:HO}(ok:HOk P w H h)(e:Rd H a u):cZ P w H h a u:=e.ok ok
theorem dk_rd{kvs:List (Key×V)}(ok:HOk P w H h)(e:Rd H a (.dK kvs)):kvs.length<=sizeLine/\(a==dO)=false/\∃vs,KV kvs vs/\h.DictOf (bV P w) a vs:=
 show cZ P w H h a (.dK kvs)from rd_of ok e
theorem dk_of{kvs:List (Key×V)}(ok:HOk P w H h)(e:H a=some (.dK kvs)):kvs.length<=sizeLine/\(a==dO)=false/\∃vs,KV kvs vs/\h.DictOf (bV P w) a vs:=dk_rd ok (.inl e)
theorem FW{ks:List Key}(ok:HOk P w H h)(e:H a=some (.tup (ks.map kV))):(nu (bV P w)).is h ks a:=by
 obtain⟨_,its,r,o,h1,h2,n,h3⟩:=(show cZ P w H h a (.tup (ks.map kV))from ok a _ e);exact⟨o,its.toArray,n,h1,h2,h3,by simpa using pw r⟩
theorem dt_rd{kvs:List (List Key×V)}(ok:HOk P w H h)(e:Rd H a (.dT kvs)):kvs.length<=sizeLine/\(a==dO)=false/\
  ∃xs,KT H kvs xs/\h.DictOfH (nu (bV P w)) a xs:=by
 obtain⟨z,y,xs,r,o,es,ep,h1,h2,h3,h4,h5⟩:=(show cZ P w H h a (.dT kvs)from rd_of ok e);refine⟨z,y,xs,r,o,es,ep,h1,h2,h3,h4,fun x hx=>?_,h5⟩;have all:∀{l:List (List Key×V)}{m:List (List Key×Addr×Value)},KT H l m->∀x∈m,(nu (bV P w)).is h x.1 x.2.1:=by
  intro l m q
  induction q with
  |nil=>intro x hx;exact nomatch hx
  | @cons p q ps qs hq t ih=>
   intro x hx;rcases aA.mp hx with e|hx
   ·subst e
    exact FW ok (by rw[<-hq.1];exact hq.2.1)
   ·exact ih x hx
 exact all r x hx
theorem Gu{kvs:List (List Key×V)}(ok:HOk P w H h)(e:H a=some (.dT kvs)):kvs.length<=sizeLine/\(a==dO)=false/\
  ∃xs,KT H kvs xs/\h.DictOfH (nu (bV P w)) a xs:=dt_rd ok (.inl e)
end
section
variable {X:Cx}{pins:List (Addr×Obj)}{σ:St}{H:Hp}{s:Shared}{a:Addr}{y v:V}{u r:Value}{o:Option V}{A:Around}{E:Value->Shared->Prop}
theorem Inv.big(I:Inv X pins σ H s):dO<s.heap.objs.size:=by
 have h:bh<s.heap.objs.size:=(I.mod.glob.keeps I.bk).lt;exact fj (by decide) h
theorem Bv{h':Heap}{t':Nat}{ob:HO}(I:Inv X pins σ H s)(mu:Mut (H a))(hs:cR a s.heap h')(he:∃q,h'.get? a=some q)(new:cZ X.prog X.w (upd H a ob) h' a ob):
  Inv X pins σ (upd H a ob) {s with heap:=h',toks:=t'}:=
 I.write (x:=a) (e:=a) mu (.inl rfl) (fun b q hb z=>(hs.2 b hb).trans z) he new
theorem dk_new{P:Program}{w:World}{H':Hp}{h':Heap}{kvs:List (Key×V)}{vs:List (Key×Value)}(z:kvs.length<=sizeLine)(hd:(a==dO)=false)(rel:KV kvs vs)(dd:h'.DictOf (bV P w) a vs):
  cZ P w H' h' a (.dK kvs):=⟨z,hd,vs,rel,dd⟩
end
theorem yA{P:Program}{w:World}{H:Hp}(h:Heap)(hb:dO<h.objs.size):cZ P w H (h.push {cls:=.type "dict",data:=.dict #[]}) h.objs.size (.dK []):=
 ⟨bp _,beq_eq_false_iff_ne.mpr (bK (aE hb)),[],.nil,Heap.DictOf.new h⟩
theorem Gw{P:Program}{w:World}{H:Hp}(h:Heap)(hb:dO<h.objs.size):cZ P w H (h.push {cls:=.type "dict",data:=.dict #[]}) h.objs.size (.dT []):=
 ⟨bp _,beq_eq_false_iff_ne.mpr (bK (aE hb)),[],.nil,_,#[],0,au _ rfl,⟨rfl,rfl,rfl⟩,rfl,rfl,hW⟩
noncomputable def Eb:TE:=fun _ H Q=>∀p,H p=none->Q (.ref p) (upd H p (.dK []))
noncomputable def Ea:TE:=fun _ H Q=>∀p,H p=none->Q (.ref p) (upd H p (.dT []))
section
variable {X:Cx}{pos:Pos}
theorem Fe:PE X (.Dict [] [] pos) Eb:=fun pins s σ H Q I h=>
 wpAny_Dict_empty ⟨.ref s.heap.objs.size,_,I.laid (a:=s.heap.objs.size) (o:=.dK []) (t':=s.toks) (fun _ _ q=>af _ q) (aw _) (yA s.heap I.big),rfl,h _ (I.hok.fresh (aw _))⟩
theorem Fd:PE X (.Dict [] [] pos) Ea:=fun pins s σ H Q I h=>
 wpAny_Dict_empty ⟨.ref s.heap.objs.size,_,I.laid (a:=s.heap.objs.size) (o:=.dT []) (t':=s.toks) (fun _ _ q=>af _ q) (aw _) (Gw s.heap I.big),rfl,h _ (I.hok.fresh (aw _))⟩
end
noncomputable def zz:List (TE×TE)->St->Hp->(List (V×V)->Hp->Prop)->Prop
 | [],_,H,Q=>Q [] H
 | (tk,tv)::r,σ,H,Q=>tk σ H fun x H1=>tv σ H1 fun y H2=>zz r σ H2 fun ps H3=>Q ((x,y)::ps) H3
noncomputable abbrev VV:List (V×V)->List (Value×Value)->Prop:=Paired fun p q=>RelV p.1 q.1/\RelV p.2 q.2
noncomputable def PPs(X:Cx)(pos:Pos)(keys:List (Option Expr))(values:List Expr)(trs:List (TE×TE)):Prop:=
 ∀(pins:List (Addr×Obj))(s:Shared)(σ:St)(H:Hp)(Q:List (V×V)->Hp->Prop),Inv X pins σ H s->zz trs σ H Q->
  wpAny (model X.prog X.w) X.A (evalPairs (pairTrees keys values X.env pos)) (fun vs s'=>∃ps H',Inv X pins σ H' s'/\VV ps vs/\Q ps H') X.xe s
theorem pps_nil{X:Cx}{pos:Pos}:PPs X pos [] [] []:=fun pins s σ H Q I h=>pairTrees_nil_walk ⟨[],H,I,.nil,h⟩
theorem EX{X:Cx}{pos:Pos}{k v:Expr}{ks:List (Option Expr)}{vs:List Expr}{tk tv:TE}{trs:List (TE×TE)}(hk:PE X k tk)(hv:PE X v tv)(hr:PPs X pos ks vs trs):
  PPs X pos (some k::ks) (v::vs) ((tk,tv)::trs):=fun pins s σ H Q I h=>
 pairTrees_cons_walk (thn (hk pins s σ H _ I h) fun u s1 ⟨x,H1,I1,rx,q1⟩=>thn (hv pins s1 σ H1 _ I1 q1) fun w2 s2 ⟨y,H2,I2,ry,q2⟩=>
  thn (hr pins s2 σ H2 _ I2 q2) fun ws s3 ⟨ps,H3,I3,rel,q3⟩=>⟨(x,y)::ps,H3,I3,.cons ⟨rx,ry⟩ rel,q3⟩)
noncomputable def rS(kvs more:List (Key×V)):List (Key×V):=more.foldl (fun acc kv=>putK acc kv.1 kv.2) kvs
theorem KV.merge:∀{more:List (Key×V)}{rs:List (Key×Value)}{kvs:List (Key×V)}{vs:List (Key×Value)},KV more rs->KV kvs vs->KV (rS kvs more) (merged vs rs):=by
 intro more rs kvs vs r;unfold KV at r
 induction r generalizing kvs vs with
 |nil=>intro q;exact q
 | @cons p q ps qs h t ih=>
  intro r0;have e:KV (putK kvs p.1 p.2) (stored vs q.1 q.2):=by
   have :=r0.put p.1 h.2
   rw[<-h.1];exact this
  exact ih e
theorem mL:∀(more kvs:List (Key×V)),(rS kvs more).length<=kvs.length+more.length
 | [],kvs=>by show kvs.length<=kvs.length+0;omega
 |p::r,kvs=>by
  have h1:=mL r (putK kvs p.1 p.2);have h2:=lK kvs p.1 p.2;show(rS (putK kvs p.1 p.2) r).length<=_;rw[bo];omega
theorem sr{P:Program}{w:World}:∀{kvs:List (Key×V)}{ws:List (Value×Value)},VV (kvs.map fun kv=>(kV kv.1,kv.2)) ws->∃rs,Carries (bV P w) ws rs/\KV kvs rs
 | [],_,r=>by rw[jB]at r;cases r;exact⟨[],True.intro,.nil⟩
 |p::kvs,_,r=>by
  rw[bC]at r;cases r with
  | @cons a b as bs h t=>
   obtain⟨rs,c,q⟩:=sr (P:=P) (w:=w) t;obtain⟨b1,b2⟩:=b;exact⟨(p.1,b2)::rs,⟨Bi h.1,rfl,c⟩,.cons ⟨rfl,h.2⟩ q⟩
noncomputable def tDisp(trs:List (TE×TE)):TE:=fun σ H Q=>∀p,H p=none->zz trs σ (upd H p (.dK [])) fun ps H2=>H2 p=some (.dK [])/\∃kvs:List (Key×V),ps=kvs.map (fun kv=>(kV kv.1,kv.2))/\kvs.length<=15/\Q (.ref p) (upd H2 p (.dK (rS [] kvs)))
theorem pe_disp{X:Cx}{pos:Pos}{keys:List (Option Expr)}{values:List Expr}{trs:List (TE×TE)}(h:PPs X pos keys values trs)(hall:keys.all (·.isSome)=true)(hl:keys.length=values.length)(h0:keys≠[])
  (h15:keys.length<=15):PE X (.Dict keys values pos) (tDisp trs):=by
 intro pins s σ H Q I q;have hn:=I.hok.fresh (aw s.heap.objs.size);have I1:=I.laid (a:=s.heap.objs.size) (o:=.dK []) (h':=s.heap.push {cls:=.type "dict",data:=.dict #[]}) (t':=s.toks) (fun _ _ q=>af _ q) (aw _) (yA s.heap I.big);refine wpAny_Dict_walk (knd:=bV X.prog X.w) hall hl h0 h15 (thn (h pins _ σ _ _ I1 (q _ hn)) fun ws s2 ⟨ps,H2,I2,rel,e,kvs,ep,lk,q2⟩=>?_);subst ep;obtain⟨rs,c,rk⟩:=sr (P:=X.prog) (w:=X.w) rel;obtain⟨z,hd,vs0,r0,dd⟩:=dk_of I2.hok e;cases r0;refine⟨rs,c,dd,fun h' dd' hs=>⟨.ref s.heap.objs.size,_,?_,rfl,q2⟩⟩;have hz:(rS [] kvs).length<=sizeLine:=by
  have h1:=mL kvs [];rw[jb]at h1;rw[jQ];omega
 have he:∃q,h'.get? s.heap.objs.size=some q:=let⟨q,_,_,hq,_⟩:=dd';⟨q,hq⟩;exact Bv I2 (by rw[e];exact True.intro) hs he (dk_new hz hd (rk.merge .nil) dd')
end L2
namespace Att
open PySem PySem.W PySem.Calls PyProof.Rows
theorem qu{P:Params}{h:Heap}:∀(ns:List Int)(vs:List Value),WellAll P h vs (ns.map WData.int)->b7 vs ns:=by
 intro ns
 induction ns with
 |nil=>
  intro vs w;rw[jB]at w;cases w;exact .nil
 |cons n ns ih=>
  intro vs w;rw[bC]at w;cases w with
  |cons a b=>
   cases a;exact .cons _ _ (ih _ b)
theorem B8{l:OpenLaw}{n:Nat}(hn:l.most=some n){P:Params}{h:Heap}{args:List WData}{vals:List Value}
  (hpre:l.row.toRowW.claim.pre args=true)(hwl:WellAll P h vals args):
  ∃a vs ns,vals=[aX a]/\args=[WData.list (ns.map WData.int)]/\h.get? a=some {cls:=.type "list",data:=.seq vs.toArray}/\b7 vs ns/\ns.length<=n:=by
 have hsh:WShape.hasAll [] args [.list .int]=true:=(pre_splitW hpre).1;have hc:l.pre.holds [] {args:=args}=true:=(pre_splitW hpre).2;obtain⟨d,r,rfl,h1,h2⟩:=hasAllW_cons hsh;obtain rfl:=hasAllW_nil h2;obtain⟨xs,rfl,h3⟩:=hasW_list h1;obtain⟨ns,rfl⟩:=items_int h3;have hlen:ns.length<=n:=by
  unfold OpenLaw.pre at hc;have h4:(WTm.not (.lt (.lit (.int (n:Int))) (.len (.arg 0)))).holds [] {args:=[.list (ns.map .int)]}=true:=by
   have h4:=(holds_andW hc).1;rw[hn]at h4;exact h4
  have h5:=condW_of h4 (w_not (w_lt w_lit (w_len_list (w_arg rfl))));rw[av]at h5;refine gv fun q=>?_;have q':(n:Int)<((ns.length:Nat):Int):=by omega
  first
   | (rw[decide_eq_true q']at h5;exact absurd h5 (by decide))
   | (simp at h5;omega)
 cases hwl with
 |cons w1 w2=>
  cases w2;cases w1 with
  |list ho hall=>exact⟨_,_,ns,rfl,rfl,ho,qu ns _ hall,hlen⟩
theorem Cf(l:OpenLaw)(args:List WData):l.row.toRowW.claim.post args (.bool true) args=true:=
 postW_of (r:=l.row.toRowW) (X:=(true==true))
  (show WShape.has [] (.bool true) .bool=true by first |rfl|decide|simp[WShape.has,WShape.arms,WShape.armsAll])
  (show(WTm.eq .res (.lit (.bool true))).value [] {args:=args,res:=some (.bool true),after:=args}=some (.bool (true==true))from w_eq_bool (w_res rfl) w_lit) rfl
theorem yP{l:OpenLaw}{n:Nat}{q:Program}{loose:List Str}{XP:(Str->Option Value)->Heap->Prop}{YP:World->Heap->Prop}{d:DefRec}
  (hn:l.most=some n)(hdf:d.params.defaults=[])
  (call:∀(w:World)(s₀ s₁:Shared)(mg mb:Str->Option Value)(fa:Addr)(o:Obj)(pm cd doc:Value)(a:Addr)(vs:List Value)(ns:List Int),
   Ground q loose [] XP w s₀ mg mb s₁.heap->YP w s₁.heap->
   s₁.heap.get? fa=some o->o.data=.func (docDef d.name d.params d.body d.scope pm cd doc)->s₁.heap.CodeRec cd d.name->mg d.name=some (.ref fa)->
   s₁.heap.get? a=some {cls:=.type "list",data:=.seq vs.toArray}->b7 vs ns->ns.length<=n->s₁.gens= #[]->
   eE (model l.prog w) BE (.call (.ref fa) ⟨[.ref a],[]⟩) (fun r s'=>r=.ok (.ret (.bool true))/\OldK s₁.heap s'.heap/\s'.os=s₁.os/\mE s'.gens) s₁):
  WalkO q loose XP YP l.row.toRowW d [] (fun f vs=>PySem.call f vs):=by
 intro w s₀ s₁ mg mb G Y fa o pm cd doc dV kV ho hd hcd hD hmg hg args vals as hpre hlay hrd hwl hlo;obtain rfl:dV=.none:=Dflts.none hD hdf;obtain rfl:kV=.none:=Dflts.noKw hD;obtain⟨a,vs,ns,rfl,rfl,hobj,hints,hlen⟩:=B8 hn hpre hwl;refine enter_call (gM (call w s₀ s₁ mg mb fa o pm cd doc a vs ns G Y ho (fd_plain hd) hcd hmg hobj hints hlen hg) fun r s' hq=>?_);obtain⟨rfl,h2,h3,h4⟩:=hq;exact⟨.inl ⟨.bool true,.bool true,[],rfl,fun _=>rfl,.bool true,Cf l _,fun _=>⟨iV,fun _ hm=>(nomatch hm)⟩⟩,h2,h3,h4⟩
end Att
namespace L2
open PySem PySem.Spec PyProof.Rows
theorem o8:∀{vs:List Value}{ns:List Int},b7 vs ns->bM (ns.map V.int) vs
 |_,_,.nil=>.nil
 |_,_,.cons n t h=>.cons ⟨t,rfl⟩ (o8 h)
noncomputable abbrev KOf{K:ae}{h:Heap}(_:K.In h):ae:=K
noncomputable def bu(s:Stmt):Arguments:=match s with
 |.FunctionDef _ a _ _ _ _ _ _ _ _=>a
 |_=>{posonlyargs:=[],args:=[],vararg:=none,kwonlyargs:=[],kw_defaults:=[],kwarg:=none,defaults:=[]}
noncomputable def aU(s:Stmt):List Stmt:=match s with
 |.FunctionDef _ _ b _ _ _ _ _ _ _=>b
 |_=>[]
noncomputable def aG(s:Stmt):Scope:=match s with
 |.FunctionDef _ _ _ _ _ _ sc _ _ _=>sc
 |_=>{kind:=.function,names:=[],isGenerator:=false,isCoroutine:=false}
noncomputable abbrev CX0:CXT:=fun _ _ _ _ _ _=>False
noncomputable abbrev E0:XK:=fun _ _ _=>False
structure Fun(K:ae)(x qual:Str)(st:Stmt)(f:Addr)(fd:dI):Prop where
 ex:∃(oc:Value)(od:Option Addr)(kV doc pm:Value)(an:Option Addr)(cdv ct:Value)(osl:Array (Option Value)),
  fd=aC x qual (bu st) (aU st) (aG st) .none kV doc pm an cdv ct/\K.lookup f=some ⟨oc,od,.func fd,osl⟩/\cJ K cdv qual=true
 kp:bA K (.ref f)=true
section
variable {P:Program}{w:World}{K:ae}{mg:Str->Option Value}{base:Heap}
theorem Fun.binds{x qual:Str}{st:Stmt}{f:Addr}{fd:dI}{ps:List Str}(F:Fun K x qual st f fd)
  (h:∀(kV doc pm:Value)(an:Option Addr)(cdv ct:Value)(us:List Value),us.length=ps.length->iR (aC x qual (bu st) (aU st) (aG st) .none kV doc pm an cdv ct) ⟨us,[]⟩=pure (ps.zip us)):Binds K fd ps []:=by
 obtain⟨oc,od,kV,doc,pm,an,cdv,ct,osl,rfl,lk,hcd⟩:=F.ex;exact .all (h kV doc pm an cdv ct)
theorem pB{x qual:Str}{st:Stmt}{f:Addr}{oc:Value}{od an:Option Addr}{osl:Array (Option Value)}{kV doc pm cdv ct:Value}(l:K.lookup f=some ⟨oc,od,.func (aC x qual (bu st) (aU st) (aG st) .none kV doc pm an cdv ct),osl⟩)
  (c:cJ K cdv qual=true)(k:bA K (.ref f)=true):Fun K x qual st f (aC x qual (bu st) (aU st) (aG st) .none kV doc pm an cdv ct):=⟨⟨oc,od,kV,doc,pm,an,cdv,ct,osl,rfl,l,c⟩,k⟩
end
noncomputable def aS(H H':Hp):Prop:=∀b o,H b=some o->H' b=some o
theorem aS.refl(H:Hp):aS H H:=fun _ _ h=>h
theorem aS.trans{H H1 H2:Hp}(a:aS H H1)(b:aS H1 H2):aS H H2:=fun c o h=>b c o (a c o h)
theorem aS.free{H H':Hp}(e:aS H H'){l:Addr}(h:H' l=Option.none):H l=Option.none:=by
 cases q:H l with
 |none=>rfl
 |some o=>
  rw[e l o q]at h;cases h
theorem aS.seq{K:ae}{H H':Hp}{a:Addr}{xs:List V}(e:aS H H')(h:SqL K H a xs):SqL K H' a xs:=by
 rcases h with(h|⟨o,h⟩) |h
 ·exact .inl (.inl (e _ _ h))
 ·exact .inl (.inr ⟨o,e _ _ h⟩)
 ·exact .inr h
section
variable {κ:Type}[DecidableEq κ]
theorem xw{kvs:List (κ×V)}{k:κ}(h:dU kvs k=none):¬k∈kvs.map (·.1):=by
 intro m;obtain⟨p,hp,e⟩:=aV.mp m;have q:(kvs.any fun kv=>decide (kv.1=k))=true:=bS.mpr ⟨p,hp,decide_eq_true e⟩;rw[iX,h]at q;exact absurd q (by simp)
theorem valV_in{kvs:List (κ×V)}{k:κ}{v:V}(h:dU kvs k=some v):k∈kvs.map (·.1):=by
 have q:(kvs.any fun kv=>decide (kv.1=k))=true:=by
  rw[iX,h];all_goals rfl
 obtain⟨p,hp,e⟩:=bS.mp q;exact aV.mpr ⟨p,hp,of_decide_eq_true e⟩
theorem A9:∀{l:List κ}{k:κ},l.Nodup->¬k∈l->(l++[k]).Nodup
 | [],k,_,_=>by simp
 |a::r,k,h,hk=>by
  obtain⟨h1,h2⟩:=cO.mp h;show(a::(r++[k])).Nodup;refine cO.mpr ⟨fun m=>?_,A9 h2 fun m=>hk (aA.mpr (Or.inr m))⟩;rcases fq.mp m with q|q
  ·exact h1 q
  ·exact hk (aA.mpr (Or.inl (aO.mp q).symm))
theorem nd_putK{kvs:List (κ×V)}{k:κ}(v:V)(hn:(kvs.map (·.1)).Nodup)(h:dU kvs k=none):((putK kvs k v).map (·.1)).Nodup:=by
 rw[ES v h,eD];exact A9 hn (xw h)
end
noncomputable def eP(cells:List (Str×Addr)):List (Str×dH)->List (Str×Addr)->List (Str×Addr)
 | [],acc=>acc
 | (n,k)::r,acc=>eP cells r (if k=.free then(n,(cells.lookup n).getD 0)::acc else acc)
theorem nj{env:Env}{f:Str×dH->List (Str×Addr)->Sem (ForInStep (List (Str×Addr)))}
  (hf:∀n k a c,k=.free->env.cells.lookup n=some c->f (n,k) a=pure (.yield ((n,c)::a)))(hg:∀n k a,k≠.free->f (n,k) a=pure (.yield a)):
  ∀(names:List (Str×dH))(acc:List (Str×Addr)),(∀y∈names,y.2=.free->∃c,env.cells.lookup y.1=some c)->forIn names acc f=(pure (eP env.cells names acc):Sem _)
 | [],acc,_=>rfl
 | (n,k)::r,acc,h=>by
  rw[List.forIn_cons];by_cases e:k=.free
  ·obtain⟨c,hc⟩:=h (n,k) aH e
   rw[hf n k acc c e hc];show forIn r ((n,c)::acc) f=_;rw[nj hf hg r _ fun y hy=>h y (aJ _ hy)];simp[eP,e,hc]
  ·rw[hg n k acc e]
   show forIn r acc f=_;rw[nj hf hg r _ fun y hy=>h y (aJ _ hy)];simp[eP,e]
theorem tG{scope:Scope}{env:Env}(h:∀y∈scope.names,y.2=.free->∃c,env.cells.lookup y.1=some c):DC scope env=pure (eP env.cells scope.names []):=by
 have q:=nj (env:=env) (f:=fun x cs=>match x with | (name,kind)=>if(kind==bX)=true then(do let a<-cellOf env name;pure (gf ((name,a)::cs)))else pure (gf cs))
  (fun n k a c e hc=>by
   subst e;simp only[cellOf,hc];rfl) (fun n k a e=>by
   have e':(k==bX)=false:=by simpa using e
   simp only[e',aL,if_false]) scope.names [] h
 unfold DC;show(forIn scope.names [] _>>=fun r=>pure r)=_;exact(congrArg (·>>=fun r=>pure r) q).trans rfl
theorem jI{cells:List (Str×Addr)}:∀(names:List (Str×dH))(acc:List (Str×Addr))(x:Str)(c:Addr),(eP cells names acc).lookup x=some c->
  ((x,bX)∈names/\c=(cells.lookup x).getD 0)\/acc.lookup x=some c
 | [],acc,x,c,h=>.inr h
 | (n,k)::r,acc,x,c,h=>by
  rcases jI r _ x c h with⟨q,e⟩ |q
  ·exact .inl ⟨aJ _ q,e⟩
  ·by_cases e:k=.free
   ·rw[if_pos e,aT]at q
    cases hx:x==n with
    |true=>
     rw[hx]at q;have en:x=n:=by simpa using hx
     subst en;subst e;exact .inl ⟨aH,(aP q).symm⟩
    |false=>
     rw[hx]at q;exact .inr q
   ·rw[if_neg e]at q
    exact .inr q
theorem sj{cells:List (Str×Addr)}:∀(names:List (Str×dH))(acc:List (Str×Addr))(x:Str),(acc.lookup x).isSome=true->((eP cells names acc).lookup x).isSome=true
 | [],acc,x,h=>h
 | (n,k)::r,acc,x,h=>by
  refine sj r _ x ?_;split
  ·rw[aT]
   cases x==n<;>simp_all
  ·exact h
theorem nq{cells:List (Str×Addr)}:∀(names:List (Str×dH))(acc:List (Str×Addr))(x:Str),(x,bX)∈names->((eP cells names acc).lookup x).isSome=true
 | [],acc,x,h=>by simp at h
 | (n,k)::r,acc,x,h=>by
  rcases aA.mp h with q|q
  ·cases q
   refine sj r _ n ?_;simp[aT]
  ·exact nq r _ x q
theorem eW:∀(names:List (Str×dH))(n:Nat)(acc:List (Str×Addr)),cy n names acc=cy n names []++acc
 | [],_,_=>rfl
 | (x,k)::r,n,acc=>by
  unfold cy;split
  ·rw[eW r (n+1) ((x,n)::acc),eW r (n+1) [(x,n)],kK]
   rfl
  ·exact eW r n acc
theorem jM:∀(names:List (Str×dH))(n:Nat)(acc:List (Str×Addr))(x:Str),(acc.lookup x).isSome=true->((cy n names acc).lookup x).isSome=true
 | [],_,_,_,h=>h
 | (y,k)::r,n,acc,x,h=>by
  unfold cy;split
  ·refine jM r _ _ x ?_
   rw[aT];cases x==y<;>simp_all
  ·exact jM r _ _ x h
theorem hU:∀(names:List (Str×dH))(n:Nat)(acc:List (Str×Addr))(x:Str),(x,cK)∈names->((cy n names acc).lookup x).isSome=true
 | [],_,_,_,h=>nomatch h
 | (y,k)::r,n,acc,x,h=>by
  unfold cy;rcases aA.mp h with q|q
  ·cases q
   rw[if_pos (by rfl)];refine jM r _ _ _ ?_;simp[aT]
  ·split
   ·exact hU r _ _ x q
   ·exact hU r _ _ x q
theorem jL:∀(names:List (Str×dH))(n:Nat)(acc:List (Str×Addr))(x:Str)(c:Addr),(x,c)∈cy n names acc->(x,cK)∈names\/(x,c)∈acc
 | [],_,_,_,_,h=>.inr h
 | (y,k)::r,n,acc,x,c,h=>by
  unfold cy at h;split at h
  ·rename_i hk
   rcases jL r _ _ x c h with q|q
   ·exact .inl (aJ _ q)
   ·rcases aA.mp q with e|e
    ·cases e
     have :k=.cell:=by simpa using hk
     subst this;exact .inl aH
    ·exact .inr e
  ·rcases jL r _ _ x c h with q|q
   ·exact .inl (aJ _ q)
   ·exact .inr q
theorem Aq{M:Model}{A:Around}{E:Value->Shared->Prop}{s:Shared}{scope:Scope}{globals:Addr}{cl:List (Str×Addr)}{qual:Str}{func:Option Addr}{code:Value}{outer:Env}{builtins:Addr}{Q:Env->Shared->Prop}
  (h:Q (newEnv scope s.heap.objs.size globals (cy (s.heap.objs.size+1) scope.names cl) qual func code (some outer) builtins) {s with heap:=pushCells (s.heap.push {cls:=.type "dict",data:=.dict #[]}) scope.names}):
  wpAny M A (newFunctionEnv scope globals cl [] qual func code (some outer) builtins) Q E s:=by
 simp only[newFunctionEnv,eX,if_true];refine aa (wpAny_alloc ?_);refine aa (wpAny_layCells _ (fun name kind cells=>by cases hkc:kind==cK<;>simp[hkc]) _ _ _ _ ?_);rw[show({s with heap:=s.heap.push {cls:=.type "dict",data:=.dict #[]}}:Shared).heap.objs.size=s.heap.objs.size+1 from bN ..];rw[xq];exact aa (ai (ai h))
structure my(X:Cx)(N':List Str)(sc:Scope):Prop where
 kind:sc.kind=.function
 cellk:∀y∈sc.names,y.2=.cell->sc.names.lookup y.1=some .cell
 own:∀y∈sc.names,y.2=.local->sc.names.lookup y.1=some .local
 free:∀y∈sc.names,y.2=.free->X.env.kindOf y.1=some .cell\/X.env.kindOf y.1=some .free
noncomputable def dA(X:Cx)(N':List Str)(sc:Scope)(C:Addr)(s₀:Shared)(H₀:Hp)(fp:List Addr):Cx:=
 {X with N:=N',s₀:=s₀,H₀:=H₀,env:=compEnvC sc (cy (C+1) sc.names (eP X.env.cells sc.names [])) C X.env,outer:=X.stack,stack:=X.stack,ex:=fp,fn:=fun x=>sc.names.any fun y=>decide (y.1=x)&&decide (y.2=.cell),pn:=[],xe:=fun _ _=>False}
theorem lA{env:Env}:∀{names:List (Str×dH)}{x:Str}{k:dH},
  (names.map fun(n,k)=>if(k==bX&&env.scope.kind== .function&&env.kindOf n==some .cell)then(n,cK)else(n,k)).lookup x=some k->
  names.lookup x=some k\/(names.lookup x=some .free/\k=.cell)
 | [],_,_,h=>by simp at h
 | (n,k)::r,x,k',h=>by
  have ih:= @lA env r x k';rw[bC]at h;change cg x ((if(k==bX&&env.scope.kind== .function&&env.kindOf n==some .cell)=true then(n,cK)else(n,k))::_)=_ at h;cases hx:x==n with
  |true=>
   by_cases hc:(k==bX&&env.scope.kind== .function&&env.kindOf n==some .cell)=true
   ·rw[if_pos hc]at h
    simp only[aT,hx]at h⊢;have :k=.free:=by
     have :=hc
     simp only[ag]at this;simpa using this.1.1
    subst this;exact .inr ⟨rfl,(aP h).symm⟩
   ·rw[if_neg hc]at h
    simp only[aT,hx]at h⊢;exact .inl h
  |false=>
   have e:cg x (r.map fun(n,k)=>if(k==bX&&env.scope.kind== .function&&env.kindOf n==some .cell)then(n,cK)else(n,k))=some k':=by
    split at h<;>simpa only[aT,hx]using h
   simp only[aT,hx];exact ih e
theorem fL{env:Env}:∀{names:List (Str×dH)}{x:Str},names.lookup x=some .free->
  (names.map fun(n,k)=>if(k==bX&&env.scope.kind== .function&&env.kindOf n==some .cell)then(n,cK)else(n,k)).lookup x=some .free\/
  (names.map fun(n,k)=>if(k==bX&&env.scope.kind== .function&&env.kindOf n==some .cell)then(n,cK)else(n,k)).lookup x=some .cell
 | [],_,h=>by simp at h
 | (n,k)::r,x,h=>by
  have ih:= @fL env r x;rw[bC];change cg x ((if(k==bX&&env.scope.kind== .function&&env.kindOf n==some .cell)=true then(n,cK)else(n,k))::_)=_\/cg x ((if(k==bX&&env.scope.kind== .function&&env.kindOf n==some .cell)=true then(n,cK)else(n,k))::_)=_;cases hx:x==n with
  |true=>
   simp only[aT,hx]at h;cases h;by_cases hc:(bX==bX&&env.scope.kind== .function&&env.kindOf n==some .cell)=true
   ·rw[if_pos hc];right;simp only[aT,hx]
   ·rw[if_neg hc];left;simp only[aT,hx]
  |false=>
   simp only[aT,hx]at h;split <;>simpa only[aT,hx]using ih h
theorem fA{env:Env}:∀{names:List (Str×dH)}{x:Str}{k:Option dH},names.lookup x=k->k≠some .free->
  (names.map fun(n,k)=>if(k==bX&&env.scope.kind== .function&&env.kindOf n==some .cell)then(n,cK)else(n,k)).lookup x=k
 | [],_,_,h,_=>by simpa using h
 | (n,k)::r,x,k',h,hf=>by
  have ih:= @fA env r x k';rw[bC];change cg x ((if(k==bX&&env.scope.kind== .function&&env.kindOf n==some .cell)=true then(n,cK)else(n,k))::_)=_;cases hx:x==n with
  |true=>
   simp only[aT,hx]at h;have hk:k≠.free:=fun e=>hf (by rw[<-h,e]);have hb:(k==bX)=false:=by simpa using hk
   rw[if_neg (by rw[hb];simp)];simp only[aT,hx];exact h
  |false=>
   simp only[aT,hx]at h;split <;>simpa only[aT,hx]using ih h hf
theorem uw{sc:Scope}{cl:List (Str×Addr)}{C:Addr}{env:Env}{x:Str}{k:dH}(h:(compEnvC sc cl C env).kindOf x=some k):sc.names.lookup x=some k\/(sc.names.lookup x=some .free/\k=.cell):=lA (env:=env) h
theorem Ar{prog:Program}{w:World}{A:Around}{R:Result->Shared->Prop}{s:Shared}{elt target iter:Expr}{ifs:List Expr}{scope:Scope}{pos:Pos}{it acc:Value}{env:Env}(I:Nat->Shared->Prop)
  (turn:∀n s,I n s->wpAny (model prog w) A (pyNext it) (fun r s₁=>match r with
   |none=>R (.ok .next) s₁
   |some v=>wpAny (model prog w) A (oY target it v) (fun _ s₁'=>wpAny (model prog w) A (assign target env v) (fun _ s₂=>
     wpAny (model prog w) A (forIn ifs true fun c r=>if r=true then do let ok<-isTrue c env (eval c env);pure (gf ok)else pure (gf r)) (fun ok s₃=>
      if ok=true then wpAny (model prog w) A (eval elt env) (fun x s₄=>
       wpAny (model prog w) A (call (.builtin "list.append") [acc,x]) (fun _ s₅=>∃m,m<n/\I m s₅) (fun _ _=>False) s₄) (fun _ _=>False) s₃
      else ∃m,m<n/\I m s₃) (fun _ _=>False) s₂) (fun _ _=>False) s₁') (fun _ _=>False) s₁) (fun _ _=>False) s)
  (n:Nat) (h:I n s):
  eE (model prog w) A (.compLoop (.ListComp elt [⟨target,iter,ifs,0⟩] scope pos) 0 it acc env) R s:=by
 refine codeAny_loop rfl I (fun n s hI=>?_) n h;show wpAny _ A ((compTurn (.ListComp elt [⟨target,iter,ifs,0⟩] scope pos) 0 it acc env).onRaise (fun x=>do kU x env;theTreesLotGoes x)) _ _ s;refine wpAny_noted ?_;rw[compTurn_list];refine aa (fP (aa (cH (turn n s hI) (fun r s₁ h₁=>?_) fun _ _ h'=>h'.elim)));cases r with
 |none=>exact ai h₁
 |some v=>
  refine aa (cH h₁ (fun _ s₁' h₁'=>?_) fun _ _ h'=>h'.elim);refine aa (cH h₁' (fun _ s₂ h₂=>aa (cH h₂ (fun ok s₃ h₃=>?_) fun _ _ h'=>h'.elim)) fun _ _ h'=>h'.elim);cases ok with
  |false=>exact ai ⟨rfl,h₃⟩
  |true=>
   exact aa (aa (cH h₃ (fun x s₄ h₄=>aa (cH h₄ (fun _ s₅ h₅=>ai (ai ⟨rfl,h₅⟩)) fun _ _ h'=>h'.elim)) fun _ _ h'=>h'.elim))
noncomputable def PTs(X:Cx)(ifs:List Expr)(t:TT):Prop:=
 ∀(pins:List (Addr×Obj))(s:Shared)(σ:St)(H:Hp)(Q:Bool->Hp->Prop),Inv X pins σ H s->t σ H Q->
  wpAny (model X.prog X.w) X.A (forIn ifs true fun c r=>if r=true then do let ok<-isTrue c X.env (eval c X.env);pure (gf ok)else pure (gf r)) (TP X pins σ Q) X.xe s
noncomputable def tYes:TT:=fun _ H Q=>Q true H
theorem pts_nil{X:Cx}:PTs X [] tYes:=by
 intro pins s σ H Q I h;rw[xq];exact ai ⟨H,I,h⟩
theorem pts_one{X:Cx}{c:Expr}{t:TT}(h:PT X c t):PTs X [c] t:=by
 intro pins s σ H Q I hw;rw[List.forIn_cons];simp only[if_true];refine aa (aa (thn (h pins s σ H Q I hw) fun b s1 q=>?_));refine ai ?_;show wpAny _ _ (forIn ([]:List Expr) b _) _ _ s1;rw[xq];exact ai q
noncomputable def tQ(wi:TI)(g:TG)(tc:TT)(te:TE)(mk:St->St):TE:=fun σ H Q=>wi σ H fun J H1=>∃W:Nat->Nat->St->List V->Hp->Prop,(∃m,W 0 m (mk σ) [] H1)/\
 ∀i m τ acc H2,W i m τ acc H2->(J.stop i H2/\∀l,H2 l=none->Q (.ref l) (upd H2 l (.lst acc)))\/(J.go i H2/\∃N:St->List V->Hp->Prop,(∀τ' acc' H',N τ' acc' H'->∃m',m'<m/\W (i+1) m' τ' acc' H')/\
  ∀x H3,J.yld i H2 x H3->g x τ H3 fun τ4 H4=>tc τ4 H4 fun b H5=>if b=true then te τ4 H5 fun v H6=>acc.length<sizeLine/\N τ4 (acc++[v]) H6 else N τ4 acc H5)
theorem Inv.track{X:Cx}{pins:List (Addr×Obj)}{σ:St}{H:Hp}{s:Shared}{a:Addr}{o:HO}(I:Inv X pins σ H s)(hf:oV X pins H a)(new:cZ X.prog X.w (upd H a o) s.heap a o):Inv X pins σ (upd H a o) s:=by
 obtain⟨h0,h1,h2,h3,h4,h5⟩:=hf;have :=I.step (g':=s.gens) (d':=s.drawn) (t':=s.toks) (h':=s.heap) (H':=upd H a o) (ch:=[a]) (fun b hb=>by
   have e:b=a:=by simpa using hb
   subst e;exact⟨h3,h1,h4,h5⟩)
  (fun b ob _ _ _ q _=>q) (fun b ob _ _ _ q _=>⟨ob.slots,q⟩) (fun b ob hb q n=>by rw[aN (fun z=>hb (by simp[z]))];exact n) (fun b ob _ q=>⟨ob,q⟩)
  (fun b xs q=>by rw[aN (bG q h0)];exact q) (fun b ob u q=>by rw[aN (bG q h0)];exact q) (fun b ps q=>⟨#[],by rw[aN (bG q h0),q];simp⟩)
  (fun m hm=>hm) (fun b u q=>by
   by_cases hb:b=a
   ·subst hb;rw[aq]at q;cases q;exact new
   ·rw[aN hb]at q
    exact(I.hok b u q).pb (fun c v _ e=>e) (fun c e=>by rw[aN (bG e h0)];exact e) fun c xs e=>by rw[aN (bG e h0)];exact e) I.bare
 exact this
theorem Ay{X:Cx}{pins:List (Addr×Obj)}{σ:St}{H:Hp}{s:Shared}{a:Addr}{its:List Value}{n:Nat}{u:Value}{Q:Value->Shared->Prop}{E:Value->Shared->Prop}(I:Inv X pins σ H s)(hf:oV X pins H a)
  (e:s.heap.get? a=some {cls:=.type "list",data:=.seq its.toArray n}) (hz:its.length<sizeLine)
  (h:∀h' n',Inv X pins σ H {s with heap:=h'}->h'.get? a=some {cls:=.type "list",data:=.seq (its++[u]).toArray n'}->(∀b o,b≠a->s.heap.get? b=some o->h'.get? b=some o)->Q .none {s with heap:=h'}):
  wpAny (model X.prog X.w) X.A (call (.builtin "list.append") [.ref a,u]) Q E s:=by
 refine DD F.slot_list_append ⟨_,e,rfl⟩ F.entry_list_append (F.args_list_append_2 _ _) (PySem.list_append a its.toArray n u (by rw[ay];omega)) ⟨e,?_⟩;have q:=DF e (·.push u);have eq:its.toArray.push u=(its++[u]).toArray:=by simp
 rw[eq]at q;have k:∀b o,b≠a->s.heap.get? b=some o->(s.heap.update a (aW (·.push u))).get? b=some o:=fun b o hb z=>(aD s.heap _ (bK hb)).trans z;obtain⟨h0,h1,h2,h3,h4,h5⟩:=hf;exact h _ _ (I.turned (t':=s.toks) k h0 h1 h3 h4 h5) q k
section
variable {X:Cx}{N':List Str}{sc:Scope}{elt tg iter:Expr}{ifs:List Expr}{pos:Pos}{wi:TI}{g:TG}{tc:TT}{te:TE}{mk:St->St}
noncomputable def MkOk(X:Cx)(N':List Str)(sc:Scope)(mk:St->St):Prop:=
 ∀σ:St,σ.length=X.N.length->(mk σ).length=N'.length/\∀(i:Nat)(x:Str)(v:V),N'[i]? =some x->(mk σ)[i]? =some (some v)->sc.names.lookup x=some .free/\∃j:Nat,X.N[j]? =some x/\σ[j]? =some (some v)
theorem uG{pins:List (Addr×Obj)}{σ:St}{H:Hp}{s:Shared}{Q:VK}{use:Option (Value->Sem Unit)}{QQ:Value->Shared->Prop}(S:my X N' sc)(hm:MkOk X N' sc mk)(hc:X.calm=true)
  (hi:PI X tg iter wi)
  (hb:∀C s₀ H₀ fp,(dA X N' sc C s₀ H₀ fp).Ok->PG (dA X N' sc C s₀ H₀ fp) tg g/\PTs (dA X N' sc C s₀ H₀ fp) ifs tc/\PE (dA X N' sc C s₀ H₀ fp) elt te)
  (hs:∀x,iQ iter X.env x=pure x)(I:Inv X pins σ H s)(h:tQ wi g tc te mk σ H Q)
  (fin:∀(l C:Addr)(H':Hp)(s':Shared)(m:Str->Option Value),Inv X pins σ H' s'->s'.heap.Ns C m->oV X pins H' C->(∃o,s'.heap.get? C=some o/\∀v,o.data≠.cell v)->Q (.ref l) H'->compPost (model X.prog X.w) X.A X.xe use QQ (.ref l) C (.ok .next) s'):
  wpAny (model X.prog X.w) X.A (comprehension (.ListComp elt [⟨tg,iter,ifs,0⟩] sc pos) sc X.env (firstIterPos [⟨tg,iter,ifs,0⟩] pos) (newList []) false (eval iter X.env) use) QQ X.xe s:=by
 have hcells:∀y∈sc.names,y.2=.free->∃c,X.env.cells.lookup y.1=some c:=fun y hy hf=>I.ok.has _ (S.free y hy hf);refine wpAny_comprehension_free (use:=use) rfl hs (tG hcells) S.kind S.own ?_;refine thn (hi pins s σ H _ I h) fun v s1 h1=>thn h1 fun itv s2 h2=>?_;obtain⟨it,fp,tn,J,H2,e,I2,T,st2,f2,W,⟨m0,w0⟩,turn⟩:=h2;subst e
 --the list
 refine bY ?_;have hl0:H2 s2.heap.objs.size=none:=I2.fresh;have fD:oV X pins H2 s2.heap.objs.size:=I2.wk (aw _) hl0;have eD3:(s2.heap.push {cls:=.type "list",dict:=none,data:=.seq ([]:List Value).toArray}).get? s2.heap.objs.size=some {cls:=.type "list",data:=.seq ([]:List Value).toArray 0}:=au _ rfl;have I3:Inv X pins σ H2 {s2 with heap:=s2.heap.push {cls:=.type "list",dict:=none,data:=.seq ([]:List Value).toArray}}:=I2.kept (t':=s2.toks) fun b o e=>af _ e
 --the block's frame
 refine Aq ?_;dsimp only;have szL:(s2.heap.push {cls:=.type "list",dict:=none,data:=.seq ([]:List Value).toArray}).objs.size=s2.heap.objs.size+1:=bN ..;have hDC:s2.heap.objs.size≠(s2.heap.push {cls:=.type "list",dict:=none,data:=.seq ([]:List Value).toArray}).objs.size:=by rw[szL];exact aE (bT _)
 have k23:∀b o,s2.heap.get? b=some o->(s2.heap.push {cls:=.type "list",dict:=none,data:=.seq ([]:List Value).toArray}).get? b=some o:=fun b o e=>af _ e;generalize hH3:s2.heap.push {cls:=.type "list",dict:=none,data:=.seq ([]:List Value).toArray}=P3 at I3 szL eD3 hDC k23⊢;generalize hD:s2.heap.objs.size=D0 at *;have hns4:(pushCells (P3.push {cls:=.type "dict",data:=.dict #[]}) sc.names).Ns P3.objs.size (fun _=>none):=(Heap.Ns.new P3 (.type "dict")).keeps (pushCells_keeps _ _);have keep4:∀b o,P3.get? b=some o->(pushCells (P3.push {cls:=.type "dict",data:=.dict #[]}) sc.names).get? b=some o:=fun b o e=>pushCells_keeps _ _ b o (af _ e);have own4:=cellsFrom_ok sc.names (P3.push {cls:=.type "dict",data:=.dict #[]}) (P3.objs.size+1) [] ⟨fun _ _ hm=>(nomatch hm),iV⟩ (by rw[bN];exact aw _);rw[bN]at own4;generalize pushCells (P3.push {cls:=.type "dict",data:=.dict #[]}) sc.names=h4 at hns4 keep4 own4⊢
 --the context
 have fpl:∀b∈fp,b<D0:=fun b hb=>by
  obtain⟨o,e,_⟩:=T.obj _ _ st2 b hb;rw[<-hD];exact ax e
 have hCb:D0<P3.objs.size:=by rw[szL];exact bT _
 have clo:∀x c,(eP X.env.cells sc.names []).lookup x=some c->X.env.cells.lookup x=some c/\(x,bX)∈sc.names:=fun x c e=>by
  rcases jI _ _ x c e with⟨q,e'⟩ |q
  ·obtain⟨c',hc'⟩:=hcells _ q rfl
   have hc'':X.env.cells.lookup x=some c':=hc';rw[hc'']at e'⊢;exact⟨by rw[e'];rfl,q⟩
  ·simp at q
 have clt:∀x c,(eP X.env.cells sc.names []).lookup x=some c->c<P3.objs.size:=fun x c e=>by
  obtain⟨v,o,ho,_⟩:=I3.cell x c (clo x c e).1;exact ax ho
 have cel:∀x c,(cy (P3.objs.size+1) sc.names (eP X.env.cells sc.names [])).lookup x=some c->((x,c)∈cy (P3.objs.size+1) sc.names []/\P3.objs.size+1<=c/\h4.IsCell c none)\/(eP X.env.cells sc.names []).lookup x=some c:=fun x c e=>by
  rw[eW,ql]at e;cases ho:(cy (P3.objs.size+1) sc.names []).lookup x with
  |none=>
   rw[ho]at e;exact .inr e
  |some c'=>
   rw[ho]at e;cases e;have m:=bq ho;exact .inl ⟨m,(own4.empty x c m).2,(own4.empty x c m).1⟩
 have celf:∀x,sc.names.lookup x=some .free->(cy (P3.objs.size+1) sc.names (eP X.env.cells sc.names [])).lookup x=(eP X.env.cells sc.names []).lookup x:=fun x hf=>by
  rw[eW,ql];cases ho:(cy (P3.objs.size+1) sc.names []).lookup x with
  |none=>rfl
  |some c'=>
   rcases jL _ _ _ _ _ (bq ho)with q|q
   ·have :=S.cellk _ q rfl
    rw[hf]at this;cases this
   ·cases q
 have f3:∀b∈D0::fp,oV X pins H2 b/\b<P3.objs.size:=fun b hb=>by
  rcases aA.mp hb with z|z
  ·rw[z];exact⟨fD,hCb⟩
  ·exact⟨f2 b z,fj (fpl b z) hCb⟩
 have ok:(dA X N' sc P3.objs.size {s2 with heap:=P3} H2 (D0::fp)).Ok:=by
  refine⟨I.ok.mod,S.kind,I.ok.glob,I.ok.blt,aw _,fun x y c h1 h2=>?_,fun x hx=>?_,fun x c z=>?_,fun z=>I.ok.hd z,I.ok.frames,.inl rfl,fun b hb=>⟨?_,fun x c e=>?_⟩,I3.bs,aF I.ok.bsz I3.sz,fun b o e hb=>?_,fun b hb z=>?_,I3.stack,I3.vh⟩
  ·rcases cel x c h1 with⟨m1,l1,_⟩ |q1<;>rcases cel y c h2 with⟨m2,l2,_⟩ |q2
   ·exact PySem.name_of_addr own4.apart m1 m2
   ·exact absurd l1 (Nat.not_le.mpr (bB (clt y c q2)))
   ·exact absurd l2 (Nat.not_le.mpr (bB (clt x c q1)))
   ·exact I.ok.inj x y c (clo x c q1).1 (clo y c q2).1
  ·have q:sc.names.lookup x=some .free\/sc.names.lookup x=some .cell:=by
    rcases hx with hx|hx
    ·rcases uw hx with q|q
     ·exact .inr q
     ·exact .inl q.1
    ·rcases uw hx with q|q
     ·exact .inl q
     ·exact .inl q.1
   rcases q with q|q
   ·have h1:=ck.mp (nq (cells:=X.env.cells) _ [] _ (bq q))
    show ∃c,(cy (P3.objs.size+1) sc.names (eP X.env.cells sc.names [])).lookup x=some c;rw[celf x q];exact h1
   ·exact ck.mp (hU _ _ _ _ (bq q))
  ·have z:(sc.names.any fun y=>decide (y.1=x)&&decide (y.2=cK))=true:=z
   obtain⟨y,hy,e⟩:=bS.mp z;rw[ag,decide_eq_true_eq,decide_eq_true_eq]at e;intro hc;rcases cel x c hc with⟨_,l1,_⟩ |q1
   ·show P3.objs.size<=c
    omega
   ·have hk:=S.cellk y hy e.2
    rw[e.1]at hk;rcases jI _ _ x c q1 with⟨q,_⟩ |q
    ·have h2:(cy (P3.objs.size+1) sc.names []).lookup x≠none:=fun h=>by
      have :=hU sc.names (P3.objs.size+1) [] x (bq hk)
      rw[h]at this;cases this
     have hc':(cy (P3.objs.size+1) sc.names (eP X.env.cells sc.names [])).lookup x=some c:=hc;rw[eW,ql]at hc';cases ho:(cy (P3.objs.size+1) sc.names []).lookup x with
     |none=>exact absurd ho h2
     |some c'=>
      rw[ho]at hc';cases hc';have :=(own4.empty x c (bq ho)).2;show P3.objs.size<=c;omega
    ·cases q
  ·exact aE (f3 b hb).2
  ·rcases cel x c e with⟨_,l1,_⟩ |q1
   ·have :=(f3 b hb).2
    exact fun z=>by subst z;omega
   ·exact(f3 b hb).1.2.2.2.2.1 x c (clo x c q1).1
  ·rcases(f3 b hb).1.2.2.2.1 with z|z
   ·exact I.ok.noex b o e z
   ·exact absurd (aZ (ax e) (aF I.ok.bsz z)) (d5 _)
  ·rcases aA.mp (I2.zC b z)with q|q
   ·exact(f3 b hb).1.2.1 q
   ·exact(f3 b hb).1.2.2.1 q
 obtain⟨pg,pt,pe⟩:=hb _ _ _ _ ok;have I4:Inv (dA X N' sc P3.objs.size {s2 with heap:=P3} H2 (D0::fp)) [] (mk σ) H2 {s2 with heap:=h4}:=by
  obtain⟨ml,hmk⟩:=hm σ I.len;have locC:∀x c v,X.env.cells.lookup x=some c->P3.IsCell c v->h4.IsCell c v:=fun x c v e ⟨o,ho,hd⟩=>⟨o,keep4 c o ho,hd⟩;refine⟨ok,rfl,I2.bare,Un.kept keep4,⟨_,hns4,fun i x v e1 e2 e3=>?_⟩,fun x c e=>?_,I3.hok.fresh (aw _),fun x c e=>?_,fun p hp=>absurd (show p∈([]:List (Addr×Obj))from hp) (by simp),I3.hok.kept keep4,ml⟩
  ·obtain⟨hf,j,hj,hv⟩:=hmk i x v e1 e2
   obtain⟨m,hn,hl⟩:=I3.loc;have kx:=S.free (x,.free) (bq hf) rfl;obtain⟨u,r,l⟩:=hl j x v hj hv (by
    rcases kx with q|q
    ·exact .inr (.inl q)
    ·exact .inr (.inr q))
   refine⟨u,r,.inr ⟨?_,?_⟩⟩
   ·rcases fL (env:=X.env) hf with q|q
    ·exact .inr q
    ·exact .inl q
   ·rcases l with⟨q,_⟩ |⟨_,c,hc1,hc2⟩
    ·have kx':X.env.kindOf x=some .cell\/X.env.kindOf x=some .free:=kx
     rw[q]at kx';rcases kx' with z|z<;>cases z
    ·obtain⟨c',q⟩:=ck.mp (nq (cells:=X.env.cells) _ [] _ (bq hf))
     have :=(clo x c' q).1
     rw[hc1]at this;cases this;exact⟨c,by show(cy (P3.objs.size+1) sc.names (eP X.env.cells sc.names [])).lookup x=some c;rw[celf x hf];exact q,locC x c _ hc1 hc2⟩
  ·rcases cel x c e with⟨_,_,hv⟩ |q1
   ·exact⟨none,hv⟩
   ·obtain⟨v,hv⟩:=I3.cell x c (clo x c q1).1
    exact⟨v,locC x c v (clo x c q1).1 hv⟩
  ·rcases cel x c e with⟨_,l1,_⟩ |q1
   ·exact I3.hok.fresh (by show P3.objs.size<=c;omega)
   ·exact I3.freeC x c (clo x c q1).1
 have st4:tn 0 h4:=T.keep _ _ _ st2 fun b hb o e=>keep4 b o (k23 b o e);have f4:∀{H':Hp}{b:Addr},b∈D0::fp->H' b=none->oV (dA X N' sc P3.objs.size {s2 with heap:=P3} H2 (D0::fp)) [] H' b:=fun{H' b} hb hn=>
  ⟨hn,(ok.exf b hb).1,ok.exfs b hb,.inl hb,(ok.exf b hb).2,fun p hp=>absurd (show p∈([]:List (Addr×Obj))from hp) (by simp)⟩
 have ofp:∀{b:Addr},b∈fp->b∈D0::fp:=fun hb=>aJ _ hb;have nD:∀b∈fp,b≠D0:=fun b hb=>aE (fpl b hb)
 --the loop
 have loop:eE (model X.prog X.w) X.A (.compLoop (.ListComp elt [⟨tg,iter,ifs,0⟩] sc pos) 0 (.ref it) (.ref D0) (compEnvC sc (cy (P3.objs.size+1) sc.names (eP X.env.cells sc.names [])) P3.objs.size X.env))
   (compPost (model X.prog X.w) X.A X.xe use QQ (.ref D0) P3.objs.size) {s2 with heap:=h4}:=by
  refine Ar (fun n s'=>∃i τ acc H' its k,Inv (dA X N' sc P3.objs.size {s2 with heap:=P3} H2 (D0::fp)) [] τ H' s'/\tn i s'.heap/\(∀b∈D0::fp,H' b=none)/\bM acc its/\acc.length<=sizeLine/\
    s'.heap.get? D0=some {cls:=.type "list",data:=.seq its.toArray k}/\W i n τ acc H') ?_ m0
   ⟨0,mk σ,[],_,[],0,I4,st4,fun b hb=>(f3 b hb).1.1,.nil,bp _,keep4 _ _ eD3,w0⟩
  rintro n s5 ⟨i,τ,acc,H5,its,kk,I5,st5,fr5,va5,hz5,e5,w5⟩;have I5p:Inv (dA X N' sc P3.objs.size {s2 with heap:=P3} H2 (D0::fp)) ([]++ig [D0] s5.heap) τ H5 s5:=by
   refine I5.pinned (fun b hb=>?_) (fun b hb=>?_)
   ·have z:b=D0:=by simpa using hb
    rw[z];exact f4 aH (fr5 D0 aH)
   ·have z:b=D0:=by simpa using hb
    rw[z];exact⟨_,e5,fun v z=>by cases z⟩
  obtain q|⟨go,NN,hN,step⟩:=turn i n τ acc H5 w5
  ·obtain⟨stop,q⟩:=q
   refine thn (T.done (dA X N' sc P3.objs.size {s2 with heap:=P3} H2 (D0::fp)) rfl rfl rfl hc i _ s5 τ H5 (fun _ _=>False) I5p (fun b hb=>?_) st5 stop) fun r s6 ⟨hr,I6p⟩=>?_
   ·obtain⟨g0,g1,g2,g3,g4,_⟩:=f4 (ofp hb) (fr5 b (ofp hb))
    refine⟨g0,g1,g2,g3,g4,fun p hp=>?_⟩;have hp':p∈ig [D0] s5.heap:=by simpa[dA]using hp
    obtain⟨z,_⟩:=pk hp';have z':p.1=D0:=by simpa using z
    rw[z'];exact(nD b hb).symm
   subst hr;have I6:=I6p.gJ;have e6:s6.heap.get? D0=some {cls:=.type "list",data:=.seq its.toArray kk}:=(I6p.pin (D0,_) (bg _ (bg _ (gV (by simp) e5)))).1
   --back in the context around
   have un:Un (frs X.stack) fp H2 H5 s2.heap s6.heap:=by
    have u:=I6.base;have nb:∀b o,s2.heap.get? b=some o->b∉fp->b∉D0::fp:=fun b o e hb z=>by
     rcases aA.mp z with z|z
     ·exact absurd (ax e) (by rw[z,hD];exact d5 _)
     ·exact hb z
    exact⟨fun b o e n hb hx=>u.keep b o (k23 b o e) n hb (nb b o e hx),fun b o e n hb hx=>u.slot b o (k23 b o e) n hb (nb b o e hx),fun b o e n hx=>u.free b o (k23 b o e) n (nb b o e hx),fun b o e hx=>u.there b o (k23 b o e) (nb b o e hx),u.tups,u.frzs,u.tbls⟩
   have I7:Inv X pins σ H5 s6:=by
    obtain⟨hh,g6,d6,t6,os6⟩:=s6;have eo:os6=s2.os:=I6.os;subst eo;exact I2.call (h':=hh) (g':=g6) (d':=d6) (t':=t6) (ch:=fp) un I6.hok I6.bare fun b hb=>⟨(f2 b hb).2.2.2.1,(f2 b hb).2.1,(f2 b hb).2.2.2.2.1,(f2 b hb).2.2.2.2.2⟩
   have fD5:oV X pins H5 D0:=⟨fr5 D0 aH,fD.2⟩;have I8:=I7.track (o:=.lst acc) fD5 (show cZ X.prog X.w _ s6.heap D0 (.lst acc)from⟨hz5,its,kk,va5,e6⟩);obtain⟨m,hn,_⟩:=id I6.loc;refine fin _ P3.objs.size _ s6 m I8 hn (I2.wk (by rw[hD];exact jS hCb) (by rw[aN (bK hDC)];exact I6.free)) ?_ (q D0 (fr5 D0 aH));obtain⟨o,es,ep,ho,hd,_⟩:=hn;exact⟨o,ho,fun v z=>by rw[hd]at z;cases z⟩
  ·skip
   have fpi:∀{H':Hp}{b:Addr},b∈fp->H' b=none->oV (dA X N' sc P3.objs.size {s2 with heap:=P3} H2 (D0::fp)) ([]++ig [D0] s5.heap) H' b:=fun{H' b} hb hn=>by
    obtain⟨g0,g1,g2,g3,g4,_⟩:=f4 (H':=H') (ofp hb) hn;refine⟨g0,g1,g2,g3,g4,fun p hp=>?_⟩;have hp':p∈ig [D0] s5.heap:=by simpa[dA]using hp
    obtain⟨z,_⟩:=pk hp';have z':p.1=D0:=by simpa using z
    rw[z'];exact(nD b hb).symm
   refine thn (T.item (dA X N' sc P3.objs.size {s2 with heap:=P3} H2 (D0::fp)) rfl rfl rfl hc i _ s5 τ H5 (fun _ _=>False) I5p (fun b hb=>fpi hb (fr5 b (ofp hb))) st5 go) fun r s6 ⟨u,hr,h6⟩=>?_;subst hr;refine thn h6 fun _ s7 ⟨x,H7,I7,r7,y7,st7,fr7⟩=>?_;have I7':=I7.pinned (fun b hb=>fpi hb (fr7 b hb)) (T.obj _ _ st7);refine thn (pg _ s7 τ H7 x u _ I7' r7 (step x H7 y7)) fun _ s8 ⟨τ8,H8,I8,q8⟩=>?_;refine thn (pt _ s8 τ8 H8 _ I8 q8) fun b s9 ⟨H9,I9,q9⟩=>?_;have pinD:∀{τ':St}{H':Hp}{s':Shared},Inv (dA X N' sc P3.objs.size {s2 with heap:=P3} H2 (D0::fp)) ([]++ig [D0] s5.heap++ig fp s7.heap) τ' H' s'->s'.heap.get? D0=some {cls:=.type "list",data:=.seq its.toArray kk}/\H' D0=none:=fun{τ' H' s'} J=>by
    have :=J.pin (D0,_) (bg _ (dM _ (bg _ (gV (by simp) e5))))
    exact⟨this.1,this.2.1⟩
   have pinF:∀{τ':St}{H':Hp}{s':Shared},Inv (dA X N' sc P3.objs.size {s2 with heap:=P3} H2 (D0::fp)) ([]++ig [D0] s5.heap++ig fp s7.heap) τ' H' s'->(∀b∈fp,∀o,s7.heap.get? b=some o->s'.heap.get? b=some o)/\(∀b∈fp,H' b=none):=fun{τ' H' s'} J=>by
    refine⟨fun b hb o e=>(J.pin (b,o) (bg _ (bg _ (gV hb e)))).1,fun b hb=>?_⟩;obtain⟨o,e,d⟩:=T.obj _ _ st7 b hb;exact(J.pin (b,o) (bg _ (bg _ (gV hb e)))).2.1
   cases b with
   |false=>
    rw[if_neg (by decide)]at q9⊢;obtain⟨m',hm',w7⟩:=hN τ8 acc H9 q9;obtain⟨d1,d2⟩:=pinD I9;obtain⟨p1,p2⟩:=pinF I9;refine⟨m',hm',i+1,τ8,acc,H9,its,kk,I9.gJ.gJ,T.keep _ _ _ st7 p1,fun b hb=>?_,va5,hz5,d1,w7⟩;rcases aA.mp hb with z|z
    ·rw[z];exact d2
    ·exact p2 b z
   |true=>
    rw[if_pos rfl]at q9⊢;refine thn (pe _ s9 τ8 H9 _ I9 q9) fun y s10 ⟨z,H10,I10,r10,q10⟩=>?_;obtain⟨hz10,n10⟩:=q10;obtain⟨m',hm',w7⟩:=hN τ8 _ H10 n10;obtain⟨d1,d2⟩:=pinD I10;obtain⟨p1,p2⟩:=pinF I10;have hlen:its.length=acc.length:=va5.length.symm;refine Ay (X:=dA X N' sc P3.objs.size {s2 with heap:=P3} H2 (D0::fp)) I10.gJ.gJ (f4 aH d2) d1 (by omega) fun h' n' I11 e11 k11=>?_;refine⟨m',hm',i+1,τ8,acc++[z],H10,its++[y],n',I11,T.keep _ _ _ st7 fun b hb o e=>k11 b o (nD b hb) (p1 b hb o e),fun b hb=>?_,va5.append (.cons r10 .nil),?_,e11,w7⟩
    ·rcases aA.mp hb with w|w
     ·rw[w];exact d2
     ·exact p2 b w
    ·rw[cm,mX];omega
 exact codeAny_compStart_list loop (T.self _ 0 _ _ _ st4 loop)
theorem pe_comp(S:my X N' sc)(hm:MkOk X N' sc mk)(hc:X.calm=true)(hi:PI X tg iter wi)
  (hb:∀C s₀ H₀ fp,(dA X N' sc C s₀ H₀ fp).Ok->PG (dA X N' sc C s₀ H₀ fp) tg g/\PTs (dA X N' sc C s₀ H₀ fp) ifs tc/\PE (dA X N' sc C s₀ H₀ fp) elt te)
  (hs:∀x,iQ iter X.env x=pure x:=by intro _;rfl):PE X (.ListComp elt [⟨tg,iter,ifs,0⟩] sc pos) (tQ wi g tc te mk):=by
 intro pins s σ H Q I h;rw[eval_ListComp];refine uG (use:=none) S hm hc hi hb hs I h fun l C H' s' m I' hn hC hCo q=>⟨m,hn,fun h'' hs''=>?_⟩;have I'':Inv X pins σ H' {s' with heap:=h'',toks:=s'.toks}:=I'.turned (fun b o hb e=>hs''.extBut b o hb e) hC.1 hC.2.1 hC.2.2.2.1 hC.2.2.2.2.1 hC.2.2.2.2.2;exact⟨.ref l,H',I'',rfl,q⟩
theorem zR{i:Nat}{x:Str}{pos' spos:Pos}(S:my X N' sc)(hm:MkOk X N' sc mk)(hc:X.calm=true)(hi:PI X tg iter wi)
  (hb:∀C s₀ H₀ fp,(dA X N' sc C s₀ H₀ fp).Ok->PG (dA X N' sc C s₀ H₀ fp) tg g/\PTs (dA X N' sc C s₀ H₀ fp) ifs tc/\PE (dA X N' sc C s₀ H₀ fp) elt te)
  (hN:X.N.Nodup)(hx:X.N[i]? =some x)(hl:X.env.scope.names.lookup x=some .local)
  (hsw:kT (.ListComp elt [⟨tg,iter,ifs,0⟩] sc pos) (some (.Name x pos')) spos.line X.env=pure true)
  (hs:∀x,iQ iter X.env x=pure x:=by intro _;rfl):PS X (.Assign [.Name x pos'] (.ListComp elt [⟨tg,iter,ifs,0⟩] sc pos) spos) (vg (tQ wi g tc te mk) (lL i)):=by
 intro pins s σ H D I h;rw[exec_Assign_Name_used _ _ _ _ hsw];refine aa (fP (aa ?_));show wpAny _ X.A (do let _<-comprehension (.ListComp elt [⟨tg,iter,ifs,0⟩] sc pos) sc X.env (firstIterPos [⟨tg,iter,ifs,0⟩] pos) (newList []) false (eval iter X.env) (some (assign (.Name x pos') X.env))) _ _ s;refine aa (thn (uG (use:=some (assign (.Name x pos') X.env)) (QQ:=fun _ s'=>SP X pins D .next s') S hm hc hi hb hs I h fun l C H' s' m I' hn hC hCo q=>?_) fun _ s' hq=>ai (ai hq));obtain⟨oC,eC,dC⟩:=id hCo;have I1:Inv X (pins++[(C,oC)]) σ H' s':=I'.vI fun p hp=>(fq.mp hp).elim (fun z=>I'.pin p (bg _ z)) fun z=>by
  have e:p=(C,oC):=by simpa using z
  subst e;exact⟨eC,hC.1,hC.2.1,hC.2.2.1,dC⟩
 show wpAny _ X.A (assign (.Name x pos') X.env (.ref l)) _ _ s';refine thn (vJ (i:=i) hN hx (.inl hl) (.inr hl) (pins++[(C,oC)]) s' σ H' (.ref l) (.ref l) D.nx I1 rfl q) fun _ s2 ⟨σ2,H2,I2,q2⟩=>?_;obtain⟨eC2,nC2,_,_,_⟩:=I2.pin (C,oC) (bg _ (bg _ (by simp)));have hn2:s2.heap.Ns C m:=by
  obtain⟨o,es,ep,ho,r⟩:=hn;have :o=oC:=by rw[eC]at ho;exact(aP ho).symm
  subst this;exact⟨o,es,ep,eC2,r⟩
 refine⟨m,hn2,fun h'' hs''=>?_⟩;have I3:Inv X pins σ2 H2 {s2 with heap:=h'',toks:=s2.toks}:=I2.gJ.turned (fun b o hb e=>hs''.extBut b o hb e) nC2 hC.2.1 hC.2.2.2.1 hC.2.2.2.2.1 hC.2.2.2.2.2;exact⟨σ2,H2,I3,q2⟩
end
section
variable {X:Cx}
theorem qe:eL X (.builtin "isinstance") (fun xs H Q=>∃x T t b,xs=[x,.ty T]/\k9 X.K H x t/\cA X.K t (.type T)=some b/\Q (.bl b) H):=by
 intro pins s σ H xs us Q I rv h;obtain⟨x,T,t,b,rfl,ty,e,q⟩:=h;obtain⟨u,c,rfl,ru,rc⟩:=rv.two;cases rc;exact uy I ru ty e fun tk=>⟨.bl b,H,I.tok tk,rfl,q⟩
theorem oB:eL X (.builtin "isinstance") (fun xs H Q=>∃x C t b,xs=[x,.ref C]/\k9 X.K H x t/\cA X.K t (.ref C)=some b/\Q (.bl b) H):=by
 intro pins s σ H xs us Q I rv h;obtain⟨x,T,t,b,rfl,ty,e,q⟩:=h;obtain⟨u,c,rfl,ru,rc⟩:=rv.two;cases rc;exact uy I ru ty e fun tk=>⟨.bl b,H,I.tok tk,rfl,q⟩
theorem xy{prog:Program}{w:World}{A:Around}{its:List Value}{bs:List Bool}(r:bM (bs.map V.bl) its):TruthOf prog w A (fun i v=>its.toArray[i]? =some v) (fun i=>bs.getD i false):=by
 intro i v s Q E hP h;have hi:its[i]? =some v:=by simpa using hP
 have e:v=.bool (bs.getD i false):=by
  have hl:=r.length;rw[av]at hl;have hlt:i<bs.length:=by
   have :=(aY.mp hi).1
   omega
  obtain⟨u,hu,ru⟩:=bM.get (i:=i) (x:=.bl bs[i]) r (by simp[hlt]);rw[hi]at hu;cases hu;have ru':v=pN bs[i]:=ru;rw[ru',aj,ah hlt];rfl
 rw[e];exact cM h
theorem range_all(bs:List Bool):(aI bs.length).all (fun i=>bs.getD i false)=bs.all id:=by
 have :bs=(aI bs.length).map fun i=>bs.getD i false:=by
  apply cE
  ·simp
  ·intro i h1 h2
   simp[h1]
 rw[jd];simp only[bc,cw];constructor
 ·intro h x hx
  obtain⟨i,hi,rfl⟩:=fQ.mp hx;have :=h i hi;simpa[hi]using this
 ·intro h i hi
  have :=h bs[i] (bQ hi)
  simpa[hi]using this
theorem range_any(bs:List Bool):(aI bs.length).any (fun i=>bs.getD i false)=bs.any id:=by
 rw[jd];simp only[bS,cw];constructor
 ·rintro⟨i,hi,h⟩
  exact⟨bs[i],bQ hi,by simpa[hi]using h⟩
 ·rintro⟨x,hx,h⟩
  obtain⟨i,hi,rfl⟩:=fQ.mp hx;exact⟨i,hi,by simpa[hi]using h⟩
theorem GK(hc:X.calm=true):eL X (.builtin "all") (fun xs H Q=>∃(p:Addr)(bs:List Bool),xs=[.ref p]/\SqL X.K H p (bs.map V.bl)/\Q (.bl (bs.all id)) H):=by
 intro pins s σ H xs us Q I rv h;obtain⟨p,bs,rfl,hq,q⟩:=h;obtain⟨u,rfl,ru⟩:=rv.one;cases ru;obtain⟨its,r,pl,hz⟩:=I.list hq;have hlen:its.toArray.size=bs.length:=by rw[ay,<-r.length,av]
 have hne:p≠s.heap.objs.size:=by obtain⟨o,n,ho,_⟩:=id pl;exact aE (ax ho)
 refine call_all_walk (iM pl.isList ⟨s.heap.objs.size,_,_,_,_,_,fun i=>bs.getD i false,rfl,G2 (A:=X.A.in1) (I.ok.hd hc) _ p hne its.toArray,⟨⟨_,au _ rfl,rfl,rfl⟩,pl.isList.at fun o e=>af _ e⟩,xy r,fun h' tk k=>?_⟩);rw[hlen,range_all];exact⟨.bl (bs.all id),H,I.kept (t':=tk) fun b o e=>k b o (by simpa using aE (ax e)) (af _ e),rfl,q⟩
theorem GJ(hc:X.calm=true):eL X (.builtin "any") (fun xs H Q=>∃(p:Addr)(bs:List Bool),xs=[.ref p]/\SqL X.K H p (bs.map V.bl)/\Q (.bl (bs.any id)) H):=by
 intro pins s σ H xs us Q I rv h;obtain⟨p,bs,rfl,hq,q⟩:=h;obtain⟨u,rfl,ru⟩:=rv.one;cases ru;obtain⟨its,r,pl,hz⟩:=I.list hq;have hlen:its.toArray.size=bs.length:=by rw[ay,<-r.length,av]
 have hne:p≠s.heap.objs.size:=by obtain⟨o,n,ho,_⟩:=id pl;exact aE (ax ho)
 refine call_any_walk (iM pl.isList ⟨s.heap.objs.size,_,_,_,_,_,fun i=>bs.getD i false,rfl,G2 (A:=X.A.in1) (I.ok.hd hc) _ p hne its.toArray,⟨⟨_,au _ rfl,rfl,rfl⟩,pl.isList.at fun o e=>af _ e⟩,xy r,fun h' tk k=>?_⟩);rw[hlen,range_any];exact⟨.bl (bs.any id),H,I.kept (t':=tk) fun b o e=>k b o (by simpa using aE (ax e)) (af _ e),rfl,q⟩
noncomputable def cutS(x:Str)(lo hi:Option Int):Str:=⟨((x.cps.toList.drop (HT.sIx x.length 0 lo)).take (HT.sIx x.length x.length hi-HT.sIx x.length 0 lo)).toArray⟩
theorem sIx_eq(n d:Nat)(i:Int):(max 0 (min (if i<0 then i+(n:Int)else i) (n:Int)))=((HT.sIx n d (some i):Nat):Int):=by
 have :=HT.clip_eq i n d
 rw[<-this];split <;>omega
theorem strIx(lo hi:Option Int)(n:Nat):qp lo hi 1 n=(aI (HT.sIx n n hi-HT.sIx n 0 lo)).map fun k=>HT.sIx n 0 lo+k:=by
 have key:∀a b:Nat,sliceRange (a:Int) (b:Int) 1=(aI (b-a)).map fun k=>a+k:=by
  intro a b;unfold sliceRange;have e:(if(1:Int)>0 then(if(a:Int)<b then((b:Int)-a+1-1)/1 else 0)else(if(a:Int)>b then((a:Int)-b-1-1)/(-1)else 0)).toNat=b-a:=by
   rw[if_pos (by decide)];split <;>omega
  simp only[e];apply dj;intro k hk;omega
 have e1:∀(o:Option Int)(d:Nat),(match o with |none=>(d:Int) |some i=>max 0 (min (if i<0 then i+(n:Int)else i) (n:Int)))=((HT.sIx n d o:Nat):Int):=by
  intro o d;cases o with
  |none=>rfl
  |some i=>exact sIx_eq n d i
 have a1:=e1 lo 0;have a2:=e1 hi n;unfold qp;simp only[show(1:Int)>0 by decide,if_true];have b1:((0:Nat):Int)=0:=rfl;rw[b1]at a1;rw[<-key,<-a1,<-a2];cases lo<;>cases hi<;>rfl
theorem pickN(xs:Array Nat)(i:Nat):∀k,((aI k).map fun m=>i+m).filterMap (xs[·]?)=(xs.toList.drop i).take k:=by
 intro k
 induction k with
 |zero=>simp
 |succ k ih=>
  rw[List.range_succ,eD,List.filterMap_append,ih];by_cases h:i+k<xs.size
  ·rw[List.take_succ,jU]
   simp[h]
  ·rw[List.take_succ,jU]
   simp[h]
theorem B3(x:Str)(lo hi:Option Int):Txt.slice x lo hi=cutS x lo hi:=by
 have hl:HT.sIx x.length 0 lo<=x.length:=HT.Ex _ _ (bp _) lo;have hu:HT.sIx x.length x.length hi<=x.length:=HT.Ex _ _ (aw _) hi;unfold Txt.slice cutS;rw[strIx];split
 ·rename_i h
  rw[ag,beq_iff_eq,beq_iff_eq,av,dR]at h;have a:HT.sIx x.length 0 lo=0:=by omega
  have b:HT.sIx x.length x.length hi=x.length:=by omega
  rw[a,b];have :x.cps.toList.length=x.length:=by simp[y9]
  rw[List.drop_zero,Nat.sub_zero,<-this,eS]
 ·rw[pickN]
theorem p9{v:Value}{o:Option Int}(p:IsPart v o):∃l:Option (Int×Tok),v=partValue l/\o=l.map (·.1):=by
 cases p with
 |none=>exact⟨none,rfl,rfl⟩
 |int i t=>exact⟨some (i,t),rfl,rfl⟩
noncomputable def rSlS:V->Option Int->Option Int->Hp->VK->Prop:=fun x lo hi H Q=>∃z,x=.str z/\z.length<=sizeLine/\Q (.str (cutS z lo hi)) H
theorem sl_str:SlR X rSlS:=by
 intro pins s σ H x v vl vu lo hi sl Q I rx hs pl pu h;obtain⟨z,rfl,hz,q⟩:=h;obtain⟨t,rfl⟩:=rx;obtain⟨l,rfl,rfl⟩:=p9 pl;obtain⟨u,rfl,rfl⟩:=p9 pu;refine⟨"str",_,F.slot_str_getitem.lookup,typeIs_str _ _ _,?_⟩;refine wpAny_getItem_str_slice (l:=l) (u:=u) (st:=none) hs rfl (post_val_or_str ⟨aF (Txt.slice_le z _ _) hz,fun t' k=>?_⟩);have e:=B3 z (l.map (·.1)) (u.map (·.1));unfold Txt.slice at e;refine⟨.str (cutS z (l.map (·.1)) (u.map (·.1))),H,I.tok k,⟨t',?_⟩,q⟩;rw[<-e];rfl
noncomputable def Its(x:Str):It:=⟨fun i _=>i<x.length,fun i H v H'=>H'=H/\∃c,x.cps[i]? =some c/\v=.str ⟨#[c]⟩,fun i _=>x.length<=i⟩
end
theorem tS{prog:Program}{w:World}(it:Addr)(x:Str)(t:Tok)(A:Around)(hA:A.handled=none):
  Walks prog w A it [it] [it] x.cps.size (SignAt x) (fun i h=>h.IsStrIter it (gE x) x t i):=by
 unfold gE;cases ha:x.cps.all (·<128)
 ·simp only[aL,if_false];exact Walks.strWide hA it x t
 ·simp only[if_true];exact Walks.strAscii hA it x t
theorem DW{P:Program}{w:World}{K:ae}{tg:Expr}(x:Str)(it:Addr)(t:Tok):Turn P w K tg (Its x) [it] it (fun i h=>h.IsStrIter it (gE x) x t i) where
 mem:=by simp
 obj:=fun i h st b hb=>by
  have e:b=it:=by simpa using hb
  subst e;obtain⟨o,e,c,d⟩:=st;exact⟨o,e,fun v z=>by rw[d]at z;cases z⟩
 keep:=fun i h h' st k=>let⟨o,ho,r⟩:=st;⟨o,k it (by simp) o ho,r⟩
 item:=by
  intro X hP hw hK hc i pins s σ H E I hf st hg;subst hP hw hK;obtain⟨f0,f1,f2,f3,f4,f5⟩:=hf it (by simp);have W:=tS (prog:=X.prog) (w:=X.w) it x t X.A (I.ok.hd hc);refine W.item i s _ _ hg st fun v h' tk hv st' kk=>?_;obtain⟨c,u,hc',rfl⟩:=hv;have I1:Inv X pins σ H {s with heap:=h',toks:=tk}:=I.turned (fun b o hb e=>kk b o (by simpa using hb) e) f0 f1 f3 f4 f5;obtain⟨o,e,cl,d⟩:=id st';refine⟨_,rfl,Bn (s:={s with heap:=h',toks:=tk}) (n:=gE x) e cl d ?_ ⟨.str ⟨#[c]⟩,H,I1,⟨u,rfl⟩,⟨rfl,c,hc',rfl⟩,st',fun b hb=>(hf b hb).1⟩⟩;unfold gE;split <;>decide
 done:=by
  intro X hP hw hK hc i pins s σ H E I hf st hg;subst hP hw hK;obtain⟨f0,f1,f2,f3,f4,f5⟩:=hf it (by simp);have hg':x.length<=i:=hg;by_cases hi:i=x.cps.size
  ·subst hi
   have W:=tS (prog:=X.prog) (w:=X.w) it x t X.A (I.ok.hd hc);exact W.done s _ _ st fun h' tk kk=>⟨rfl,I.turned (fun b o hb e=>kk b o (by simpa using hb) e) f0 f1 f3 f4 f5⟩
  ·have hn:x.cps[i]? =none:=by
    rw[Array.getElem?_eq_none_iff];exact hg'
   have st2:s.heap.IsStrIter it (gE x) x t i:=st;unfold gE at st2;cases ha:x.cps.all (·<128)
   ·rw[ha]at st2
    exact wpAny_pyNext_wide_end (I.ok.hd hc) st2 hn fun h' eb=>⟨rfl,I.turned (t':=s.toks) (fun b o hb e=>eb b o hb e) f0 f1 f3 f4 f5⟩
   ·rw[ha]at st2
    exact wpAny_pyNext_ascii_end (I.ok.hd hc) st2 hn fun h' eb=>⟨rfl,I.turned (t':=s.toks) (fun b o hb e=>eb b o hb e) f0 f1 f3 f4 f5⟩
 self:=fun A i s Q E st h=>by
  have st2:s.heap.IsStrIter it (gE x) x t i:=st;unfold gE at st2;cases ha:x.cps.all (·<128)
  ·rw[ha]at st2;exact wpAny_pyIter_striter_wide st2 h
  ·rw[ha]at st2;exact wpAny_pyIter_striter_ascii st2 h
noncomputable def Ite(K:ae)(a:Addr):It:=
 ⟨fun i H=>∃xs x,SqL K H a xs/\xs[i]? =some x,fun i H v H'=>∃p x,H p=none/\H'=upd H p (.tup [.int i,x])/\v=.ref p/\∀xs,SqL K H a xs->xs[i]? =some x,fun i H=>∃xs,SqL K H a xs/\xs.length<=i⟩
section
variable {X:Cx}{es:List Expr}{kk:Nat}{pp:Pos}
noncomputable def iEnum(K:ae)(tl:TE):TI:=fun σ H R=>tl σ H fun x H1=>∃a,x=.ref a/\(∃xs,SqL K H1 a xs)/\R (Ite K a) H1
end
inductive D where
 |non|bl (b:Bool) |int (i:Int) |str (x:Str) |tup (ds:List D) |lst (ds:List D)
 deriving Inhabited
mutual
noncomputable def Rep(K:ae)(H:Hp):D->V->Prop
 |.non,v=>v=.non
 |.bl b,v=>v=.bl b
 |.int i,v=>v=.int i
 |.str x,v=>v=.str x
 |.tup ds,v=>∃a xs,v=.ref a/\SqT K H a xs/\jf K H ds xs
 |.lst ds,v=>∃a xs,v=.ref a/\SqL K H a xs/\jf K H ds xs
noncomputable def jf(K:ae)(H:Hp):List D->List V->Prop
 | [],xs=>xs=[]
 |d::ds,xs=>∃x r,xs=x::r/\Rep K H d x/\jf K H ds r
end
theorem aS.tup{K:ae}{H H':Hp}{a:Addr}{xs:List V}(e:aS H H')(h:SqT K H a xs):SqT K H' a xs:=by
 rcases h with(h|⟨o,h⟩) |h
 ·exact .inl (.inl (e _ _ h))
 ·exact .inl (.inr ⟨o,e _ _ h⟩)
 ·exact .inr h
theorem jf.length{K:ae}{H:Hp}:∀{ds:List D}{xs:List V},jf K H ds xs->xs.length=ds.length
 | [],_,h=>by rw[show _=[]from h];rfl
 |d::ds,_,h=>by
  obtain⟨x,r,rfl,_,h2⟩:=h;rw[bo,bo,jf.length h2]
theorem jf.at{K:ae}{H:Hp}:∀{ds:List D}{xs:List V}{i:Nat}{d:D},jf K H ds xs->ds[i]? =some d->∃x,xs[i]? =some x/\Rep K H d x
 | [],_,i,d,h,e=>by simp at e
 |d::ds,_,0,d',h,e=>by
  obtain⟨y,r,rfl,h1,h2⟩:=h;simp at e;subst e;exact⟨y,rfl,h1⟩
 |d::ds,_,i+1,d',h,e=>by
  obtain⟨y,r,rfl,h1,h2⟩:=h;obtain⟨x,e',h'⟩:=jf.at (i:=i) h2 (by simpa using e);exact⟨x,by simpa using e',h'⟩
mutual
noncomputable def eqD:D->D->Bool
 |.non,.non=>true
 |.bl a,.bl b=>a==b
 |.bl a,.int b=>(if a then 1 else 0)==b
 |.int a,.bl b=>a==(if b then 1 else 0)
 |.int a,.int b=>a==b
 |.str a,.str b=>a==b
 |.tup a,.tup b=>k7 a b
 |.lst a,.lst b=>k7 a b
 |_,_=>false
noncomputable def k7:List D->List D->Bool
 | [],[]=>true
 |a::as,b::bs=>eqD a b&&k7 as bs
 |_,_=>false
end
mutual
noncomputable def hgt:D->Nat
 |.tup ds=>i6 ds+1
 |.lst ds=>i6 ds+1
 |_=>0
noncomputable def i6:List D->Nat
 | []=>0
 |d::ds=>max (hgt d) (i6 ds)
end
theorem pA:∀{ds:List D}{i:Nat}{d:D},ds[i]? =some d->hgt d<=i6 ds
 | [],i,d,e=>by simp at e
 |d::ds,0,d',e=>by simp at e;subst e;simp only[i6];omega
 |d::ds,i+1,d',e=>by
  have :=pA (i:=i) (ds:=ds) (d:=d') (by simpa using e)
  simp only[i6];omega
theorem lQ:∀(as bs:List D)(e:Nat->Bool),as.length=bs.length->(∀(i:Nat) a b,as[i]? =some a->bs[i]? =some b->e i=eqD a b)->(aI as.length).all e=k7 as bs
 | [],[],e,_,_=>rfl
 |a::as,b::bs,e,hl,h=>by
  rw[bo,List.range_succ_eq_map,zm,List.all_map];have h0:=h 0 a b rfl rfl;have ih:=lQ as bs (fun i=>e (i+1)) (by simpa using hl) fun i x y hx hy=>h (i+1) x y (by simpa using hx) (by simpa using hy);rw[h0];show(eqD a b&&(aI as.length).all (fun i=>e (i+1)))=_;rw[ih,k7]
 | [],b::bs,e,hl,_=>by simp at hl
 |a::as,[],e,hl,_=>by simp at hl
theorem lP:∀(as bs:List D),as.length≠bs.length->k7 as bs=false
 | [],[],h=>absurd rfl h
 |a::as,b::bs,h=>by
  rw[k7,lP as bs (by simpa using h),ee]
 | [],b::bs,_=>rfl
 |a::as,[],_=>rfl
mutual
theorem si:∀d:D,eqD d d=true
 |.non=>rfl
 |.bl b=>by simp[eqD]
 |.int i=>by simp[eqD]
 |.str x=>by simp[eqD]
 |.tup ds=>by rw[eqD];exact pD ds
 |.lst ds=>by rw[eqD];exact pD ds
theorem pD:∀ds:List D,k7 ds ds=true
 | []=>rfl
 |d::ds=>by rw[k7,si d,pD ds];rfl
end
section
variable {X:Cx}{pins:List (Addr×Obj)}{σ:St}{H:Hp}{s:Shared}
mutual
theorem Inv.vC(I:Inv X pins σ H s):∀{d d':D}{v:V},Rep X.K H d v->Rep X.K H d' v->d=d'
 |.non,d',v,h,h'=>by
  cases(show v=V.non from h);cases d'<;>first | (obtain⟨_,_,z,_⟩:=h';cases z;done) |rfl| (cases h';done)
 |.bl b,d',v,h,h'=>by
  cases(show v=V.bl b from h);cases d'<;>first | (obtain⟨_,_,z,_⟩:=h';cases z;done) | (cases h';rfl) | (cases h';done)
 |.int b,d',v,h,h'=>by
  cases(show v=V.int b from h);cases d'<;>first | (obtain⟨_,_,z,_⟩:=h';cases z;done) | (cases h';rfl) | (cases h';done)
 |.str b,d',v,h,h'=>by
  cases(show v=V.str b from h);cases d'<;>first | (obtain⟨_,_,z,_⟩:=h';cases z;done) | (cases h';rfl) | (cases h';done)
 |.tup ds,d',v,h,h'=>by
  obtain⟨a,xs,rfl,h1,h2⟩:=h;cases d' with
  |tup ds'=>
   obtain⟨b,ys,e,h1',h2'⟩:=h';cases e;have :=I.o9 h1 h1';subst this;rw[Inv.rA I h2 h2']
  |lst ds'=>
   obtain⟨b,ys,e,h1',h2'⟩:=h';cases e;obtain⟨its,_,⟨o,e1,c1,_⟩,_⟩:=I.tuple h1;obtain⟨its',_,⟨o',n,e2,c2,_⟩,_⟩:=I.list h1';rw[e1]at e2;cases e2;rw[c1]at c2;exact absurd c2 (by decide+kernel)
  |_=>cases h'
 |.lst ds,d',v,h,h'=>by
  obtain⟨a,xs,rfl,h1,h2⟩:=h;cases d' with
  |lst ds'=>
   obtain⟨b,ys,e,h1',h2'⟩:=h';cases e;have :=I.yf h1 h1';subst this;rw[Inv.rA I h2 h2']
  |tup ds'=>
   obtain⟨b,ys,e,h1',h2'⟩:=h';cases e;obtain⟨its,_,⟨o,n,e1,c1,_⟩,_⟩:=I.list h1;obtain⟨its',_,⟨o',e2,c2,_⟩,_⟩:=I.tuple h1';rw[e1]at e2;cases e2;rw[c1]at c2;exact absurd c2 (by decide+kernel)
  |_=>cases h'
theorem Inv.rA(I:Inv X pins σ H s):∀{ds ds':List D}{xs:List V},jf X.K H ds xs->jf X.K H ds' xs->ds=ds'
 | [],[],_,_,_=>rfl
 | [],d::ds,xs,h,h'=>by
  obtain⟨x,r,e,_⟩:=h';rw[show xs=[]from h]at e;cases e
 |d::ds,[],xs,h,h'=>by
  obtain⟨x,r,e,_⟩:=h;rw[show xs=[]from h']at e;cases e
 |d::ds,d'::ds',xs,h,h'=>by
  obtain⟨x,r,rfl,h1,h2⟩:=h;obtain⟨y,r',e,h1',h2'⟩:=h';cases e;rw[Inv.vC I h1 h1',Inv.rA I h2 h2']
end
open PySem.SeqAt
theorem Inv.rcTup(I:Inv X pins σ H s)(A:Around){ds ds':List D}{a b:Addr}{xs ys:List V}(hit:∀(i:Nat)(d d':D)(x y:V)(u u':Value),ds[i]? =some d->ds'[i]? =some d'->Rep X.K H d x->Rep X.K H d' y->RelV x u->RelV y u'->EqAt A.in1 s u u' (eqD d d'))(h1:SqT X.K H a xs)(h2:jf X.K H ds xs)(h1':SqT X.K H b ys)(h2':jf X.K H ds' ys)(hu:A.units<cLine):RcAt A s (.ref a) (.ref b) (k7 ds ds'):=by
  obtain⟨its,r,p,_⟩:=I.tuple h1;obtain⟨its',r',p',_⟩:=I.tuple h1';have l1:=h2.length;have l2:=h2'.length;have l3:=r.length;have l4:=r'.length;have key:=RcAt.tuples (e:=fun j=>match ds[j]?,ds'[j]? with |some d,some d'=>eqD d d'|_,_=>false) p p' (A:=A) (by omega) (fun j g1 g2=>by
   have g1':j<its.length:=by simpa using g1
   have g2':j<its'.length:=by simpa using g2
   have e1:ds[j]? =some ds[j]:=ah (by omega);have e2:ds'[j]? =some ds'[j]:=ah (by omega);show EqAt A.in1 s _ _ (match ds[j]?,ds'[j]? with |some d,some d'=>eqD d d'|_,_=>false);rw[e1,e2];obtain⟨x,hx,rx⟩:=h2.at e1;obtain⟨y,hy,ry⟩:=h2'.at e2;obtain⟨u,hu1,ru⟩:=r.get hx;obtain⟨u',hu2,ru'⟩:=r'.get hy;have q1:its.toArray[j]=u:=by have :its[j]? =some its[j]:=ah g1';rw[this]at hu1;simpa using hu1
   have q2:its'.toArray[j]=u':=by have :its'[j]? =some its'[j]:=ah g2';rw[this]at hu2;simpa using hu2
   rw[q1,q2];exact hit j _ _ x y u u' e1 e2 rx ry ru ru')
  have hs:its.toArray.size=ds.length:=by simp;omega
  have hs':its'.toArray.size=ds'.length:=by simp;omega
  rw[hs,hs']at key;by_cases hl:ds.length=ds'.length
  ·have e:((aI (min ds.length ds'.length)).all (fun j=>match ds[j]?,ds'[j]? with |some d,some d'=>eqD d d'|_,_=>false)&&ds.length==ds'.length)=k7 ds ds':=by
    rw[<-hl,DG,beq_self_eq_true,Bool.and_true];refine lQ ds ds' _ hl fun i x y hx hy=>?_;simp only[hx,hy]
   rw[e]at key;exact key
  ·have e:((aI (min ds.length ds'.length)).all (fun j=>match ds[j]?,ds'[j]? with |some d,some d'=>eqD d d'|_,_=>false)&&ds.length==ds'.length)=k7 ds ds':=by
    rw[lP ds ds' hl,beq_eq_false_iff_ne.mpr hl,ee]
   rw[e]at key;exact key
theorem Inv.rcLst(I:Inv X pins σ H s)(A:Around){ds ds':List D}{a b:Addr}{xs ys:List V}(hit:∀(i:Nat)(d d':D)(x y:V)(u u':Value),ds[i]? =some d->ds'[i]? =some d'->Rep X.K H d x->Rep X.K H d' y->RelV x u->RelV y u'->EqAt A.in1 s u u' (eqD d d'))(h1:SqL X.K H a xs)(h2:jf X.K H ds xs)(h1':SqL X.K H b ys)(h2':jf X.K H ds' ys)(hu:A.units<cLine):RcAt A s (.ref a) (.ref b) (k7 ds ds'):=by
  obtain⟨its,r,p,_⟩:=I.list h1;obtain⟨its',r',p',_⟩:=I.list h1';have l1:=h2.length;have l2:=h2'.length;have l3:=r.length;have l4:=r'.length;by_cases hl:ds.length=ds'.length
  ·have key:=RcAt.lists (e:=fun j=>match ds[j]?,ds'[j]? with |some d,some d'=>eqD d d'|_,_=>false) p.isList p'.isList (A:=A) (by simp;omega) (by omega) (fun j g1 g2=>by
    have g1':j<its.length:=by simpa using g1
    have g2':j<its'.length:=by simpa using g2
    have e1:ds[j]? =some ds[j]:=ah (by omega);have e2:ds'[j]? =some ds'[j]:=ah (by omega);show EqAt A.in1 s _ _ (match ds[j]?,ds'[j]? with |some d,some d'=>eqD d d'|_,_=>false);rw[e1,e2];obtain⟨x,hx,rx⟩:=h2.at e1;obtain⟨y,hy,ry⟩:=h2'.at e2;obtain⟨u,hu1,ru⟩:=r.get hx;obtain⟨u',hu2,ru'⟩:=r'.get hy;have q1:its.toArray[j]=u:=by have :its[j]? =some its[j]:=ah g1';rw[this]at hu1;simpa using hu1
    have q2:its'.toArray[j]=u':=by have :its'[j]? =some its'[j]:=ah g2';rw[this]at hu2;simpa using hu2
    rw[q1,q2];exact hit j _ _ x y u u' e1 e2 rx ry ru ru')
   have hs:its.toArray.size=ds.length:=by simp;omega
   rw[hs,lQ ds ds' _ hl fun i x y hx hy=>by simp only[hx,hy]]at key;exact key
  ·have key:=RcAt.lists_lengths p.isList p'.isList (A:=A) (by simp;omega) (by omega)
   rw[lP ds ds' hl];exact key
theorem Inv.eqAt1(I:Inv X pins σ H s){n:Nat}(A:Around)(hit:∀(m:Nat)(ds ds':List D)(i:Nat)(d d':D)(x y:V)(u u':Value),n=m+1->i6 ds<=m->ds[i]? =some d->ds'[i]? =some d'->Rep X.K H d x->Rep X.K H d' y->RelV x u->RelV y u'->EqAt A.in1 s u u' (eqD d d')):
  ∀(d d':D)(v v':V)(u u':Value),Rep X.K H d v->Rep X.K H d' v'->RelV v u->RelV v' u'->hgt d<=n->A.units+n+1<cLine->EqAt A s u u' (eqD d d')
 |.tup ds,.tup ds',v,v',u,u',h,h',r,r',hn,hu=>by
  obtain⟨a,xs,rfl,h1,h2⟩:=id h;obtain⟨b,ys,rfl,h1',h2'⟩:=id h';cases r;cases r';rw[hgt]at hn;by_cases z:a=b
  ·subst z
   have e:=I.vC h h';rw[<-e,si];exact EqAt.same _
  ·rw[eqD]
   exact EqAt.of_refs z (Inv.rcTup I A (fun i d d' x y u u' e1 e2 rx ry ru ru'=>hit (n-1) ds ds' i d d' x y u u' (by omega) (by omega) e1 e2 rx ry ru ru') h1 h2 h1' h2' (by omega))
 |.lst ds,.lst ds',v,v',u,u',h,h',r,r',hn,hu=>by
  obtain⟨a,xs,rfl,h1,h2⟩:=id h;obtain⟨b,ys,rfl,h1',h2'⟩:=id h';cases r;cases r';rw[hgt]at hn;by_cases z:a=b
  ·subst z
   have e:=I.vC h h';rw[<-e,si];exact EqAt.same _
  ·rw[eqD]
   exact EqAt.of_refs z (Inv.rcLst I A (fun i d d' x y u u' e1 e2 rx ry ru ru'=>hit (n-1) ds ds' i d d' x y u u' (by omega) (by omega) e1 e2 rx ry ru ru') h1 h2 h1' h2' (by omega))
 |.tup ds,.lst ds',v,v',u,u',h,h',r,r',hn,hu=>by
  obtain⟨a,xs,rfl,h1,h2⟩:=id h;obtain⟨b,ys,rfl,h1',h2'⟩:=id h';cases r;cases r';obtain⟨its,_,p,_⟩:=I.tuple h1;obtain⟨its',_,p',_⟩:=I.list h1';exact EqAt.tuple_list p p'.isList (by omega)
 |.lst ds,.tup ds',v,v',u,u',h,h',r,r',hn,hu=>by
  obtain⟨a,xs,rfl,h1,h2⟩:=id h;obtain⟨b,ys,rfl,h1',h2'⟩:=id h';cases r;cases r';obtain⟨its,_,p,_⟩:=I.list h1;obtain⟨its',_,p',_⟩:=I.tuple h1';exact EqAt.list_tuple p.isList p' (by omega)
 |.tup ds,.non,v,v',u,u',h,h',r,r',hn,hu=>by
  obtain⟨a,xs,rfl,h1,h2⟩:=id h;cases(show v'=_ from h');cases r;cases r';obtain⟨its,_,p,_⟩:=I.tuple h1;exact EqAt.tuple_none p (by omega)
 |.tup ds,.bl _,v,v',u,u',h,h',r,r',hn,hu=>by
  obtain⟨a,xs,rfl,h1,h2⟩:=id h;cases(show v'=_ from h');cases r;cases r';obtain⟨its,_,p,_⟩:=I.tuple h1;exact EqAt.tuple_bool _ p (by omega)
 |.tup ds,.int _,v,v',u,u',h,h',r,r',hn,hu=>by
  obtain⟨a,xs,rfl,h1,h2⟩:=id h;cases(show v'=_ from h');cases r;obtain⟨t,rfl⟩:=r';obtain⟨its,_,p,_⟩:=I.tuple h1;exact EqAt.tuple_int _ t p (by omega)
 |.tup ds,.str _,v,v',u,u',h,h',r,r',hn,hu=>by
  obtain⟨a,xs,rfl,h1,h2⟩:=id h;cases(show v'=_ from h');cases r;obtain⟨t,rfl⟩:=r';obtain⟨its,_,p,_⟩:=I.tuple h1;exact EqAt.tuple_str _ t p (by omega)
 |.lst ds,.non,v,v',u,u',h,h',r,r',hn,hu=>by
  obtain⟨a,xs,rfl,h1,h2⟩:=id h;cases(show v'=_ from h');cases r;cases r';obtain⟨its,_,p,_⟩:=I.list h1;exact EqAt.list_none p.isList (by omega)
 |.lst ds,.bl _,v,v',u,u',h,h',r,r',hn,hu=>by
  obtain⟨a,xs,rfl,h1,h2⟩:=id h;cases(show v'=_ from h');cases r;cases r';obtain⟨its,_,p,_⟩:=I.list h1;exact EqAt.list_bool _ p.isList (by omega)
 |.lst ds,.int _,v,v',u,u',h,h',r,r',hn,hu=>by
  obtain⟨a,xs,rfl,h1,h2⟩:=id h;cases(show v'=_ from h');cases r;obtain⟨t,rfl⟩:=r';obtain⟨its,_,p,_⟩:=I.list h1;exact EqAt.list_int _ t p.isList (by omega)
 |.lst ds,.str _,v,v',u,u',h,h',r,r',hn,hu=>by
  obtain⟨a,xs,rfl,h1,h2⟩:=id h;cases(show v'=_ from h');cases r;obtain⟨t,rfl⟩:=r';obtain⟨its,_,p,_⟩:=I.list h1;exact EqAt.list_str _ t p.isList (by omega)
 |.non,.tup ds,v,v',u,u',h,h',r,r',hn,hu=>by
  obtain⟨a,xs,rfl,h1,h2⟩:=id h';cases(show v=_ from h);cases r;cases r';obtain⟨its,_,p,_⟩:=I.tuple h1;exact EqAt.none_tuple p (by omega)
 |.bl _,.tup ds,v,v',u,u',h,h',r,r',hn,hu=>by
  obtain⟨a,xs,rfl,h1,h2⟩:=id h';cases(show v=_ from h);cases r;cases r';obtain⟨its,_,p,_⟩:=I.tuple h1;exact EqAt.bool_tuple _ p (by omega)
 |.int _,.tup ds,v,v',u,u',h,h',r,r',hn,hu=>by
  obtain⟨a,xs,rfl,h1,h2⟩:=id h';cases(show v=_ from h);cases r';obtain⟨t,rfl⟩:=r;obtain⟨its,_,p,_⟩:=I.tuple h1;exact EqAt.int_tuple _ t p (by omega)
 |.str _,.tup ds,v,v',u,u',h,h',r,r',hn,hu=>by
  obtain⟨a,xs,rfl,h1,h2⟩:=id h';cases(show v=_ from h);cases r';obtain⟨t,rfl⟩:=r;obtain⟨its,_,p,_⟩:=I.tuple h1;exact EqAt.str_tuple _ t p (by omega)
 |.non,.lst ds,v,v',u,u',h,h',r,r',hn,hu=>by
  obtain⟨a,xs,rfl,h1,h2⟩:=id h';cases(show v=_ from h);cases r;cases r';obtain⟨its,_,p,_⟩:=I.list h1;exact EqAt.none_list p.isList (by omega)
 |.bl _,.lst ds,v,v',u,u',h,h',r,r',hn,hu=>by
  obtain⟨a,xs,rfl,h1,h2⟩:=id h';cases(show v=_ from h);cases r;cases r';obtain⟨its,_,p,_⟩:=I.list h1;exact EqAt.bool_list _ p.isList (by omega)
 |.int _,.lst ds,v,v',u,u',h,h',r,r',hn,hu=>by
  obtain⟨a,xs,rfl,h1,h2⟩:=id h';cases(show v=_ from h);cases r';obtain⟨t,rfl⟩:=r;obtain⟨its,_,p,_⟩:=I.list h1;exact EqAt.int_list _ t p.isList (by omega)
 |.str _,.lst ds,v,v',u,u',h,h',r,r',hn,hu=>by
  obtain⟨a,xs,rfl,h1,h2⟩:=id h';cases(show v=_ from h);cases r';obtain⟨t,rfl⟩:=r;obtain⟨its,_,p,_⟩:=I.list h1;exact EqAt.str_list _ t p.isList (by omega)
 |.non,.non,v,v',u,u',h,h',r,r',hn,hu=>by cases(show v=_ from h);cases(show v'=_ from h');exact fB r r' rfl rfl
 |.non,.bl _,v,v',u,u',h,h',r,r',hn,hu=>by cases(show v=_ from h);cases(show v'=_ from h');exact fB r r' rfl rfl
 |.non,.int _,v,v',u,u',h,h',r,r',hn,hu=>by cases(show v=_ from h);cases(show v'=_ from h');exact fB r r' rfl rfl
 |.non,.str _,v,v',u,u',h,h',r,r',hn,hu=>by cases(show v=_ from h);cases(show v'=_ from h');exact fB r r' rfl rfl
 |.bl _,.non,v,v',u,u',h,h',r,r',hn,hu=>by cases(show v=_ from h);cases(show v'=_ from h');exact fB r r' rfl rfl
 |.bl _,.bl _,v,v',u,u',h,h',r,r',hn,hu=>by cases(show v=_ from h);cases(show v'=_ from h');exact fB r r' rfl rfl
 |.bl _,.int _,v,v',u,u',h,h',r,r',hn,hu=>by cases(show v=_ from h);cases(show v'=_ from h');exact fB r r' rfl rfl
 |.bl _,.str _,v,v',u,u',h,h',r,r',hn,hu=>by cases(show v=_ from h);cases(show v'=_ from h');exact fB r r' rfl rfl
 |.int _,.non,v,v',u,u',h,h',r,r',hn,hu=>by cases(show v=_ from h);cases(show v'=_ from h');exact fB r r' rfl rfl
 |.int _,.bl _,v,v',u,u',h,h',r,r',hn,hu=>by cases(show v=_ from h);cases(show v'=_ from h');exact fB r r' rfl rfl
 |.int _,.int _,v,v',u,u',h,h',r,r',hn,hu=>by cases(show v=_ from h);cases(show v'=_ from h');exact fB r r' rfl rfl
 |.int _,.str _,v,v',u,u',h,h',r,r',hn,hu=>by cases(show v=_ from h);cases(show v'=_ from h');exact fB r r' rfl rfl
 |.str _,.non,v,v',u,u',h,h',r,r',hn,hu=>by cases(show v=_ from h);cases(show v'=_ from h');exact fB r r' rfl rfl
 |.str _,.bl _,v,v',u,u',h,h',r,r',hn,hu=>by cases(show v=_ from h);cases(show v'=_ from h');exact fB r r' rfl rfl
 |.str _,.int _,v,v',u,u',h,h',r,r',hn,hu=>by cases(show v=_ from h);cases(show v'=_ from h');exact fB r r' rfl rfl
 |.str _,.str _,v,v',u,u',h,h',r,r',hn,hu=>by cases(show v=_ from h);cases(show v'=_ from h');exact fB r r' rfl rfl
theorem Inv.Bt(I:Inv X pins σ H s):∀(n:Nat)(A:Around)(d d':D)(v v':V)(u u':Value),Rep X.K H d v->Rep X.K H d' v'->RelV v u->RelV v' u'->hgt d<=n->A.units+n+1<cLine->EqAt A s u u' (eqD d d'):=by
 intro n
 induction n with
 |zero=>exact fun A d d' v v' u u' h h' r r' hn hu=>Inv.eqAt1 I A (fun m ds ds' i d d' x y u u' hm _ _ _ _ _ _ _=>absurd hm (by omega)) d d' v v' u u' h h' r r' hn hu
 |succ n ih=>
  exact fun A d d' v v' u u' h h' r r' hn hu=>Inv.eqAt1 I A (fun m ds ds' i d d' x y u u' hm hd e1 e2 rx ry ru ru'=>ih A.in1 d d' x y u u' rx ry ru ru' (by have :=pA e1;omega) (by show A.units+1+n+1<cLine;omega)) d d' v v' u u' h h' r r' hn hu
end
end L2
namespace L2
open PySem PySem.Spec PyProof.Rows PySem.SeqAt
section
variable {X:Cx}{pins:List (Addr×Obj)}{σ:St}{H:Hp}{s:Shared}
theorem Inv.neTup(I:Inv X pins σ H s)(A:Around){ds ds':List D}{a b:Addr}{xs ys:List V}(hit:∀(i:Nat)(d d':D)(x y:V)(u u':Value),ds[i]? =some d->ds'[i]? =some d'->Rep X.K H d x->Rep X.K H d' y->RelV x u->RelV y u'->EqAt A.in1 s u u' (eqD d d'))
  (h1:SqT X.K H a xs)(h2:jf X.K H ds xs)(h1':SqT X.K H b ys)(h2':jf X.K H ds' ys)(hu:A.units<cLine):RcNeAt A s (.ref a) (.ref b) (!k7 ds ds'):=by
 obtain⟨its,r,p,_⟩:=I.tuple h1;obtain⟨its',r',p',_⟩:=I.tuple h1';have l1:=h2.length;have l2:=h2'.length;have l3:=r.length;have l4:=r'.length;have key:=RcNeAt.tuples (e:=fun j=>match ds[j]?,ds'[j]? with |some d,some d'=>eqD d d'|_,_=>false) p p' (A:=A) hu (fun j g1 g2=>by
  have g1':j<its.length:=by simpa using g1
  have g2':j<its'.length:=by simpa using g2
  have e1:ds[j]? =some ds[j]:=ah (by omega);have e2:ds'[j]? =some ds'[j]:=ah (by omega);show EqAt A.in1 s _ _ (match ds[j]?,ds'[j]? with |some d,some d'=>eqD d d'|_,_=>false);rw[e1,e2];obtain⟨x,hx,rx⟩:=h2.at e1;obtain⟨y,hy,ry⟩:=h2'.at e2;obtain⟨u,hu1,ru⟩:=r.get hx;obtain⟨u',hu2,ru'⟩:=r'.get hy;have q1:its.toArray[j]=u:=by have :its[j]? =some its[j]:=ah g1';rw[this]at hu1;simpa using hu1
  have q2:its'.toArray[j]=u':=by have :its'[j]? =some its'[j]:=ah g2';rw[this]at hu2;simpa using hu2
  rw[q1,q2];exact hit j _ _ x y u u' e1 e2 rx ry ru ru')
 have hs:its.toArray.size=ds.length:=by simp;omega
 have hs':its'.toArray.size=ds'.length:=by simp;omega
 rw[hs,hs']at key;have e:((aI (min ds.length ds'.length)).all (fun j=>match ds[j]?,ds'[j]? with |some d,some d'=>eqD d d'|_,_=>false)&&ds.length==ds'.length)=k7 ds ds':=by
  by_cases hl:ds.length=ds'.length
  ·rw[<-hl,DG,beq_self_eq_true,Bool.and_true]
   refine lQ ds ds' _ hl fun i x y hx hy=>?_;simp only[hx,hy]
  ·rw[lP ds ds' hl,beq_eq_false_iff_ne.mpr hl,ee]
 rw[e]at key;exact key
theorem Inv.neLst(I:Inv X pins σ H s)(A:Around){ds ds':List D}{a b:Addr}{xs ys:List V}(hit:∀(i:Nat)(d d':D)(x y:V)(u u':Value),ds[i]? =some d->ds'[i]? =some d'->Rep X.K H d x->Rep X.K H d' y->RelV x u->RelV y u'->EqAt A.in1 s u u' (eqD d d'))
  (h1:SqL X.K H a xs)(h2:jf X.K H ds xs)(h1':SqL X.K H b ys)(h2':jf X.K H ds' ys)(hu:A.units<cLine):RcNeAt A s (.ref a) (.ref b) (!k7 ds ds'):=by
 obtain⟨its,r,p,_⟩:=I.list h1;obtain⟨its',r',p',_⟩:=I.list h1';have l1:=h2.length;have l2:=h2'.length;have l3:=r.length;have l4:=r'.length;by_cases hl:ds.length=ds'.length
 ·have key:=RcNeAt.lists (e:=fun j=>match ds[j]?,ds'[j]? with |some d,some d'=>eqD d d'|_,_=>false) p.isList p'.isList (A:=A) (by simp;omega) hu (fun j g1 g2=>by
   have g1':j<its.length:=by simpa using g1
   have g2':j<its'.length:=by simpa using g2
   have e1:ds[j]? =some ds[j]:=ah (by omega);have e2:ds'[j]? =some ds'[j]:=ah (by omega);show EqAt A.in1 s _ _ (match ds[j]?,ds'[j]? with |some d,some d'=>eqD d d'|_,_=>false);rw[e1,e2];obtain⟨x,hx,rx⟩:=h2.at e1;obtain⟨y,hy,ry⟩:=h2'.at e2;obtain⟨u,hu1,ru⟩:=r.get hx;obtain⟨u',hu2,ru'⟩:=r'.get hy;have q1:its.toArray[j]=u:=by have :its[j]? =some its[j]:=ah g1';rw[this]at hu1;simpa using hu1
   have q2:its'.toArray[j]=u':=by have :its'[j]? =some its'[j]:=ah g2';rw[this]at hu2;simpa using hu2
   rw[q1,q2];exact hit j _ _ x y u u' e1 e2 rx ry ru ru')
  have hs:its.toArray.size=ds.length:=by simp;omega
  rw[hs,lQ ds ds' _ hl fun i x y hx hy=>by simp only[hx,hy]]at key;exact key
 ·have key:=RcNeAt.lists_lengths p.isList p'.isList (A:=A) (by simp;omega) hu
  rw[lP ds ds' hl];exact key
theorem Inv.rcD(I:Inv X pins σ H s)(A:Around):∀(d d':D)(v v':V)(u u':Value),Rep X.K H d v->Rep X.K H d' v'->RelV v u->RelV v' u'->A.units+hgt d+1<cLine->RcAt A s u u' (eqD d d')
 |.non,.non,v,v',u,u',h,h',r,r',hu=>by cases(show v=_ from h);cases r;cases(show v'=_ from h');cases r';exact RcAt.none_none
 |.non,.bl w2,v,v',u,u',h,h',r,r',hu=>by cases(show v=_ from h);cases r;cases(show v'=_ from h');cases r';exact RcAt.none_bool _
 |.non,.int w2,v,v',u,u',h,h',r,r',hu=>by cases(show v=_ from h);cases r;cases(show v'=_ from h');obtain⟨t',rfl⟩:=r';exact RcAt.none_int _ t'
 |.non,.str w2,v,v',u,u',h,h',r,r',hu=>by cases(show v=_ from h);cases r;cases(show v'=_ from h');obtain⟨t',rfl⟩:=r';exact RcAt.none_str _ t'
 |.non,.tup ds',v,v',u,u',h,h',r,r',hu=>by cases(show v=_ from h);cases r;obtain⟨b,ys,rfl,h1',h2'⟩:=id h';cases r';obtain⟨its',_,p',_⟩:=I.tuple h1';exact RcAt.none_tuple p' (by omega)
 |.non,.lst ds',v,v',u,u',h,h',r,r',hu=>by cases(show v=_ from h);cases r;obtain⟨b,ys,rfl,h1',h2'⟩:=id h';cases r';obtain⟨its',_,p',_⟩:=I.list h1';exact RcAt.none_list p'.isList (by omega)
 |.bl w1,.non,v,v',u,u',h,h',r,r',hu=>by cases(show v=_ from h);cases r;cases(show v'=_ from h');cases r';exact RcAt.bool_none _
 |.bl w1,.bl w2,v,v',u,u',h,h',r,r',hu=>by cases(show v=_ from h);cases r;cases(show v'=_ from h');cases r';exact RcAt.bool_bool _ _
 |.bl w1,.int w2,v,v',u,u',h,h',r,r',hu=>by cases(show v=_ from h);cases r;cases(show v'=_ from h');obtain⟨t',rfl⟩:=r';exact RcAt.bool_int _ _ t'
 |.bl w1,.str w2,v,v',u,u',h,h',r,r',hu=>by cases(show v=_ from h);cases r;cases(show v'=_ from h');obtain⟨t',rfl⟩:=r';exact RcAt.bool_str _ _ t'
 |.bl w1,.tup ds',v,v',u,u',h,h',r,r',hu=>by cases(show v=_ from h);cases r;obtain⟨b,ys,rfl,h1',h2'⟩:=id h';cases r';obtain⟨its',_,p',_⟩:=I.tuple h1';exact RcAt.bool_tuple _ p' (by omega)
 |.bl w1,.lst ds',v,v',u,u',h,h',r,r',hu=>by cases(show v=_ from h);cases r;obtain⟨b,ys,rfl,h1',h2'⟩:=id h';cases r';obtain⟨its',_,p',_⟩:=I.list h1';exact RcAt.bool_list _ p'.isList (by omega)
 |.int w1,.non,v,v',u,u',h,h',r,r',hu=>by cases(show v=_ from h);obtain⟨t,rfl⟩:=r;cases(show v'=_ from h');cases r';exact RcAt.int_none _ t
 |.int w1,.bl w2,v,v',u,u',h,h',r,r',hu=>by cases(show v=_ from h);obtain⟨t,rfl⟩:=r;cases(show v'=_ from h');cases r';exact RcAt.int_bool _ t _
 |.int w1,.int w2,v,v',u,u',h,h',r,r',hu=>by cases(show v=_ from h);obtain⟨t,rfl⟩:=r;cases(show v'=_ from h');obtain⟨t',rfl⟩:=r';exact RcAt.int_int _ t _ t'
 |.int w1,.str w2,v,v',u,u',h,h',r,r',hu=>by cases(show v=_ from h);obtain⟨t,rfl⟩:=r;cases(show v'=_ from h');obtain⟨t',rfl⟩:=r';exact RcAt.int_str _ t _ t'
 |.int w1,.tup ds',v,v',u,u',h,h',r,r',hu=>by cases(show v=_ from h);obtain⟨t,rfl⟩:=r;obtain⟨b,ys,rfl,h1',h2'⟩:=id h';cases r';obtain⟨its',_,p',_⟩:=I.tuple h1';exact RcAt.int_tuple _ t p' (by omega)
 |.int w1,.lst ds',v,v',u,u',h,h',r,r',hu=>by cases(show v=_ from h);obtain⟨t,rfl⟩:=r;obtain⟨b,ys,rfl,h1',h2'⟩:=id h';cases r';obtain⟨its',_,p',_⟩:=I.list h1';exact RcAt.int_list _ t p'.isList (by omega)
 |.str w1,.non,v,v',u,u',h,h',r,r',hu=>by cases(show v=_ from h);obtain⟨t,rfl⟩:=r;cases(show v'=_ from h');cases r';exact RcAt.str_none _ t
 |.str w1,.bl w2,v,v',u,u',h,h',r,r',hu=>by cases(show v=_ from h);obtain⟨t,rfl⟩:=r;cases(show v'=_ from h');cases r';exact RcAt.str_bool _ t _
 |.str w1,.int w2,v,v',u,u',h,h',r,r',hu=>by cases(show v=_ from h);obtain⟨t,rfl⟩:=r;cases(show v'=_ from h');obtain⟨t',rfl⟩:=r';exact RcAt.str_int _ t _ t'
 |.str w1,.str w2,v,v',u,u',h,h',r,r',hu=>by cases(show v=_ from h);obtain⟨t,rfl⟩:=r;cases(show v'=_ from h');obtain⟨t',rfl⟩:=r';exact RcAt.str_str _ t _ t'
 |.str w1,.tup ds',v,v',u,u',h,h',r,r',hu=>by cases(show v=_ from h);obtain⟨t,rfl⟩:=r;obtain⟨b,ys,rfl,h1',h2'⟩:=id h';cases r';obtain⟨its',_,p',_⟩:=I.tuple h1';exact RcAt.str_tuple _ t p' (by omega)
 |.str w1,.lst ds',v,v',u,u',h,h',r,r',hu=>by cases(show v=_ from h);obtain⟨t,rfl⟩:=r;obtain⟨b,ys,rfl,h1',h2'⟩:=id h';cases r';obtain⟨its',_,p',_⟩:=I.list h1';exact RcAt.str_list _ t p'.isList (by omega)
 |.tup ds,.non,v,v',u,u',h,h',r,r',hu=>by obtain⟨a,xs,rfl,h1,h2⟩:=id h;cases r;cases(show v'=_ from h');cases r';obtain⟨its,_,p,_⟩:=I.tuple h1;exact RcAt.tuple_none p (by omega)
 |.tup ds,.bl w2,v,v',u,u',h,h',r,r',hu=>by obtain⟨a,xs,rfl,h1,h2⟩:=id h;cases r;cases(show v'=_ from h');cases r';obtain⟨its,_,p,_⟩:=I.tuple h1;exact RcAt.tuple_bool _ p (by omega)
 |.tup ds,.int w2,v,v',u,u',h,h',r,r',hu=>by obtain⟨a,xs,rfl,h1,h2⟩:=id h;cases r;cases(show v'=_ from h');obtain⟨t',rfl⟩:=r';obtain⟨its,_,p,_⟩:=I.tuple h1;exact RcAt.tuple_int _ t' p (by omega)
 |.tup ds,.str w2,v,v',u,u',h,h',r,r',hu=>by obtain⟨a,xs,rfl,h1,h2⟩:=id h;cases r;cases(show v'=_ from h');obtain⟨t',rfl⟩:=r';obtain⟨its,_,p,_⟩:=I.tuple h1;exact RcAt.tuple_str _ t' p (by omega)
 |.tup ds,.tup ds',v,v',u,u',h,h',r,r',hu=>by obtain⟨a,xs,rfl,h1,h2⟩:=id h;cases r;obtain⟨b,ys,rfl,h1',h2'⟩:=id h';cases r';rw[eqD];exact Inv.rcTup I A (fun i d d' x y u u' e1 e2 rx ry ru ru'=>Inv.Bt I (i6 ds) A.in1 d d' x y u u' rx ry ru ru' (pA e1) (by rw[hgt]at hu;show A.units+1+i6 ds+1<cLine;omega)) h1 h2 h1' h2' (by omega)
 |.tup ds,.lst ds',v,v',u,u',h,h',r,r',hu=>by obtain⟨a,xs,rfl,h1,h2⟩:=id h;cases r;obtain⟨b,ys,rfl,h1',h2'⟩:=id h';cases r';obtain⟨its,_,p,_⟩:=I.tuple h1;obtain⟨its',_,p',_⟩:=I.list h1';exact RcAt.tuple_list p p'.isList (by omega)
 |.lst ds,.non,v,v',u,u',h,h',r,r',hu=>by obtain⟨a,xs,rfl,h1,h2⟩:=id h;cases r;cases(show v'=_ from h');cases r';obtain⟨its,_,p,_⟩:=I.list h1;exact RcAt.list_none p.isList (by omega)
 |.lst ds,.bl w2,v,v',u,u',h,h',r,r',hu=>by obtain⟨a,xs,rfl,h1,h2⟩:=id h;cases r;cases(show v'=_ from h');cases r';obtain⟨its,_,p,_⟩:=I.list h1;exact RcAt.list_bool _ p.isList (by omega)
 |.lst ds,.int w2,v,v',u,u',h,h',r,r',hu=>by obtain⟨a,xs,rfl,h1,h2⟩:=id h;cases r;cases(show v'=_ from h');obtain⟨t',rfl⟩:=r';obtain⟨its,_,p,_⟩:=I.list h1;exact RcAt.list_int _ t' p.isList (by omega)
 |.lst ds,.str w2,v,v',u,u',h,h',r,r',hu=>by obtain⟨a,xs,rfl,h1,h2⟩:=id h;cases r;cases(show v'=_ from h');obtain⟨t',rfl⟩:=r';obtain⟨its,_,p,_⟩:=I.list h1;exact RcAt.list_str _ t' p.isList (by omega)
 |.lst ds,.tup ds',v,v',u,u',h,h',r,r',hu=>by obtain⟨a,xs,rfl,h1,h2⟩:=id h;cases r;obtain⟨b,ys,rfl,h1',h2'⟩:=id h';cases r';obtain⟨its,_,p,_⟩:=I.list h1;obtain⟨its',_,p',_⟩:=I.tuple h1';exact RcAt.list_tuple p.isList p' (by omega)
 |.lst ds,.lst ds',v,v',u,u',h,h',r,r',hu=>by obtain⟨a,xs,rfl,h1,h2⟩:=id h;cases r;obtain⟨b,ys,rfl,h1',h2'⟩:=id h';cases r';rw[eqD];exact Inv.rcLst I A (fun i d d' x y u u' e1 e2 rx ry ru ru'=>Inv.Bt I (i6 ds) A.in1 d d' x y u u' rx ry ru ru' (pA e1) (by rw[hgt]at hu;show A.units+1+i6 ds+1<cLine;omega)) h1 h2 h1' h2' (by omega)
theorem Inv.rcNeD(I:Inv X pins σ H s)(A:Around):∀(d d':D)(v v':V)(u u':Value),Rep X.K H d v->Rep X.K H d' v'->RelV v u->RelV v' u'->A.units+hgt d+1<cLine->RcNeAt A s u u' (!eqD d d')
 |.non,.non,v,v',u,u',h,h',r,r',hu=>by cases(show v=_ from h);cases r;cases(show v'=_ from h');cases r';exact RcNeAt.none_none
 |.non,.bl w2,v,v',u,u',h,h',r,r',hu=>by cases(show v=_ from h);cases r;cases(show v'=_ from h');cases r';exact RcNeAt.none_bool _
 |.non,.int w2,v,v',u,u',h,h',r,r',hu=>by cases(show v=_ from h);cases r;cases(show v'=_ from h');obtain⟨t',rfl⟩:=r';exact RcNeAt.none_int _ t'
 |.non,.str w2,v,v',u,u',h,h',r,r',hu=>by cases(show v=_ from h);cases r;cases(show v'=_ from h');obtain⟨t',rfl⟩:=r';exact RcNeAt.none_str _ t'
 |.non,.tup ds',v,v',u,u',h,h',r,r',hu=>by cases(show v=_ from h);cases r;obtain⟨b,ys,rfl,h1',h2'⟩:=id h';cases r';obtain⟨its',_,p',_⟩:=I.tuple h1';exact RcNeAt.none_tuple p' (by omega)
 |.non,.lst ds',v,v',u,u',h,h',r,r',hu=>by cases(show v=_ from h);cases r;obtain⟨b,ys,rfl,h1',h2'⟩:=id h';cases r';obtain⟨its',_,p',_⟩:=I.list h1';exact RcNeAt.none_list p'.isList (by omega)
 |.bl w1,.non,v,v',u,u',h,h',r,r',hu=>by cases(show v=_ from h);cases r;cases(show v'=_ from h');cases r';exact RcNeAt.bool_none _
 |.bl w1,.bl w2,v,v',u,u',h,h',r,r',hu=>by cases(show v=_ from h);cases r;cases(show v'=_ from h');cases r';exact RcNeAt.bool_bool _ _
 |.bl w1,.int w2,v,v',u,u',h,h',r,r',hu=>by cases(show v=_ from h);cases r;cases(show v'=_ from h');obtain⟨t',rfl⟩:=r';exact RcNeAt.bool_int _ _ t'
 |.bl w1,.str w2,v,v',u,u',h,h',r,r',hu=>by cases(show v=_ from h);cases r;cases(show v'=_ from h');obtain⟨t',rfl⟩:=r';exact RcNeAt.bool_str _ _ t'
 |.bl w1,.tup ds',v,v',u,u',h,h',r,r',hu=>by cases(show v=_ from h);cases r;obtain⟨b,ys,rfl,h1',h2'⟩:=id h';cases r';obtain⟨its',_,p',_⟩:=I.tuple h1';exact RcNeAt.bool_tuple _ p' (by omega)
 |.bl w1,.lst ds',v,v',u,u',h,h',r,r',hu=>by cases(show v=_ from h);cases r;obtain⟨b,ys,rfl,h1',h2'⟩:=id h';cases r';obtain⟨its',_,p',_⟩:=I.list h1';exact RcNeAt.bool_list _ p'.isList (by omega)
 |.int w1,.non,v,v',u,u',h,h',r,r',hu=>by cases(show v=_ from h);obtain⟨t,rfl⟩:=r;cases(show v'=_ from h');cases r';exact RcNeAt.int_none _ t
 |.int w1,.bl w2,v,v',u,u',h,h',r,r',hu=>by cases(show v=_ from h);obtain⟨t,rfl⟩:=r;cases(show v'=_ from h');cases r';exact RcNeAt.int_bool _ t _
 |.int w1,.int w2,v,v',u,u',h,h',r,r',hu=>by cases(show v=_ from h);obtain⟨t,rfl⟩:=r;cases(show v'=_ from h');obtain⟨t',rfl⟩:=r';exact RcNeAt.int_int _ t _ t'
 |.int w1,.str w2,v,v',u,u',h,h',r,r',hu=>by cases(show v=_ from h);obtain⟨t,rfl⟩:=r;cases(show v'=_ from h');obtain⟨t',rfl⟩:=r';exact RcNeAt.int_str _ t _ t'
 |.int w1,.tup ds',v,v',u,u',h,h',r,r',hu=>by cases(show v=_ from h);obtain⟨t,rfl⟩:=r;obtain⟨b,ys,rfl,h1',h2'⟩:=id h';cases r';obtain⟨its',_,p',_⟩:=I.tuple h1';exact RcNeAt.int_tuple _ t p' (by omega)
 |.int w1,.lst ds',v,v',u,u',h,h',r,r',hu=>by cases(show v=_ from h);obtain⟨t,rfl⟩:=r;obtain⟨b,ys,rfl,h1',h2'⟩:=id h';cases r';obtain⟨its',_,p',_⟩:=I.list h1';exact RcNeAt.int_list _ t p'.isList (by omega)
 |.str w1,.non,v,v',u,u',h,h',r,r',hu=>by cases(show v=_ from h);obtain⟨t,rfl⟩:=r;cases(show v'=_ from h');cases r';exact RcNeAt.str_none _ t
 |.str w1,.bl w2,v,v',u,u',h,h',r,r',hu=>by cases(show v=_ from h);obtain⟨t,rfl⟩:=r;cases(show v'=_ from h');cases r';exact RcNeAt.str_bool _ t _
 |.str w1,.int w2,v,v',u,u',h,h',r,r',hu=>by cases(show v=_ from h);obtain⟨t,rfl⟩:=r;cases(show v'=_ from h');obtain⟨t',rfl⟩:=r';exact RcNeAt.str_int _ t _ t'
 |.str w1,.str w2,v,v',u,u',h,h',r,r',hu=>by cases(show v=_ from h);obtain⟨t,rfl⟩:=r;cases(show v'=_ from h');obtain⟨t',rfl⟩:=r';exact RcNeAt.str_str _ t _ t'
 |.str w1,.tup ds',v,v',u,u',h,h',r,r',hu=>by cases(show v=_ from h);obtain⟨t,rfl⟩:=r;obtain⟨b,ys,rfl,h1',h2'⟩:=id h';cases r';obtain⟨its',_,p',_⟩:=I.tuple h1';exact RcNeAt.str_tuple _ t p' (by omega)
 |.str w1,.lst ds',v,v',u,u',h,h',r,r',hu=>by cases(show v=_ from h);obtain⟨t,rfl⟩:=r;obtain⟨b,ys,rfl,h1',h2'⟩:=id h';cases r';obtain⟨its',_,p',_⟩:=I.list h1';exact RcNeAt.str_list _ t p'.isList (by omega)
 |.tup ds,.non,v,v',u,u',h,h',r,r',hu=>by obtain⟨a,xs,rfl,h1,h2⟩:=id h;cases r;cases(show v'=_ from h');cases r';obtain⟨its,_,p,_⟩:=I.tuple h1;exact RcNeAt.tuple_none p (by omega)
 |.tup ds,.bl w2,v,v',u,u',h,h',r,r',hu=>by obtain⟨a,xs,rfl,h1,h2⟩:=id h;cases r;cases(show v'=_ from h');cases r';obtain⟨its,_,p,_⟩:=I.tuple h1;exact RcNeAt.tuple_bool _ p (by omega)
 |.tup ds,.int w2,v,v',u,u',h,h',r,r',hu=>by obtain⟨a,xs,rfl,h1,h2⟩:=id h;cases r;cases(show v'=_ from h');obtain⟨t',rfl⟩:=r';obtain⟨its,_,p,_⟩:=I.tuple h1;exact RcNeAt.tuple_int _ t' p (by omega)
 |.tup ds,.str w2,v,v',u,u',h,h',r,r',hu=>by obtain⟨a,xs,rfl,h1,h2⟩:=id h;cases r;cases(show v'=_ from h');obtain⟨t',rfl⟩:=r';obtain⟨its,_,p,_⟩:=I.tuple h1;exact RcNeAt.tuple_str _ t' p (by omega)
 |.tup ds,.tup ds',v,v',u,u',h,h',r,r',hu=>by obtain⟨a,xs,rfl,h1,h2⟩:=id h;cases r;obtain⟨b,ys,rfl,h1',h2'⟩:=id h';cases r';rw[eqD];exact Inv.neTup I A (fun i d d' x y u u' e1 e2 rx ry ru ru'=>Inv.Bt I (i6 ds) A.in1 d d' x y u u' rx ry ru ru' (pA e1) (by rw[hgt]at hu;show A.units+1+i6 ds+1<cLine;omega)) h1 h2 h1' h2' (by omega)
 |.tup ds,.lst ds',v,v',u,u',h,h',r,r',hu=>by obtain⟨a,xs,rfl,h1,h2⟩:=id h;cases r;obtain⟨b,ys,rfl,h1',h2'⟩:=id h';cases r';obtain⟨its,_,p,_⟩:=I.tuple h1;obtain⟨its',_,p',_⟩:=I.list h1';exact RcNeAt.tuple_list p p'.isList (by omega)
 |.lst ds,.non,v,v',u,u',h,h',r,r',hu=>by obtain⟨a,xs,rfl,h1,h2⟩:=id h;cases r;cases(show v'=_ from h');cases r';obtain⟨its,_,p,_⟩:=I.list h1;exact RcNeAt.list_none p.isList (by omega)
 |.lst ds,.bl w2,v,v',u,u',h,h',r,r',hu=>by obtain⟨a,xs,rfl,h1,h2⟩:=id h;cases r;cases(show v'=_ from h');cases r';obtain⟨its,_,p,_⟩:=I.list h1;exact RcNeAt.list_bool _ p.isList (by omega)
 |.lst ds,.int w2,v,v',u,u',h,h',r,r',hu=>by obtain⟨a,xs,rfl,h1,h2⟩:=id h;cases r;cases(show v'=_ from h');obtain⟨t',rfl⟩:=r';obtain⟨its,_,p,_⟩:=I.list h1;exact RcNeAt.list_int _ t' p.isList (by omega)
 |.lst ds,.str w2,v,v',u,u',h,h',r,r',hu=>by obtain⟨a,xs,rfl,h1,h2⟩:=id h;cases r;cases(show v'=_ from h');obtain⟨t',rfl⟩:=r';obtain⟨its,_,p,_⟩:=I.list h1;exact RcNeAt.list_str _ t' p.isList (by omega)
 |.lst ds,.tup ds',v,v',u,u',h,h',r,r',hu=>by obtain⟨a,xs,rfl,h1,h2⟩:=id h;cases r;obtain⟨b,ys,rfl,h1',h2'⟩:=id h';cases r';obtain⟨its,_,p,_⟩:=I.list h1;obtain⟨its',_,p',_⟩:=I.tuple h1';exact RcNeAt.list_tuple p.isList p' (by omega)
 |.lst ds,.lst ds',v,v',u,u',h,h',r,r',hu=>by obtain⟨a,xs,rfl,h1,h2⟩:=id h;cases r;obtain⟨b,ys,rfl,h1',h2'⟩:=id h';cases r';rw[eqD];exact Inv.neLst I A (fun i d d' x y u u' e1 e2 rx ry ru ru'=>Inv.Bt I (i6 ds) A.in1 d d' x y u u' rx ry ru ru' (pA e1) (by rw[hgt]at hu;show A.units+1+i6 ds+1<cLine;omega)) h1 h2 h1' h2' (by omega)
noncomputable def rEqD(K:ae):R2:=fun x y H Q=>∃d d',Rep K H d x/\Rep K H d' y/\hgt d<=30/\Q (.bl (eqD d d')) H
noncomputable def rNeD(K:ae):R2:=fun x y H Q=>∃d d',Rep K H d x/\Rep K H d' y/\hgt d<=30/\Q (.bl (!eqD d d')) H
theorem op_eqD(hu:X.A.units+40<cLine):OpR X (cV .Eq) (rEqD X.K):=by
 intro pins s σ H x y v u Q I rx ry h;obtain⟨d,d',h1,h2,hd,q⟩:=h;exact I.rcD X.A d d' x y v u h1 h2 rx ry (by omega) _ _ _ _ (se I q rfl)
theorem op_neD(hu:X.A.units+40<cLine):OpR X (cV .NotEq) (rNeD X.K):=by
 intro pins s σ H x y v u Q I rx ry h;obtain⟨d,d',h1,h2,hd,q⟩:=h;exact I.rcNeD X.A d d' x y v u h1 h2 rx ry (by omega) _ _ _ _ (se I q rfl)
end
end L2
namespace Q
open PySem PySem.W PyProof.Rows
noncomputable def run{α:Type}(lt:Nat->Nat->Bool):KasT α->α
 |.ret a=>a
 |.ask i j k=>run lt (k (lt i j))
theorem run_bind{α β:Type}(lt:Nat->Nat->Bool)(f:α->KasT β):∀t:KasT α,run lt (t.bind f)=run lt (f (run lt t))
 |.ret a=>rfl
 |.ask i j k=>run_bind lt f (k (lt i j))
noncomputable def okT{α:Type}(lt:Nat->Nat->Bool)(n:Nat):KasT α->Prop
 |.ret _=>True
 |.ask i j k=>(i<n/\j<n/\i≠j)/\okT lt n (k (lt i j))
theorem mh{α β:Type}{lt:Nat->Nat->Bool}{n:Nat}{f:α->KasT β}:∀{t:KasT α},okT lt n t->okT lt n (f (run lt t))->okT lt n (t.bind f)
 |.ret a,_,h=>h
 |.ask i j k,h,h'=>⟨h.1,mh h.2 h'⟩
structure Tot(lt:Nat->Nat->Bool)(n:Nat):Prop where
 tri:∀i j,i<n->j<n->i≠j->lt i j= !lt j i
 tr:∀i j k,i<n->j<n->k<n->lt i j=true->lt j k=true->lt i k=true
noncomputable abbrev at'(p:Array Nat)(i:Nat):Nat:=p.getD i 0
theorem Bz(p:Array Nat)(i:Nat):at' p i=(p[i]?).getD 0:=by simp[at',Array.getD_eq_getD_getElem?]
structure Pm(p:Array Nat)(n:Nat):Prop where
 perm:p.Perm (aI n).toArray
theorem Pm.size{p:Array Nat}{n:Nat}(h:Pm p n):p.size=n:=by rw[h.perm.size_eq];simp
theorem Pm.lt{p:Array Nat}{n:Nat}(h:Pm p n){i:Nat}(hi:i<n):at' p i<n:=by
 have hs:i<p.size:=by rw[h.size];exact hi
 have e:at' p i=p[i]:=by simp[at',hs]
 have m:p[i]∈(aI n).toArray:=h.perm.mem_iff.mp (Array.getElem_mem hs);rw[e];simpa using m
theorem Pm.inj{p:Array Nat}{n:Nat}(h:Pm p n){i j:Nat}(hi:i<n)(hj:j<n)(e:at' p i=at' p j):i=j:=by
 have hsi:i<p.size:=by rw[h.size];exact hi
 have hsj:j<p.size:=by rw[h.size];exact hj
 have nd:p.toList.Nodup:=by
  have q:p.toList.Perm (aI n):=by simpa using fO.mp h.perm
  exact q.nodup_iff.mpr List.nodup_range
 have e1:at' p i=p.toList[i]'(by simpa using hsi):=by simp[at',hsi]
 have e2:at' p j=p.toList[j]'(by simpa using hsj):=by simp[at',hsj]
 rw[e1,e2]at e;exact(d7 nd).mp e
theorem GP{p:Array Nat}{i j:Nat}(hj:j<=p.size)(k:Nat):at' (wW p i j) k=if i<=k/\k<j then at' p (i+j-1-k)else at' p k:=by
 rw[Bz];unfold wW;rw[getElem?_mirror_all hj];split <;>rw[Bz]
theorem GQ{p:Array Nat}{src d:Nat}(hs:src<p.size)(hd:d<=src)(k:Nat):at' (bubble p src d) k=if k=src-d then at' p src else if src-d<k/\k<=src then at' p (k-1)else at' p k:=by
 rw[Bz,getElem?_bubble hs d hd];split
 ·simp[at',hs]
 ·split <;>rw[Bz]
theorem Pm.rev{p:Array Nat}{n i j:Nat}(h:Pm p n):Pm (wW p i j) n:=⟨(mirror_perm _ _ _ _).trans h.perm⟩
theorem Pm.bub{p:Array Nat}{n i j:Nat}(h:Pm p n):Pm (bubble p i j) n:=⟨(bubble_perm _ _ _).trans h.perm⟩
noncomputable def Up(lt:Nat->Nat->Bool)(p:Array Nat)(m:Nat):Prop:=∀i j,i<j->j<m->lt (at' p i) (at' p j)=true
noncomputable def Dn(lt:Nat->Nat->Bool)(p:Array Nat)(m:Nat):Prop:=∀i j,i<j->j<m->lt (at' p j) (at' p i)=true
section
variable {lt:Nat->Nat->Bool}{N:Nat}{p:Array Nat}
theorem Tot.flip(T:Tot lt N)(P:Pm p N){i j:Nat}(hi:i<N)(hj:j<N)(n:i≠j)(h:lt (at' p i) (at' p j)=false):lt (at' p j) (at' p i)=true:=by
 have q:=T.tri _ _ (P.lt hi) (P.lt hj) fun e=>n (P.inj hi hj e);rw[h]at q;simpa using q.symm
theorem Pm.ask{p:Array Nat}(P:Pm p N){i j:Nat}(hi:i<N)(hj:j<N)(n:i≠j):at' p i<N/\at' p j<N/\at' p i≠at' p j:=⟨P.lt hi,P.lt hj,fun e=>n (P.inj hi hj e)⟩
theorem Up.succ(T:Tot lt N)(P:Pm p N){n:Nat}(h1:1<=n)(hn:n<N)(u:Up lt p n)(h:lt (at' p (n-1)) (at' p n)=true):Up lt p (n+1):=by
 intro i j hij hj;by_cases e:j=n
 ·subst e
  by_cases e2:i=j-1
  ·subst e2;exact h
  ·exact T.tr _ _ _ (P.lt (by omega)) (P.lt (by omega)) (P.lt hn) (u i (j-1) (by omega) (by omega)) h
 ·exact u i j hij (by omega)
theorem Dn.succ(T:Tot lt N)(P:Pm p N){n:Nat}(h1:1<=n)(hn:n<N)(u:Dn lt p n)(h:lt (at' p n) (at' p (n-1))=true):Dn lt p (n+1):=by
 intro i j hij hj;by_cases e:j=n
 ·subst e
  by_cases e2:i=j-1
  ·subst e2;exact h
  ·exact T.tr _ _ _ (P.lt hn) (P.lt (by omega)) (P.lt (by omega)) h (u i (j-1) (by omega) (by omega))
 ·exact u i j hij (by omega)
theorem vA(T:Tot lt N)(P:Pm p N):∀(f n:Nat),1<=n->n+f<=N->Up lt p n->∃m,run lt (kas_asc p f n)=m/\n<=m/\m<=n+f/\Up lt p m/\(m=n+f\/lt (at' p m) (at' p (m-1))=true)/\okT lt N (kas_asc p f n)
 | 0,n,h1,h2,u=>⟨n,rfl,aw _,aw _,u,.inl rfl,trivial⟩
 |f+1,n,h1,h2,u=>by
  unfold kas_asc;have hask:=P.ask (i:=n) (j:=n-1) (by omega) (by omega) (by omega);simp only[run,okT];by_cases c:lt (at' p n) (at' p (n-1))=true
  ·rw[if_pos c]
   exact⟨n,rfl,aw _,by omega,u,.inr c,hask,trivial⟩
  ·rw[if_neg c]
   have c':lt (at' p n) (at' p (n-1))=false:=by simpa using c
   obtain⟨m,e,a1,a2,a3,a4,a5⟩:=vA T P f (n+1) (by omega) (by omega) (u.succ T P h1 (by omega) (T.flip P (by omega) (by omega) (by omega) c'));refine⟨m,e,by omega,by omega,a3,?_,hask,a5⟩;rcases a4 with z|z
   ·exact .inl (by omega)
   ·exact .inr z
theorem xH(T:Tot lt N)(P:Pm p N):∀(f n:Nat),1<=n->n+f<=N->Dn lt p n->∃m,run lt (kas_desc f p n 0)=(p,m,0)/\n<=m/\m<=n+f/\Dn lt p m/\okT lt N (kas_desc f p n 0)
 | 0,n,h1,h2,u=>⟨n,rfl,aw _,aw _,u,trivial⟩
 |f+1,n,h1,h2,u=>by
  unfold kas_desc;have hask:=P.ask (i:=n) (j:=n-1) (by omega) (by omega) (by omega);have hask2:=P.ask (i:=n-1) (j:=n) (by omega) (by omega) (by omega);simp only[run,okT];by_cases c:lt (at' p n) (at' p (n-1))=true
  ·rw[if_pos c,if_neg (d5 0)]
   obtain⟨m,e,a1,a2,a3,a4⟩:=xH T P f (n+1) (by omega) (by omega) (u.succ T P h1 (by omega) c);exact⟨m,e,by omega,by omega,a3,hask,a4⟩
  ·rw[if_neg c]
   have c':lt (at' p n) (at' p (n-1))=false:=by simpa using c
   have d:=T.flip P (by omega) (by omega) (by omega) c';simp only[run,okT];rw[if_pos d];exact⟨n,rfl,aw _,by omega,u,hask,hask2,trivial⟩
theorem EE(T:Tot lt N)(P:Pm p N){n:Nat}(h1:1<=n)(hn:n<=N)(u:Dn lt p n):∃m p',run lt (kas_tail3 n N p)=(m,p')/\1<=m/\m<=N/\Up lt p' m/\Pm p' N/\okT lt N (kas_tail3 n N p):=by
 have u':Up lt (wW p 0 n) n:=by
  intro i j hij hj;rw[GP (by rw[P.size];exact hn),GP (by rw[P.size];exact hn),if_pos ⟨bp _,by omega⟩,if_pos ⟨bp _,hj⟩];exact u _ _ (by omega) (by omega)
 obtain⟨m,e,a1,a2,a3,_,a5⟩:=vA T P.rev (N-n) n h1 (by omega) u';unfold kas_tail3;refine⟨m,wW p 0 n,?_,by omega,by omega,a3,P.rev,mh a5 trivial⟩;rw[run_bind,e];rfl
theorem vz(T:Tot lt N)(P:Pm p N){n:Nat}(hn:n+1<=N)(u:Dn lt p (n+1)):∃m p',run lt (iP n N p)=(m,p')/\1<=m/\m<=N/\Up lt p' m/\Pm p' N/\okT lt N (iP n N p):=by
 obtain⟨m,e,a1,a2,a3,a4⟩:=xH T P (N-(n+1)) (n+1) (by omega) (by omega) u;obtain⟨m2,p2,b1,b2,b3,b4,b5,b6⟩:=EE T P (by omega) (by omega) a3;unfold iP;refine⟨m2,p2,?_,b2,b3,b4,b5,mh a4 ?_⟩
 ·rw[run_bind,e]
  exact b1
 ·rw[e]
  exact b6
theorem Cd(T:Tot lt N)(P:Pm p N)(hN:1<=N):∃m p',run lt (kas_count N p)=(m,p')/\1<=m/\m<=N/\Up lt p' m/\Pm p' N/\okT lt N (kas_count N p):=by
 obtain⟨m,e,a1,a2,a3,a4,a5⟩:=vA T P (N-1) 1 (aw _) (by omega) (fun i j hij hj=>by omega);have hmid:∃m' p',run lt (if(m==N)=true then qQ (m,p)else if m>1 then KasT.ask (p.getD 0 0) (p.getD (m-1) 0) fun c=>if c=true then qQ (m,p)else iP m N (wW p 0 m)else iP m N p)=(m',p')/\1<=m'/\m'<=N/\Up lt p' m'/\Pm p' N/\
   okT lt N (if(m==N)=true then qQ (m,p)else if m>1 then KasT.ask (p.getD 0 0) (p.getD (m-1) 0) fun c=>if c=true then qQ (m,p)else iP m N (wW p 0 m)else iP m N p):=by
  by_cases c:m=N
  ·rw[if_pos (by simpa using c)]
   exact⟨m,p,rfl,a1,by omega,a3,P,trivial⟩
  ·rw[if_neg (by simpa using c)]
   by_cases d:m>1
   ·rw[if_pos d]
    simp only[run,okT];rw[if_pos (a3 0 (m-1) (by omega) (by omega))];exact⟨m,p,rfl,a1,by omega,a3,P,P.ask (by omega) (by omega) (by omega),trivial⟩
   ·rw[if_neg d]
    obtain rfl:m=1:=by omega
    rcases a4 with z|z
    ·omega
    ·exact vz T P (by omega) fun i j hij hj=>by
      obtain rfl:j=1:=by omega
      obtain rfl:i=0:=by omega
      exact z
 obtain⟨m',p',b1,b2,b3,b4,b5,b6⟩:=hmid;unfold kas_count;refine⟨m',p',?_,b2,b3,b4,b5,mh a5 ?_⟩
 ·rw[run_bind,e]
  exact b1
 ·rw[e]
  exact b6
theorem ph(T:Tot lt N)(P:Pm p N){k:Nat}(hk:k<N)(u:Up lt p k):∀(f l r:Nat),l<=r->r<=k->r-l<=f->(∀i,i<l->lt (at' p i) (at' p k)=true)->(∀i,r<=i->i<k->lt (at' p k) (at' p i)=true)->
  ∃q,run lt (kas_place p k f l r)=q/\q<=k/\(∀i,i<q->lt (at' p i) (at' p k)=true)/\(∀i,q<=i->i<k->lt (at' p k) (at' p i)=true)/\okT lt N (kas_place p k f l r)
 | 0,l,r,h1,h2,h3,a,b=>⟨l,rfl,by omega,a,fun i hi=>b i (by omega),trivial⟩
 |f+1,l,r,h1,h2,h3,a,b=>by
  unfold kas_place;by_cases c:l≥ r
  ·rw[if_pos c]
   exact⟨l,rfl,by omega,a,fun i hi=>b i (by omega),trivial⟩
  ·rw[if_neg c]
   have hask:=P.ask (i:=k) (j:=(l+r)/2) hk (by omega) (by omega);simp only[run,okT];by_cases d:lt (at' p k) (at' p ((l+r)/2))=true
   ·rw[if_pos d]
    have key:=ph T P hk u f l ((l+r)/2) (by omega) (by omega) (by omega) a fun i hi hik=>?_;obtain⟨q,y1,y2,y3,y4,y5⟩:=key;exact⟨q,y1,y2,y3,y4,hask,y5⟩;by_cases e:i=(l+r)/2
    ·rw[e];exact d
    ·exact T.tr _ _ _ (P.lt hk) (P.lt (by omega)) (P.lt (by omega)) d (u _ _ (by omega) hik)
   ·rw[if_neg d]
    have d':=T.flip P hk (by omega:(l+r)/2<N) (by omega) (by simpa using d);have key:=ph T P hk u f ((l+r)/2+1) r (by omega) h2 (by omega) (fun i hi=>?_) b;obtain⟨q,y1,y2,y3,y4,y5⟩:=key;exact⟨q,y1,y2,y3,y4,hask,y5⟩;by_cases e:i=(l+r)/2
    ·rw[e];exact d'
    ·exact T.tr _ _ _ (P.lt (by omega)) (P.lt (by omega)) (P.lt hk) (u _ _ (by omega) (by omega)) d'
end
theorem AQ{lt:Nat->Nat->Bool}{N:Nat}(T:Tot lt N):∀(f k:Nat)(p:Array Nat),Pm p N->k+f=N->Up lt p k->∃p',run lt (kas_bin f p k)=p'/\Up lt p' N/\Pm p' N/\okT lt N (kas_bin f p k)
 | 0,k,p,P,h,u=>⟨p,rfl,by rw[<-h];exact u,P,trivial⟩
 |f+1,k,p,P,h,u=>by
  have hk:k<N:=by omega
  obtain⟨q,e,hq,a,b,okp⟩:=ph T P hk u k 0 k (bp _) (aw _) (by omega) (fun i hi=>absurd hi (gQ _)) fun i h1 h2=>by omega
  have key:=AQ T f (k+1) (bubble p k (k-q)) P.bub (by omega) fun i j hij hj=>?_;obtain⟨p',y1,y2,y3,y4⟩:=key;unfold kas_bin;refine⟨p',?_,y2,y3,mh okp ?_⟩
  ·rw[run_bind,e]
   exact y1
  ·rw[e]
   exact y4
  have hs:k<p.size:=by rw[P.size];exact hk
  rw[GQ hs (by omega),GQ hs (by omega)];have eq:k-(k-q)=q:=by omega
  rw[eq];by_cases c1:i=q
  ·rw[if_pos c1,if_neg (by omega),if_pos (by omega)]
   exact b _ (by omega) (by omega)
  ·rw[if_neg c1]
   by_cases c2:j=q
   ·rw[if_pos c2,if_neg (by omega)]
    exact a i (by omega)
   ·rw[if_neg c2]
    by_cases c3:q<i
    ·rw[if_pos (by omega),if_pos (by omega)]
     exact u _ _ (by omega) (by omega)
    ·rw[if_neg (by omega)]
     by_cases c4:q<j
     ·rw[if_pos (by omega)]
      exact u _ _ (by omega) (by omega)
     ·rw[if_neg (by omega)]
      exact u _ _ (by omega) (by omega)
theorem fw{lt:Nat->Nat->Bool}{N:Nat}(T:Tot lt N)(hN:1<=N):Pm (run lt (dh N)) N/\Up lt (run lt (dh N)) N/\okT lt N (dh N):=by
 have P0:Pm (dF (aI N)) N:=⟨Array.Perm.refl _⟩;obtain⟨m,p',e,a1,a2,a3,a4,a5⟩:=Cd T P0 hN;have hm:max m 1=m:=by omega
 have hmid:∃p2,run lt (if m<N then kas_bin (N-max m 1) p' (max m 1)else qQ p')=p2/\Up lt p2 N/\Pm p2 N/\okT lt N (if m<N then kas_bin (N-max m 1) p' (max m 1)else qQ p'):=by
  rw[hm];by_cases c:m<N
  ·rw[if_pos c]
   exact AQ T (N-m) m p' a4 (by omega) a3
  ·rw[if_neg c]
   have e2:m=N:=by omega
   exact⟨p',rfl,by rw[<-e2];exact a3,a4,trivial⟩
 obtain⟨p2,b1,b2,b3,b4⟩:=hmid;have er:run lt (dh N)=p2:=by
  unfold dh;rw[run_bind,e];exact b1
 rw[er];refine⟨b3,b2,?_⟩;unfold dh;refine mh a5 ?_;rw[e];exact b4
theorem wp_run{lt:Nat->Nat->Bool}{N:Nat}{S:Shared->Prop}{cmp:Nat->Nat->(Bool->Shared->Prop)->Shared->Prop}{α:Type}{G:α->Shared->Prop}
  (h:∀i j C s,i<N->j<N->i≠j->S s->(∀s',S s'->C (lt i j) s')->cmp i j C s):
  ∀(t:KasT α)(s:Shared),okT lt N t->S s->(∀s',S s'->G (run lt t) s')->t.kasWp cmp G s
 |.ret a,s,_,hs,g=>g s hs
 |.ask i j k,s,ok,hs,g=>h i j _ s ok.1.1 ok.1.2.1 ok.1.2.2 hs fun s' hs'=>wp_run h (k (lt i j)) s' ok.2 hs' g
end Q
namespace L2
open PySem PySem.Spec PyProof.Rows
structure Fly(h₀ h:Heap)(H:Hp)(pn:List (Addr×Obj))(a:Addr)(c:Value)(d:Option Addr):Prop where
 ex:∃T oe vs oT ts,h.get? a=some oe/\oe.cls=c/\oe.dict=d/\oe.data=.fields vs/\vs[1]? =some (.ref T)/\T≠a/\h.get? T=some oT/\oT.data=.fields ts/\ts[3]? =some .none/\h₀.get? T=none/\H T=none/\∀p∈pn,p.1≠T
 new:h₀.get? a=none
 un:H a=none
 pins:∀p∈pn,p.1≠a
noncomputable def CXx(P:Program)(w:World):CXT:=fun outer H s E e s'=>
 ∃a c d H',e=.ref a/\s'.os=s.os/\mE s'.gens/\Un (frs outer) [] H H' s.heap s'.heap/\HOk P w H' s'.heap/\Fly s.heap s'.heap H' [] a c d/\E c d H'
section
variable {X:Cx}{pins:List (Addr×Obj)}{σ:St}{H:Hp}{s:Shared}
theorem Inv.qD{h':Heap}{t':Nat}{it:Addr}(I:Inv X pins σ H s)(k:∀b o,b≠it->s.heap.get? b=some o->h'.get? b=some o)(hn:H it=none)(hL:it≠X.env.locals)
  (h1:X.s₀.heap.get? it=none)(h2:∀x c,X.env.cells.lookup x=some c->c≠it)(h3:∀p∈X.pn++pins,p.1≠it):Inv X pins σ H {s with heap:=h',toks:=t'}:=by
 have ne0:∀b o,X.s₀.heap.get? b=some o->b≠it:=fun b o e z=>by rw[z,h1]at e;cases e
 have nit:∀b u,H b=some u->b≠it:=fun b u e z=>by rw[z,hn]at e;cases e
 refine⟨I.ok,I.os,I.bare,⟨fun b o e n hb hx=>k b o (ne0 b o e) (I.base.keep b o e n hb hx),fun b o e n hb hx=>?_,I.base.free,fun b o e hx=>?_,I.base.tups,I.base.frzs,I.base.tbls⟩,?_,fun x c e=>?_,I.free,I.freeC,fun p hp=>?_,fun b u e=>?_,I.len⟩
 ·obtain⟨sl,q⟩:=I.base.slot b o e n hb hx
  exact⟨sl,k _ _ (ne0 b o e) q⟩
 ·obtain⟨o',q⟩:=I.base.there b o e hx
  exact⟨o',k _ _ (ne0 b o e) q⟩
 ·obtain⟨m,⟨o,es,ep,ho,r⟩,hl⟩:=I.loc
  refine⟨m,⟨o,es,ep,k _ _ (bK hL) ho,r⟩,fun i x v e1 e2 e3=>?_⟩;obtain⟨u,ru,l⟩:=hl i x v e1 e2 e3;refine⟨u,ru,?_⟩;rcases l with l|⟨kk,c,e,oc,q,dd⟩
  ·exact .inl l
  ·exact .inr ⟨kk,c,e,oc,k _ _ (h2 x c e) q,dd⟩
 ·obtain⟨v,oc,q,dd⟩:=I.cell x c e
  exact⟨v,oc,k _ _ (h2 x c e) q,dd⟩
 ·obtain⟨e,n,ne,nf,d⟩:=I.pin p hp
  exact⟨k _ _ (h3 p hp) e,n,ne,nf,d⟩
 ·refine(I.hok b u e).pb (fun c v hc q=>k c v ?_ q) (fun _ q=>q) fun _ _ q=>q
  rcases hc with z|z
  ·rw[z];exact nit b u e
  ·exact nit c _ z
theorem Inv.rB(I:Inv X pins σ H s){a:Addr}{o:Obj}{vs:Array Value}(e:s.heap.get? a=some o)(hd:o.data=.fields vs):a≠X.env.locals/\∀x c,X.env.cells.lookup x=some c->c≠a:=by
 refine⟨fun z=>?_,fun x c hc z=>?_⟩
 ·obtain⟨m,⟨o',es,ep,ho',hd',_⟩,_⟩:=I.loc
  rw[<-z,e]at ho';cases ho';rw[hd]at hd';cases hd'
 ·obtain⟨v,o',ho',hd'⟩:=I.cell x c hc
  rw[z,e]at ho';cases ho';rw[hd]at hd';cases hd'
theorem cZ.has{P:Program}{w:World}{H:Hp}{h:Heap}{a:Addr}{o:HO}(x:cZ P w H h a o):∃ob,h.get? a=some ob:=by
 cases o with
 |lst xs=>obtain⟨_,_,_,_,e⟩:=x;exact⟨_,e⟩
 |tup xs=>obtain⟨_,_,_,_,e,_⟩:=x;exact⟨_,e⟩
 |dK kvs=>obtain⟨_,_,_,_,o,_,_,e,_⟩:=x;exact⟨_,e⟩
 |dT kvs=>obtain⟨_,_,_,_,o,_,_,e,_⟩:=x;exact⟨_,e⟩
 |set S n=>obtain⟨o,_,_,_,e,_⟩:=x;exact⟨_,e⟩
 |ins C dx fs=>obtain⟨_,_,_,e,_⟩:=x;exact⟨_,e⟩
 |own y=>exact x
 |xd fs=>obtain⟨_,⟨_,_,_,e,_⟩,_⟩:=x;exact⟨_,e⟩
 |rng lo hi=>obtain⟨_,_,_,e⟩:=x;exact⟨_,e⟩
 |frz ob u=>obtain⟨e,_⟩:=x;exact⟨_,e⟩
 |tbl ps=>exact⟨_,x⟩
 |met f y=>exact⟨_,x⟩
 |ext φ=>exact x.2.1
section
variable {M:Model}{E:Value->Shared->Prop}{Q:Unit->Shared->Prop}
theorem enter{a:Addr}{oe:Obj}{vs:Array Value}{head:Value}{more:Bool}(I:Inv X pins σ H s)(stk:X.stack=X.env::X.outer)(hf:X.env.frame=some X.env.locals)
  (he:s.heap.get? a=some oe)(hd:oe.data=.fields vs)(hsz:1<vs.size)(h0:X.s₀.heap.get? a=none)(hH:H a=none)(hp:∀p∈X.pn++pins,p.1≠a)
  (h:∀s2,Inv X pins σ H s2->Fly X.s₀.heap s2.heap H (X.pn++pins) a oe.cls oe.dict->Q () s2):
  wpAny M X.A (do let f<-frameOf X.env;let l<-entryPlaceOf X.env.locals more;let b<-zd head f .none (rawInt X.env.locals) .none l;qz (.ref a) 1 b)
   (fun _ s'=>wpAny M X.A (yX (.ref a) none) Q E s') E s:=by
 have hfr:X.A.frames=some (X.env::X.outer):=by rw[<-stk];exact I.ok.frames
 have hl:s.heap.FunFrames X.base (X.env::X.outer):=by rw[<-stk];exact I.stack
 have nofr:∀b∈frs X.stack,H b=none:=I.vh;refine aa (wpAny_frameOf_fun hfr hl hf fun h1 hs=>?_);have hs':Heap.SlotsOnly (frs X.stack) s.heap h1:=by rw[stk];exact hs
 have hane:a∉frs X.stack:=fun hm=>by
  rw[stk]at hm;obtain⟨_,o,ho,hnf⟩:=hl.mem hm;rw[he]at ho;cases ho;exact hnf vs hd
 have u1:Un (frs X.stack) [] H H s.heap h1:=
  ⟨fun b o e _ hb _=>(hs'.2.1 b hb).trans e,fun b o e _ _ _=>hs'.2.2 b o e,fun _ _ _ n _=>n,fun b o e _=>let⟨sl,q⟩:=hs'.2.2 b o e;⟨_,q⟩,fun _ _ q=>q,fun _ _ _ q=>q,fun _ ps q=>⟨#[],by rw[q];simp⟩⟩
 have k1:HOk X.prog X.w H h1:=fun b u e=>by
  refine(I.hok b u e).pb (fun c v hc q=>(hs'.2.1 c fun hm=>?_).trans q) (fun _ q=>q) fun _ _ q=>q;have n:=nofr c hm;rcases hc with z|z
  ·rw[z,e]at n;cases n
  ·rw[z]at n;cases n
 have I1:Inv X pins σ H {s with heap:=h1}:=I.call (g':=s.gens) (t':=s.toks) (d':=s.drawn) (ch:=[]) u1 k1 I.bare fun _ z=>nomatch z;have he1:h1.get? a=some oe:=(hs'.2.1 a hane).trans he;refine aa (wpAny_entryPlaceOf fun pl hpl=>?_);unfold zd newFields;refine aa (bY ?_ (hpl.sizeOk5 _ _ _ _ _));generalize hob:({cls:=.type "traceback",dict:=none,data:=.fields ([head,.ref X.env.locals,.none,rawInt X.env.locals,.none]++(if pl.isEmpty then bL 6 bI else pl)).toArray}:Obj)=ob;have hodata:ob.data=.fields ([head,.ref X.env.locals,.none,rawInt X.env.locals,.none]++(if pl.isEmpty then bL 6 bI else pl)).toArray:=by rw[<-hob]
 have hofree:ob.isFreed=false:=by rw[<-hob];rfl
 have I2:Inv X pins σ H {s with heap:=h1.push ob}:=I1.kept (t':=s.toks) fun b o e=>af _ e;have he2:(h1.push ob).get? a=some oe:=af _ he1;have hT2:(h1.push ob).get? h1.objs.size=some ob:=au _ hofree;have hTa:h1.objs.size≠a:=cS (ax he1);have hd3:=ek hd (·.setIfInBounds 1 (aX h1.objs.size));refine qw he2 hd hsz ?_;obtain⟨ra1,ra2⟩:=I.rB he hd;have I3:Inv X pins σ H {s with heap:=(h1.push ob).update a (eJ (·.setIfInBounds 1 (.ref h1.objs.size)))}:=
  I2.qD (t':=s.toks) (fun b o hb e=>by rw[aD _ _ (bK hb)];exact e) hH ra1 h0 ra2 hp
 have he3:=bF (eJ (·.setIfInBounds 1 (aX h1.objs.size))) he2 (iE hd3);have hT3:((h1.push ob).update a (eJ (·.setIfInBounds 1 (aX h1.objs.size)))).get? h1.objs.size=some ob:=by
  rw[aD _ _ (bK hTa)];exact hT2
 have hszT:3<([head,.ref X.env.locals,.none,rawInt X.env.locals,.none]++(if pl.isEmpty then bL 6 bI else pl)).toArray.size:=by
  simp only[ay,cm,bo,jb];omega
 have hv1:(vs.setIfInBounds 1 (aX h1.objs.size))[1]? =some (.ref h1.objs.size):=by simp[hsz]
 refine wpAny_setFlight_none he3 hd3 hv1 hT3 hodata hszT ?_;have hTle:s.heap.objs.size<=h1.objs.size:=sS hs.1.symm;have hT0:X.s₀.heap.get? h1.objs.size=none:=nL (aF I.sz hTle);have hTH:H h1.objs.size=none:=I.hok.fresh hTle;obtain⟨rt1,rt2⟩:=I3.rB hT3 hodata;have hpT:∀p∈X.pn++pins,p.1≠h1.objs.size:=fun p hq z=>by
  have q:=ax (I.pin p hq).1;exact absurd (aZ (z▸q) hTle) (d5 _)
 have I4:=I3.qD (t':=s.toks) (h':=((h1.push ob).update a (eJ (·.setIfInBounds 1 (.ref h1.objs.size)))).update h1.objs.size (eJ (·.setIfInBounds 3 .none)))
  (fun b o hb e=>by rw[aD _ _ (bK hb)];exact e) hTH rt1 hT0 rt2 hpT
 refine h _ I4 ⟨⟨h1.objs.size,_,_,_,_,?_,Obj.cls_mapFields _ _,?_,hd3,hv1,hTa,bF _ hT3 (iE (ek hodata _)),ek hodata _,?_,hT0,hTH,hpT⟩,h0,hH,hp⟩
 ·show(Heap.update _ _ _).get? a=_
  rw[aD _ _ hTa];exact he3
 ·obtain⟨c',d',dt',sl'⟩:=oe
  cases dt'<;>rfl
 ·rw[mY hszT]
theorem xX{a:Addr}{c:Value}{args:List Value}{h':Heap}(I:Inv X pins σ H s)(stk:X.stack=X.env::X.outer)(hf:X.env.frame=some X.env.locals)(hx:X.ex=[])(hm:nM s.heap h' a c args)
  (h:∀s2,Inv X pins σ H s2->Fly X.s₀.heap s2.heap H (X.pn++pins) a c none->Q () s2):
  wpAny M X.A (kU (.ref a) X.env) (fun _ s'=>wpAny M X.A (yX (.ref a) none) Q E s') E {s with heap:=h'}:=by
 obtain⟨t,ht,_,_⟩:=hm.there;have I1:Inv X pins σ H {s with heap:=h'}:=I.kept (t':=s.toks) hm.keeps;have hH:H a=none:=by
  cases q:H a with
  |none=>rfl
  |some o=>
   obtain⟨ob,e⟩:=(I.hok a o q).has;rw[hm.new]at e;cases e
 unfold kU;simp only[hf];refine aa (gD (x:=.none) ht rfl (by rfl) ?_);rw[if_neg (show ¬(bI != bI)=true by simp)];have h0:X.s₀.heap.get? a=none:=by
  cases q:X.s₀.heap.get? a with
  |none=>rfl
  |some o=>
   obtain⟨o',e⟩:=I.base.there a o q (by rw[hx];simp);rw[hm.new]at e;cases e
 exact enter I1 stk hf ht rfl (by simp) h0 hH (fun p hp z=>by have :=(I.pin p hp).1;rw[z,hm.new]at this;cases this) h
theorem xY{a:Addr}{c:Value}{d:Option Addr}{H':Hp}{s':Shared}(I:Inv X pins σ H s)(stk:X.stack=X.env::X.outer)(hf:X.env.frame=some X.env.locals)(hx:X.ex=[])(ho:s'.os=s.os)(hg:mE s'.gens)(u:Un (frs X.stack) [] H H' s.heap s'.heap)(ok:HOk X.prog X.w H' s'.heap)
  (F:Fly s.heap s'.heap H' [] a c d)(h:∀s2,Inv X pins σ H' s2->Fly X.s₀.heap s2.heap H' (X.pn++pins) a c d->Q () s2):
  wpAny M X.A (kU (.ref a) X.env) (fun _ s'=>wpAny M X.A (yX (.ref a) none) Q E s') E s':=by
 obtain⟨⟨T,oe,vs,oT,ts,he,rfl,rfl,hd,h1,hTa,hT,hdT,h3,hnT,hHT,_⟩,hna,hHa,_⟩:=F;have I1:Inv X pins σ H' s':=I.call' (ch:=[]) ho u ok hg fun _ z=>nomatch z;have back:∀b,s.heap.get? b=none->X.s₀.heap.get? b=none:=fun b n=>by
  cases q:X.s₀.heap.get? b with
  |none=>rfl
  |some o=>
   obtain⟨o',e⟩:=I.base.there b o q (by rw[hx];simp);rw[n]at e;cases e
 have np:∀b,s.heap.get? b=none->∀p∈X.pn++pins,p.1≠b:=fun b n p hp z=>by have :=(I.pin p hp).1;rw[z,n]at this;cases this
 unfold kU;simp only[hf];refine aa (gD he hd h1 ?_);rw[if_pos (show(aX T != bI)=true by simp)];refine aa (gD hT hdT h3 ?_);rw[if_neg (show ¬(bI==rawInt X.env.locals)=true by simp[rawInt])];refine aa (qw hT hdT (cu.mp h3).1 ?_);obtain⟨rt1,rt2⟩:=I1.rB hT hdT;have I2:=I1.qD (t':=s'.toks) (h':=s'.heap.update T (eJ (·.setIfInBounds 3 .none))) (fun b o hb e=>by rw[aD _ _ (bK hb)];exact e) hHT rt1 (back T hnT) rt2 (np T hnT);have he2:(s'.heap.update T (eJ (·.setIfInBounds 3 .none))).get? a=some oe:=by rw[aD _ _ hTa];exact he
 exact enter I2 stk hf he2 hd (cu.mp h1).1 (back a hna) hHa (np a hna) h
end
end
end L2
namespace L2
open PySem PySem.Spec PySem.W PyProof.Rows
noncomputable def lO(K:ae)(C:Addr):Bool:=
 findIn K (.ref C) "__getattribute__"==some (some (.builtin "BaseException.__getattribute__"))&&findIn K (.ref C) "__getattr__"==some none&&
 findIn K (.ref C) "__class__"==some (some (.builtin "object.__class__"))&&specialIn K (.builtin "object.__class__") "__get__"==some (some (.builtin "getset_descriptor.__get__"))&&
 takesIn K (.builtin "object.__class__")==some true&&mroIn K C (.type "object")==some true&&mroIn K C (.type "BaseException")==some true&&(clsIn K C).isSome
structure sN(K:ae)(C:Addr):Prop where
 ga:findIn K (.ref C) "__getattribute__"=some (some (.builtin "BaseException.__getattribute__"))
 hook:findIn K (.ref C) "__getattr__"=some none
 cl:findIn K (.ref C) "__class__"=some (some (.builtin "object.__class__"))
 get:specialIn K (.builtin "object.__class__") "__get__"=some (some (.builtin "getset_descriptor.__get__"))
 tk:takesIn K (.builtin "object.__class__")=some true
 obj:mroIn K C (.type "object")=some true
 bex:mroIn K C (.type "BaseException")=some true
 isc:(clsIn K C).isSome=true
theorem yy{K:ae}{C:Addr}(h:lO K C=true):sN K C:=by
 unfold lO at h;simp only[ag,beq_iff_eq]at h;obtain⟨⟨⟨⟨⟨⟨⟨a,b⟩,c⟩,d⟩,e⟩,f⟩,g⟩,i⟩:=h;exact⟨a,b,c,d,e,f,g,i⟩
theorem zD:splitId "BaseException.__getattribute__"=some ("BaseException","__getattribute__"):=by decide+kernel
theorem CJ:builtinKind "BaseException.__getattribute__"=some .slot:=by decide+kernel
theorem ga_ne:(gH "BaseException.__getattribute__"==gH "object.__getattribute__")=false:=by decide+kernel
section
variable {prog:Program}{w:World}{A:Around}{E:Value->Shared->Prop}{s:Shared}{K:ae}{a C:Addr}{o:Obj}{od:Option Obj}
theorem sF{M:Model}{nameV:Value}{Q:Unit->Shared->Prop}{h:Heap}{g:Array nH}{d:Drawn}{t:Nat}{os:OsState}(kin:K.In h)(J:InstAt h a o C od)(F:sN K C)(hq:Q () ⟨h,g,d,t,os⟩):
  wpAny M A (y8 "BaseException.__getattribute__" ⟨[.ref a,nameV],[]⟩) Q E ⟨h,g,d,t,os⟩:=by
 have L0:=J.type (M:=M);have L4:=looks_mroIn (M:=M) kin F.bex;have ha:=PySem.F.args_bexc_ga (.ref a) nameV;simp only[y8,CJ,zD];unfold tK;repeat(first |lk|wp_step)
 exact hq
theorem Dl{tk:Tok}{R:Result->Shared->Prop}(kin:K.In s.heap)(J:InstAt s.heap a o C od)(F:sN K C)(h:R (.ok (.ret (.ref C))) s):
  eE (model prog w) A (.call (.builtin "BaseException.__getattribute__") ⟨[.ref a,.str "__class__" tk],[]⟩) R s:=by
 have hf:qM K C od "__class__"=some (.bind (.builtin "getset_descriptor.__get__") (.builtin "object.__class__")):=by
  obtain⟨cd,hc⟩:=ck.mp F.isc;unfold qM;rw[hc,eM,F.cl,eM];simp[F.get,F.tk]
 obtain⟨hh,g,d,t,os⟩:=s;have L0:=J.type (M:=model prog w);have L3:=looks_find (M:=model prog w) kin J hf;refine gF fk.ga.plain zk (sF kin J F ?_);unfold Builtin.«object.__getattribute__»;repeat(first |with_reducible refine fH ?_ |lk|wp_step)
 refine class_get (s:=⟨hh,g,d,t,os⟩) kin J F.obj ?_;repeat(first |lk|wp_step)
 exact h
theorem C5{Q:Option Value->Shared->Prop}(kin:K.In s.heap)(J:InstAt s.heap a o C od)(F:sN K C)(h:Q (some (.ref C)) {s with toks:=s.toks+1}):
  wpAny (model prog w) A (getAttr? (.ref a) "__class__") Q E s:=by
 obtain⟨hh,g,d,t,os⟩:=s;have L0:=J.type (M:=model prog w);have L1:=oX (M:=model prog w) kin F.ga;have L2:=oX (M:=model prog w) kin F.hook;have hf:qM K C od "__class__"=some (.bind (.builtin "getset_descriptor.__get__") (.builtin "object.__class__")):=by
  obtain⟨cd,hc⟩:=ck.mp F.isc;unfold qM;rw[hc,eM,F.cl,eM];simp[F.get,F.tk]
 have L3:=looks_find (M:=model prog w) kin J hf;have L4:=looks_mroIn (M:=model prog w) kin F.bex;unfold getAttr? getAttrBy? getAttrBy;refine aa (wpAny_mkText (aa (gX (bz (aa (L0.at (aa (L1.at ?_))))))));show wpAny _ _ (if(yZ (.ref C)&&(gH "BaseException.__getattribute__"==gH "object.__getattribute__"))=true then _ else _) _ _ _;rw[ga_ne,ee,if_neg aB];unfold getAttrByItsOwn hookBefore;rw[if_pos (show yZ (.ref C)=true from rfl)];refine aa (L2.at ?_);unfold callGetattribute boundAndCalled;rw[cN,if_neg aB];refine aa (gX (bz (aa ?_)));rw[fk.ga.bind (.ref a)];refine ai (fH (Dl (s:=⟨hh,g,d,t+1,os⟩) kin J F ?_));exact handed_on rfl (ai h)
end
abbrev bmV:List Value:=[.type "ValueError",.type "Exception",.type "BaseException",.type "object"]
noncomputable def qb(a:Addr)(c:Value)(d:Option Addr):HO:=.ext fun h=>∃o,h.get? a=some o/\o.cls=c/\o.dict=d/\notCls o=true
noncomputable abbrev excO(a:Addr)(c:Value):HO:=qb a c none
section
variable {K:ae}{a C:Addr}
theorem FT(F:sN K C):KitX K (.ref a) (.ref C) (fun h=>∃o od,InstAt h a o C od) where
 ty:=fun M h _ p=>by obtain⟨o,od,J⟩:=p;exact J.type
 it:=fun M h kin _=>by
  obtain⟨cd,hc⟩:=ck.mp F.isc;unfold clsIn at hc;split at hc
  ·rename_i ho
   intro A Q E s k q;unfold isType loadHead;exact aa (qx (k _ _ (kin _ _ ho)) (ai q))
  ·cases hc
 ne:=fun h tp dd its n sl kin htp=>by
  obtain⟨cd,hc⟩:=ck.mp F.isc;refine Bool.eq_false_iff.mpr fun q=>?_;obtain rfl:C=tp:=aX.inj (beq_iff_eq.mp q);unfold clsIn at hc;split at hc
  ·rename_i ho
   have z:=(kin _ _ ho).symm.trans htp;cases z
  ·cases hc
 ca:=fun kin p k=>by obtain⟨o,od,J⟩:=p;exact C5 kin J F k
theorem Ap{P:Program}{w:World}{H:Hp}{h:Heap}{d:Option Addr}(ok:HOk P w H h)(e:H a=some (qb a (.ref C) d))(hd:∀dd,d=some dd->∃φ,H dd=some (.ext φ)):∃o od,InstAt h a o C od:=by
 obtain⟨⟨o,e1,e2,e3,e4⟩,_⟩:=ok a _ e;cases d with
 |none=>exact⟨o,none,e1,e2,e4,by rw[e3];exact True.intro⟩
 |some dd=>
  obtain⟨u,hu⟩:=hd dd rfl;obtain⟨od,z⟩:=(ok dd _ hu).2.1;exact⟨o,some od,e1,e2,e4,by rw[e3];exact z⟩
end
section
variable {X:Cx}
theorem exc_obj{K:ae}{h:Heap}{C:Addr}{bmB:List Value}{newId:String}(kin:K.In h)(q:excIn K C bmB newId=true):
  ∃nm qn N bs bm hd sn sub ab col dd k0 k1 k2 k3 k5 mN,h.get? C=some (ic nm qn C N bs bm hd sn sub ab col dd k0 k1 k2 k3 k5 newId)/\h.Ns N mN/\mN "__init__"=none/\OwnTail h bmB bm:=by
 unfold excIn at q;split at q
 case h_2=>cases q
 rename_i od cd sl ho;split at q
 case h_2=>cases q
 rename_i C' bm j0 j1 j2 j3 n j5 hm hs;rw[ag,ag,ag,ag,ag,beq_iff_eq,beq_iff_eq,beq_iff_eq]at q;obtain⟨⟨⟨⟨⟨e1,e2⟩,e3⟩,e4⟩,e5⟩,e6⟩:=q;subst e1;subst e2;obtain⟨c1,c2,c3,c4,c5,c6,c7,c8,c9,c10,c11⟩:=cd;have e7:c3=.ref C'::bm:=hm;have e8:c11=false:=by simpa using e3
 have e9:sl= #[j0,j1,j2,j3,some (.builtin n),j5]:=by
  apply xk
  exact hs
 subst e7;subst e8;subst e9;exact⟨_,_,_,_,_,_,_,_,_,_,_,_,_,_,_,_,_,kin _ _ ho,.of_isNs (isNs_of_in kin e5),nsMap_none_of_in kin e5 e6,tail_of_in kin e4⟩
theorem EV{x:Str}{e:Expr}{es:List Expr}{t:TA}{C:Addr}{np cpos pos:Pos}{E:St->XK}(hg:Gl X x)(hm:X.mg x=some (.ref C))(hk:keepIn X.K (.ref C)=true)(hq:excIn X.K C bmV "ValueError.__new__"=true)(ha:PA X (e::es) t)(hc:X.calm=true)(hdb:(x==("__debug__":Str))=false)
  (hst:aM (e::es) X.env=(false,eval e X.env)::aM es X.env)(hpl:(backTo cpos (aM es X.env)).any (·.1)=false)
  (made:∀pins σ H s a c args h',Inv X pins σ H s->nM s.heap h' a c args->E σ c none H->X.xe (.ref a) {s with heap:=h'}):
  PS X (.Raise (some (.Call (.Name x np) (e::es) [] cpos)) none pos) (fun D σ H=>t σ H fun vs H1=>vs.length<=sizeLine/\E σ (.ref C) none H1):=by
 intro pins s σ H D I h;obtain⟨nm,qn,N,bs,bm,hd,sn,sub,ab,col,dd,k0,k1,k2,k3,k5,mN,hC,hN,hni,T⟩:=exc_obj (bmB:=bmV) I.mod.kin hq;have hbase:bm.contains (.type "BaseException")=true:=T.hasType (by decide+kernel);rw[arm_exec_Raise];show wpAny _ _ (do wU pos;raiseStmt X.env (some (do let v<-eval (.Call (.Name x np) (e::es) [] cpos) X.env;wU pos;pure v)) none) _ _ s;refine aa (fP (wpAny_raiseStmt_made_sub (C:=C) (nm:=nm) (q:=qn) (N:=N) (bs:=bs) (bm:=bm) (hdct:=hd) (sn:=sn) (sub:=sub) (ab:=ab) (col:=col) (dd:=dd) (k0:=k0) (k1:=k1) (k2:=k2) (k3:=k3) (k5:=k5) (newId:="ValueError.__new__") hbase (I.ok.hd hc) (aa (cH (Q:=fun v s1=>∃a u,v=.ref a/\s1.heap.get? C=some (ic nm qn C N bs bm hd sn sub ab col dd k0 k1 k2 k3 k5 "ValueError.__new__")/\s1.heap.get? a=some {cls:=.ref C,data:=.fields #[.ref u,.none,.none,.none,.bool false,.none]}/\X.xe (.ref a) s1) (E:=X.xe) ?_ (fun v s1 z=>aa (fP (ai z))) fun _ _ z=>z))));refine dN (jt I hg hm ?_ hdb);refine jk (h₀:=X.base) I.ok.mod.kin hk (thn (ha cpos pins s σ H _ I h) fun us s1 ⟨vs,H1,I1,r,hlen,q⟩=>⟨I1.kIn,?_⟩) hst hpl;have hC1:=I1.bk _ _ hC;obtain⟨hh,gg,dr,tk,os⟩:=s1;refine wpAny_call_exc_subT (hrest:=by rw[fo,<-r.length];exact hlen) jl (T.keeps I1.bk) hC1 (hN.keeps I1.bk) hni fun h' a hmk=>?_;obtain⟨u,hu,_,_⟩:=hmk.there;exact⟨a,u,rfl,hmk.keeps _ _ hC1,hu,made pins σ H1 _ a _ _ h' I1 hmk q⟩
end
noncomputable def Cx.re(X:Cx)(A:Around)(calm:Bool)(pn:List (Addr×Obj))(xe:Value->Shared->Prop):Cx:={X with A:=A,calm:=calm,pn:=pn,xe:=xe}
section
variable {X:Cx}{pins:List (Addr×Obj)}{σ:St}{H:Hp}{s:Shared}
theorem Inv.re{A:Around}{calm:Bool}{pn pins':List (Addr×Obj)}{xe:Value->Shared->Prop}(I:Inv X pins σ H s)(hA:A.frames=X.A.frames)(hc:calm=true->A.handled=none)(hp:∀p∈pn++pins',p∈X.pn++pins):
  Inv (X.re A calm pn xe) pins' σ H s:=
 ⟨⟨I.ok.mod,I.ok.kind,I.ok.glob,I.ok.blt,I.ok.above,I.ok.inj,I.ok.has,I.ok.cab,hc,hA.trans I.ok.frames,I.ok.stk,I.ok.exf,I.ok.bs,I.ok.bsz,I.ok.noex,I.ok.exfs,I.ok.r9,I.ok.frf⟩,
  I.os,I.bare,I.base,I.loc,I.cell,I.free,I.freeC,fun p q=>I.pin p (hp p q),I.hok,I.len⟩
theorem Inv.DV{A:Around}{calm:Bool}{pn pins':List (Addr×Obj)}{xe:Value->Shared->Prop}(ok:X.Ok)(I:Inv (X.re A calm pn xe) pins' σ H s)(hp:∀p∈X.pn++pins,p∈pn++pins'):Inv X pins σ H s:=
 ⟨ok,I.os,I.bare,I.base,I.loc,I.cell,I.free,I.freeC,fun p q=>I.pin p (hp p q),I.hok,I.len⟩
theorem mm{M:Model}{A:Around}{E:Value->Shared->Prop}{i:Nat}{n:Str}{pos:Pos}{Q:Unit->Shared->Prop}(I:Inv X pins σ H s)(hN:X.N.Nodup)(hi:X.N[i]? =some n)(hk:X.env.scope.names.lookup n=some .local)
  (h:∀s',Inv X pins (σ.set i none) H s'->Q () s'):wpAny M A (do bindName X.env n .none;unbindBehindTheSuite X.env n pos) Q E s:=by
 obtain⟨m,hn,hl⟩:=id I.loc;have hcls:(X.env.scope.kind== .class||(X.env.scope.kind== .module&&X.env.locals != X.env.globals))=false:=by rw[I.ok.kind];rfl
 obtain⟨oL,_,_,hoL,_⟩:=id hn;refine wpAny_nameGoes_keeps hk hn hcls fun h' v hn' hs=>h _ ?_;have up:∀b o,X.s₀.heap.get? b=some o->b≠X.env.locals:=fun b o e=>aE (aZ (ax e) I.ok.above);refine⟨I.ok,I.os,I.bare,⟨fun b o e n hb hx=>(hs.2 b (up b o e)).trans (I.base.keep b o e n hb hx),fun b o e n hb hx=>?_,I.base.free,fun b o e hx=>?_,I.base.tups,I.base.frzs,I.base.tbls⟩,⟨_,hn',fun j y v' e1 e2 e3=>?_⟩,fun y c e=>?_,I.free,I.freeC,fun p hp=>?_,fun b ob e=>?_,by simpa using I.len⟩
 ·obtain⟨sl,e1⟩:=I.base.slot b o e n hb hx
  exact⟨sl,(hs.2 b (up b o e)).trans e1⟩
 ·obtain⟨o',e1⟩:=I.base.there b o e hx
  exact⟨o',(hs.2 b (up b o e)).trans e1⟩
 ·by_cases hj:j=i
  ·subst hj
   rw[List.getElem?_set]at e2;split at e2
   ·split at e2<;>cases e2
   ·exact absurd rfl (by assumption)
  ·rw[nK (bK hj)]at e2
   obtain⟨u',r',q⟩:=hl j y v' e1 e2 e3;refine⟨u',r',?_⟩;rcases q with⟨k,e⟩ |⟨k,c,e,z⟩
   ·refine .inl ⟨k,?_⟩
    have :y≠n:=fun e=>hj (rK hN e1 (e▸hi));simp[this,e]
   ·exact .inr ⟨k,c,e,z.sameBut hs (I.cne y c e)⟩
 ·obtain⟨w',z⟩:=I.cell y c e
  exact⟨w',z.sameBut hs (I.cne y c e)⟩
 ·obtain⟨e,n,ne,nf,d⟩:=I.pin p hp
  exact⟨(hs.2 p.1 ne).trans e,n,ne,nf,d⟩
 ·refine(I.hok b ob e).pb (fun c w' hc q=>(hs.2 c ?_).trans q) (fun _ q=>q) fun _ _ q=>q
  have hf:=I.free;rintro rfl;rcases hc with z|z
  ·rw[<-z,hf]at e;cases e
  ·rw[hf]at z;cases z
theorem Inv.take{a:Addr}{c:Value}{d:Option Addr}(I:Inv X pins σ H s)(hx:X.ex=[])(F:Fly X.s₀.heap s.heap H (X.pn++pins) a c d):Inv X pins σ (upd H a (qb a c d)) s:=by
 obtain⟨⟨T,oe,vs,oT,ts,he,ec,ed,hd,_⟩,hna,hHa,hp⟩:=F;obtain⟨ra1,ra2⟩:=I.rB he hd;refine⟨I.ok,I.os,I.bare,⟨I.base.keep,I.base.slot,fun b o e n hb=>?_,I.base.there,fun b xs e=>?_,fun b o u e=>?_,fun b ps e=>?_⟩,I.loc,I.cell,?_,fun x c' e=>?_,fun p q=>?_,fun b u e=>?_,I.len⟩
 ·rw[aN (fun z=>by rw[z,hna]at e;cases e)]
  exact I.base.free b o e n hb
 ·have q:=I.base.tups b xs e
  rw[aN (bG q hHa)];exact q
 ·have q:=I.base.frzs b o u e
  rw[aN (bG q hHa)];exact q
 ·obtain⟨more,q⟩:=I.base.tbls b ps e
  exact⟨more,by rw[aN (bG q hHa)];exact q⟩
 ·rw[aN (bK ra1)]
  exact I.free
 ·rw[aN (ra2 x c' e)]
  exact I.freeC x c' e
 ·obtain⟨e,n,ne,nf,d⟩:=I.pin p q
  exact⟨e,by rw[aN (hp p q)];exact n,ne,nf,d⟩
 ·by_cases hb:b=a
  ·subst hb
   rw[aq]at e;cases e;refine⟨⟨oe,he,ec,ed,by unfold notCls;rw[hd]⟩,⟨oe,he⟩,fun h1 h2 p k=>?_⟩;obtain⟨o,e1,r⟩:=p;exact⟨o,k o e1,r⟩
  ·rw[aN hb]at e
   exact(I.hok b u e).pb (fun _ _ _ q=>q) (fun c' q=>by rw[aN (bG q hHa)];exact q) fun c' xs q=>by rw[aN (bG q hHa)];exact q
end
noncomputable def Ends.drop(D:Ends)(i:Nat):Ends:={nx:=fun σ H=>D.nx (σ.set i none) H,rt:=D.rt,bk:=fun σ H=>D.bk (σ.set i none) H,ct:=fun σ H=>D.ct (σ.set i none) H}
noncomputable def pE(K:ae)(C:Addr)(i:Nat)(ts:TS)(D:Ends):St->XK:=fun σ c d H=>
 c=c/\exmOne K c (.ref C)=some true/\∀a,H a=none->ts (D.drop i) (σ.set i (some (.ref a))) (upd H a (qb a c d))
noncomputable def iW(X:Cx)(pins:List (Addr×Obj))(D:Ends)(hs:List ExceptHandler):Value->Shared->Prop:=fun e s1=>
 wpAny (model X.prog X.w) X.A (kU e X.env) (fun _ s2=>wpAny (model X.prog X.w) X.A (yX e none) (fun _ s3=>wpAny (model X.prog X.w) X.A (handleBy e X.env hs) (SP X pins D) X.xe s3) X.xe s2) X.xe s1
section
variable {X:Cx}{pins:List (Addr×Obj)}{σ:St}{H:Hp}{s:Shared}{x n:Str}{C:Addr}{i:Nat}{b₀:Stmt}{suite:List Stmt}{np hpos pos:Pos}{ts:TS}{D:Ends}
structure yU(X:Cx)(x n:Str)(C:Addr)(i:Nat)(suite:List Stmt)(ts:TS):Prop where
 nd:X.N.Nodup
 at_:X.N[i]? =some n
 loc:X.env.scope.names.lookup n=some .local
 gl:Gl X x
 mg:X.mg x=some (.ref C)
 db:(x==("__debug__":Str))=false
 stk:X.stack=X.env::X.outer
 fr:X.env.frame=some X.env.locals
 ex:X.ex=[]
 su:∀(pins:List (Addr×Obj))(a:Addr),PSs (X.re (X.A.mark (some (.ref a))) false (X.pn++pins) (fun _ _=>False)) suite ts
theorem pF{a:Addr}{c:Value}{d:Option Addr}(O:yU X x n C i (b₀::suite) ts)(I:Inv X pins σ H s)(F:Fly X.s₀.heap s.heap H (X.pn++pins) a c d)(h:pE X.K C i ts D σ c d H):
  wpAny (model X.prog X.w) X.A (handleBy (.ref a) X.env [.ExceptHandler (some (.Name x np)) (some n) (b₀::suite) hpos]) (SP X pins D) X.xe s:=by
 obtain⟨_,hm,hk⟩:=h;obtain⟨⟨T,oe,vs,oT,tv,he,ec,ed,hd,h1,hTa,hT,hdT,h3,hnT,hHT,hpT⟩,hna,hHa,hp⟩:=F;refine wpAny_handleBy_cons (codeAny_handlers_test ?_) (by intro q;cases q);have I0:Inv (X.re (X.A.mark (some (.ref a))) false (X.pn++pins) (fun _ _=>False)) [] σ H s:=I.re rfl (fun z=>nomatch z) fun p q=>by simpa using q
 refine jt I0 O.gl O.mg ?_ O.db;have LT:Looks (model X.prog X.w) s.heap (typeOf (.ref a)) c:=ec▸(Looks.ld he).andThen .now;refine(exm_one I.kIn LT hm).here (codeAny_handlers_suite_as ?_);refine wpAny_setFlight_none he hd h1 hT hdT (cu.mp h3).1 ?_;obtain⟨rt1,rt2⟩:=I.rB hT hdT;have I1:=I.qD (t':=s.toks) (h':=s.heap.update T (eJ (·.setIfInBounds 3 .none))) (fun b o hb e=>by rw[aD _ _ (bK hb)];exact e) hHT rt1 hnT rt2 hpT;have F1:Fly X.s₀.heap (s.heap.update T (eJ (·.setIfInBounds 3 .none))) H (X.pn++pins) a c d:=by
  refine⟨⟨T,oe,vs,_,_,by rw[aD _ _ hTa];exact he,ec,ed,hd,h1,hTa,bF _ hT (iE (ek hdT _)),ek hdT _,?_,hnT,hHT,hpT⟩,hna,hHa,hp⟩;rw[mY (cu.mp h3).1]
 have I2:=I1.take O.ex F1;refine qY I2 O.nd O.at_ (.inl O.loc) (v:=.ref a) rfl (fun s3 I3=>?_) (.inr O.loc);have I4:Inv (X.re (X.A.mark (some (.ref a))) false (X.pn++pins) (fun _ _=>False)) [] (σ.set i (some (.ref a))) (upd H a (qb a c d)) s3:=I3.re rfl (fun z=>nomatch z) fun p q=>by simpa using q
 refine cH (O.su pins a [] s3 _ _ (D.drop i) I4 (hk a hHa)) (fun f s4 q=>?_) fun _ _ z=>z.elim;have back:∀{σ':St}{H':Hp},Inv (X.re (X.A.mark (some (.ref a))) false (X.pn++pins) (fun _ _=>False)) [] σ' H' s4->Inv X pins σ' H' s4:=fun{σ' H'} J=>J.DV I.ok fun p q=>by simpa using q
 cases f with
 |next =>
  obtain⟨σ',H',J,q⟩:=q;exact mm (back J) O.nd O.at_ O.loc fun s5 J5=>⟨_,_,J5,q⟩
 |brk=>
  obtain⟨σ',H',J,q⟩:=q;exact mm (back J) O.nd O.at_ O.loc fun s5 J5=>⟨_,_,J5,q⟩
 |cont=>
  obtain⟨σ',H',J,q⟩:=q;exact mm (back J) O.nd O.at_ O.loc fun s5 J5=>⟨_,_,J5,q⟩
 |ret u=>
  obtain⟨v,σ',H',J,rv,q⟩:=q;exact mm (back J) O.nd O.at_ O.loc fun s5 J5=>⟨v,_,_,J5,rv,q⟩
theorem DX(O:yU X x n C i (b₀::suite) ts){pins':List (Addr×Obj)}{e:Value}{s':Shared}(ok:X.Ok)(hc:X.calm=true)
  (I:Inv (X.re X.A X.calm (X.pn++pins) (iW X pins D [.ExceptHandler (some (.Name x np)) (some n) (b₀::suite) hpos])) pins' σ H s)(h:CXx X.prog X.w X.stack H s (pE X.K C i ts D σ) e s'):
  iW X pins D [.ExceptHandler (some (.Name x np)) (some n) (b₀::suite) hpos] e s':=by
 obtain⟨a,c,d,H',rfl,ho,hg,u,hok,F,q⟩:=h;have J:Inv X pins σ H s:=I.DV ok fun p z=>dM _ z;exact xY J O.stk O.fr O.ex ho hg u hok F fun s2 I2 F2=>pF O I2 F2 q
theorem DY(O:yU X x n C i (b₀::suite) ts){pins':List (Addr×Obj)}{a:Addr}{c:Value}{args:List Value}{h':Heap}(ok:X.Ok)
  (I:Inv (X.re X.A X.calm (X.pn++pins) (iW X pins D [.ExceptHandler (some (.Name x np)) (some n) (b₀::suite) hpos])) pins' σ H s)(hm:nM s.heap h' a c args)(h:pE X.K C i ts D σ c none H):
  iW X pins D [.ExceptHandler (some (.Name x np)) (some n) (b₀::suite) hpos] (.ref a) {s with heap:=h'}:=by
 have J:Inv X pins σ H s:=I.DV ok fun p z=>dM _ z;exact xX J O.stk O.fr O.ex hm fun s2 I2 F2=>pF O I2 F2 h
theorem ps_try{body:List Stmt}{tb:Ends->TS}(hb:∀pins D,X.Ok->PSs (X.re X.A X.calm (X.pn++pins) (iW X pins D [.ExceptHandler (some (.Name x np)) (some n) (b₀::suite) hpos])) body (tb D)):
  PS X (.Try body [.ExceptHandler (some (.Name x np)) (some n) (b₀::suite) hpos] [] [] pos) (fun D σ H=>tb D D σ H):=by
 intro pins s σ H D I h;have I0:Inv (X.re X.A X.calm (X.pn++pins) (iW X pins D [.ExceptHandler (some (.Name x np)) (some n) (b₀::suite) hpos])) [] σ H s:=I.re rfl I.ok.hd fun p q=>by simpa using q
 refine wpAny_Try_except (cH (hb pins D I.ok [] s σ H D I0 h) (fun f s1 q=>?_) fun e s1 q=>q);have back:∀{σ':St}{H':Hp},Inv (X.re X.A X.calm (X.pn++pins) (iW X pins D [.ExceptHandler (some (.Name x np)) (some n) (b₀::suite) hpos])) [] σ' H' s1->Inv X pins σ' H' s1:=fun{σ' H'} J=>J.DV I.ok fun p q=>by simpa using q
 cases f with
 |next =>
  obtain⟨σ',H',J,q⟩:=q;exact vH pins s1 σ' H' D (back J) q
 |brk=>
  obtain⟨σ',H',J,q⟩:=q;exact⟨_,_,back J,q⟩
 |cont=>
  obtain⟨σ',H',J,q⟩:=q;exact⟨_,_,back J,q⟩
 |ret u=>
  obtain⟨v,σ',H',J,rv,q⟩:=q;exact⟨v,_,_,back J,rv,q⟩
end
noncomputable abbrev XS:=St->XK
noncomputable abbrev N0:XS:=fun _=>E0
noncomputable def mV(CX:CXT)(X:Cx)(E:XS):Prop:=∀(pins:List (Addr×Obj))(σ:St)(H:Hp)(s:Shared)(e:Value)(s':Shared),Inv X pins σ H s->CX X.stack H s (E σ) e s'->X.xe e s'
noncomputable def MadeS(X:Cx)(E:XS):Prop:=∀(pins:List (Addr×Obj))(σ:St)(H:Hp)(s:Shared)(a:Addr)(c:Value)(args:List Value)(h':Heap),Inv X pins σ H s->nM s.heap h' a c args->E σ c none H->X.xe (.ref a) {s with heap:=h'}
section
variable {X:Cx}{CX:CXT}{k:Nat}{f:Addr}{fd:dI}{ps:List Str}{sp:Sp}{dvs:List V}{ds:List Value}{E:XS}{x:Str}{p pos:Pos}{e:Expr}{es:List Expr}{t:TA}
theorem qE{pins:List (Addr×Obj)}{σ:St}{H:Hp}{s:Shared}{Q:VK}{us:List Value}{vs:List V}(F:fX X.prog X.w X.K X.mg X.base CX k f fd ps sp)(hr:gC k X.A)(hb:Binds X.K fd ps ds)(hd:bM dvs ds)(hx:mV CX X E)
  (I:Inv X pins σ H s)(r:bM vs us)(h:sp (vs++dvs) H Q (E σ)):wpAny (model X.prog X.w) X.A (call (.ref f) us) (EP X pins σ Q) X.xe s:=by
 have r2:bM (vs++dvs) (us++ds):=r.append hd;have hl:(us++ds).length=ps.length:=r2.length.symm.trans (F.len _ _ _ _ h);refine fH (gM (F.run X.A X.stack s H ⟨us,[]⟩ (us++ds) (vs++dvs) Q (E σ) hr I.env0 (hb s us I.kIn hl) r2 h) fun r s' hq=>?_);cases r with
 |error e=>exact hx pins σ H s e s' I hq
 |ok fl=>cases fl<;>first |exact I.after hq|exact d8 hq
theorem xN(F:fX X.prog X.w X.K X.mg X.base CX k f fd ps sp)(hr:gC k X.A)(hg:Gl X x)(hm:X.mg x=some (.ref f))(hk:bA X.K (.ref f)=true)(hb:Binds X.K fd ps ds)(hd:bM dvs ds)(hx:mV CX X E)
  (ha:PA X (e::es) t)(hdb:(x==("__debug__":Str))=false)(he:aM (e::es) X.env=(false,eval e X.env)::aM es X.env)(hpl:(backTo pos (aM es X.env)).any (·.1)=false):
  PE X (.Call (.Name x p) (e::es) [] pos) (fun σ H Q=>xE sp dvs (E σ) t σ H Q):=by
 intro pins s σ H Q I h;refine dN (jt I hg hm ?_ hdb);exact jk (h₀:=X.base) I.ok.mod.kin hk (thn (ha pos pins s σ H _ I h) fun us s1 ⟨vs,H1,I1,r,q⟩=>⟨I1.kIn,qE F hr hb hd hx I1 r q⟩) he hpl
theorem tZ(F:fX X.prog X.w X.K X.mg X.base CX k f fd ps sp)(hr:gC k X.A)(hg:Gl X x)(hm:X.mg x=some (.ref f))(hk:bA X.K (.ref f)=true)(hb:Binds X.K fd ps ds)(hd:bM dvs ds)(hx:mV CX X E)
  (hdb:(x==("__debug__":Str))=false):PE X (.Call (.Name x p) [] [] pos) (fun σ H Q=>xE sp dvs (E σ) iG σ H Q):=by
 intro pins s σ H Q I h;refine dN (jt I hg hm ?_ hdb);exact nF I.kIn hk (qE (us:=[]) F hr hb hd hx I .nil h)
end
section
variable {P:Program}{w:World}{K:ae}{mg:Str->Option Value}{base:Heap}
theorem uS{N:List Str}{qual:Str}{scope:Scope}{f:Addr}{cd:Value}{A:Around}{outer:List Env}{s:Shared}{H:Hp}{E:XK}:
  mV (CXx P w) (tF (CXx P w) P w K mg base N qual scope f cd A outer s H E) (fun _=>E):=by
 intro pins σ H1 s1 e s' I h;obtain⟨a,c,d,H',rfl,ho,hg,u,hok,F,q⟩:=h;show wpAny _ _ (leaving _ _) _ _ _;unfold leaving;refine aa (xY I rfl rfl rfl ho hg u hok F fun s2 I2 F2=>?_);obtain⟨⟨T,oe,vs,oT,ts,h1,h2,h3,h4,h5,h6,h7,h8,h9,h10,h11,_⟩,b1,b2,_⟩:=F2;exact⟨a,c,d,H',rfl,I2.os,I2.bare,I2.base,I2.hok,⟨⟨T,oe,vs,oT,ts,h1,h2,h3,h4,h5,h6,h7,h8,h9,h10,h11,fun _ z=>nomatch z⟩,b1,b2,fun _ z=>nomatch z⟩,q⟩
theorem uT{N:List Str}{qual:Str}{scope:Scope}{f:Addr}{cd:Value}{A:Around}{outer:List Env}{s:Shared}{H:Hp}{E:XK}:
  MadeS (tF (CXx P w) P w K mg base N qual scope f cd A outer s H E) (fun _=>E):=by
 intro pins σ H1 s1 a c args h' I hm q;show wpAny _ _ (leaving _ _) _ _ _;unfold leaving;refine aa (xX I rfl rfl rfl hm fun s2 I2 F2=>?_);obtain⟨⟨T,oe,vs,oT,ts,h1,h2,h3,h4,h5,h6,h7,h8,h9,h10,h11,_⟩,b1,b2,_⟩:=F2;exact⟨a,c,none,H1,rfl,I2.os,I2.bare,I2.base,I2.hok,⟨⟨T,oe,vs,oT,ts,h1,h2,h3,h4,h5,h6,h7,h8,h9,h10,h11,fun _ z=>nomatch z⟩,b1,b2,fun _ z=>nomatch z⟩,q⟩
theorem C6{o:List Env}{H:Hp}{s:Shared}{e:Value}{s':Shared}(h:CXx P w o H s E0 e s'):False:=by
 obtain⟨_,_,_,_,_,_,_,_,_,_,q⟩:=h;exact q
theorem fX.calm{k:Nat}{f:Addr}{fd:dI}{ps:List Str}{sp:Sp}(F:fX P w K mg base (CXx P w) k f fd ps sp):fX P w K mg base CX0 k f fd ps (fun vs H Q _=>sp vs H Q E0):=
 ⟨fun vs H Q E h=>F.len vs H Q E0 h,fun A outer s H args us vs Q E hr he hb hv hs=>gM (F.run A outer s H args us vs Q E0 hr he hb hv hs) fun r s' q=>by
  cases r with
  |error e=>exact C6 q
  |ok fl=>cases fl<;>exact q⟩
end
end L2
namespace Q
open PySem PySem.Spec PySem.W PyProof.Rows L2
noncomputable def fK(lt:Nat->Nat->Bool)(vs:List Value):List Value:=if vs.length<2 then vs else(run lt (dh vs.length)).toList.map fun i=>vs.getD i .none
noncomputable def Dv(prog:Program)(w:World)(A:Around)(lt:Nat->Nat->Bool)(vs:List Value)(h0:Heap):Prop:=
 ∀s1:Shared,(∀b o,h0.get? b=some o->s1.heap.get? b=some o)->
  ∃κ,(∀(Q':SortKind->Shared->Prop)(E':Value->Shared->Prop),Q' κ s1->wpAny (model prog w) A (keyKind' vs.toArray) Q' E' s1)/\
   ∀i j (C:Bool->Shared->Prop),i<vs.length->j<vs.length->i≠j->C (lt i j) s1->kas_ask prog w A κ vs i j C s1
section
variable {prog:Program}{w:World}{A:Around}{E:Value->Shared->Prop}{s:Shared}{lt:Nat->Nat->Bool}{vs:List Value}
theorem fb{n:Nat}(h:n<64):n<=sizeLine:=by rw[jQ];omega
theorem AL{n:Nat}(h:n<64):n<=sizeLine+1:=cG (fb h)
theorem AK{a:Addr}{n:Nat}{h0:Heap}{P:dB->Shared->Prop}(T:Tot lt vs.length)(ho:s.heap.get? a=some (seqObj "list" vs.toArray n))(k0:∀b o,h0.get? b=some o->s.heap.get? b=some o/\b≠a)(h64:vs.length<64)
  (ask:2<=vs.length->Dv prog w A lt vs h0)(h:P (.done (.ret .none)) {s with heap:=sortedHeap s.heap a vs (fK lt vs).toArray}):wpAny (model prog w) A (Builtin.«list.sort» ⟨[.ref a],[]⟩) P E s:=by
 have hv:vs.toArray.size=vs.length:=by simp
 obtain⟨c,hc⟩:∃c,(s.heap.update a (aW fun _=> #[])).get? a=some (seqObj "list" #[] c):=⟨_,oZ ho _⟩;have hc':(((s.heap.update a (aW fun _=> #[])).push (seqObj "tuple" vs.toArray 0)).push (seqObj "list" #[] 0)).get? a=some (seqObj "list" #[] c):=af _ (af _ hc);have keep:∀b o,h0.get? b=some o->(((s.heap.update a (aW fun _=> #[])).push (seqObj "tuple" vs.toArray 0)).push (seqObj "list" #[] 0)).get? b=some o:=fun b o e=>
  af _ (af _ ((aD _ _ (bK (k0 b o e).2)).trans (k0 b o e).1))
 rw[list_sort_plain];refine aa (listItems_at ho rfl (aa (eU ho rfl ?_ (by rw[hv];exact fb h64) (bp _))));refine aa (qA hc rfl (aa (wpAny_newTuple ?_ (show vs.length<=_ from fb h64))));refine aa (mG (bz ?_) (bp _));by_cases hn:vs.length<2
 ·have e:fK lt vs=vs:=if_pos hn
  rw[e]at h;dsimp only;rw[if_pos (by rw[hv];exact hn),if_pos (by rw[hv];exact hn)];refine aa (ai (aa ?_));rw[StateT.run_pure];refine ai (aa (qA hc' rfl (aa (eU hc' rfl ?_ (bp _) ?_))))
  ·have e2:(arrOf (SortSt.mk' general' (vs.toArray.zip vs.toArray) #[] 7 none)).map (·.2)=vs.toArray:=by
    show(vs.toArray.zip vs.toArray).map (·.2)=vs.toArray;apply xk;simp[List.map_snd_zip]
   rw[e2];have e3:failedOf ((),SortSt.mk' general' (vs.toArray.zip vs.toArray) #[] 7 none).snd=none:=rfl;rw[e3];simp only[bne_self_eq_false,aL,if_false];exact ai h
  ·show((vs.toArray.zip vs.toArray).map (·.2)).size<=_
   rw[Array.size_map,Array.size_zip,hv,DG];exact cG (fb h64)
 ·have h2:2<=vs.length:=by omega
  have e:fK lt vs=(run lt (dh vs.length)).toList.map fun i=>vs.getD i .none:=if_neg hn;rw[e]at h;dsimp only;rw[if_neg (by rw[hv];exact hn),if_neg (by rw[hv];exact hn)];obtain⟨κ,hk1,hk2⟩:=ask h2 {s with heap:=((s.heap.update a (aW fun _=> #[])).push (seqObj "tuple" vs.toArray 0)).push (seqObj "list" #[] 0)} keep;obtain⟨P1,U1,O1⟩:=fw T (by omega:1<=vs.length);refine aa (hk1 _ _ (aa ?_));have key:=kat_run (prog:=prog) (w:=w) (A:=A) (E:=E) (κ:=κ) (ks:=vs) (vs:=vs) (s:={s with heap:=((s.heap.update a (aW fun _=> #[])).push (seqObj "tuple" vs.toArray 0)).push (seqObj "list" #[] 0)})
   (Q:=fun st' s'=>s'={s with heap:=((s.heap.update a (aW fun _=> #[])).push (seqObj "tuple" vs.toArray 0)).push (seqObj "list" #[] 0)}/\arrOf st'=(run lt (dh vs.length)).map (kas_item (vs.toArray.zip vs.toArray))/\failedOf st'=none)
   (G:=fun p s'=>s'={s with heap:=((s.heap.update a (aW fun _=> #[])).push (seqObj "tuple" vs.toArray 0)).push (seqObj "list" #[] 0)}/\p=run lt (dh vs.length)) rfl h2 h64
   (fun p st' s' _ e1 e2 e3=>⟨e3.1,by rw[e1,e3.2],e2⟩)
   (wp_run (S:=fun s'=>s'={s with heap:=((s.heap.update a (aW fun _=> #[])).push (seqObj "tuple" vs.toArray 0)).push (seqObj "list" #[] 0)}) (fun i j C s' hi hj hij hs hC=>by
    subst hs;exact hk2 i j C hi hj hij (hC _ rfl)) _ _ O1 rfl fun s' hs=>⟨hs,rfl⟩)
  refine cH key ?_ fun _ _ z=>z;rintro⟨⟨⟩,st'⟩ s' ⟨rfl,har,hf⟩;have hout:=kat_snds (ks:=vs) (vs:=vs) rfl har;dsimp only;rw[hout,hf];have hlen:(dF ((run lt (dh vs.length)).toList.map fun i=>vs.getD i bI)).size<=sizeLine+1:=by
   rw[ay,av,cq,P1.size];exact cG (fb h64)
  refine aa (qA hc' rfl (aa (eU hc' rfl ?_ (bp _) hlen)));simp only[bne_self_eq_false,aL,if_false];exact ai h
theorem tT{l:Addr}{Q:Value->Shared->Prop}(T:Tot lt vs.length)(hl:s.heap.IsList l vs.toArray)(h64:vs.length<64)(ask:2<=vs.length->Dv prog w A.in1.in1 lt vs s.heap)
  (h:Q (.ref (s.heap.objs.size+1)) {s with heap:=sortedAll s.heap vs (fK lt vs).toArray}):wpAny (model prog w) A (call (.builtin "sorted") [.ref l]) Q E s:=by
 refine kj kind_sorted plain_sorted entry_sorted (args_sorted1 _) ?_;unfold Builtin.«sorted»;refine aa (m:=checkCount "sorted" 1 1 _) (ai (aa (collect_list hl (aa (mG ?_ (show vs.length<=_ from fb h64))) (fb h64))));generalize hH:(s.heap.push (seqObj "list" #[] 0)).update s.heap.objs.size (aW (·++vs.toArray))=h1;have hz:h1.objs.size=s.heap.objs.size+1:=by rw[<-hH,lr,Dy]
 have kp:∀b o,s.heap.get? b=some o->h1.get? b=some o:=fun b o e=>by
  have hb:=ax e;rw[<-hH,aD _ _ (cS hb)];exact af _ e
 have hg:(h1.push (seqObj "list" vs.toArray 0)).get? (s.heap.objs.size+1)=some (seqObj "list" vs.toArray 0):=by
  rw[<-hz];exact au _ rfl
 have hq:sortedAll s.heap vs (fK lt vs).toArray=sortedHeap (h1.push (seqObj "list" vs.toArray 0)) (s.heap.objs.size+1) vs (fK lt vs).toArray:=by rw[<-hH];rfl
 rw[hq]at h;show wpAny _ _ _ _ _ {s with heap:=h1.push (seqObj "list" vs.toArray 0)};rw[hz];refine aa (bz (cF Dx ⟨_,hg,rfl⟩ AF (AK T hg (fun b o e=>⟨af _ (kp b o e),aE (bB (ax e))⟩) h64 ask ⟨_,rfl,?_⟩) (args_list_sort _)));exact ai ⟨_,rfl,h⟩
end
noncomputable def tlt(x y:Str):Bool:=decide (x.cps.toList<y.cps.toList)
noncomputable def lG(ks:List Str)(i j:Nat):Bool:=tlt (ks.getD i "") (ks.getD j "")
noncomputable def ord(ks:List Str):List Nat:=if ks.length<2 then aI ks.length else(run (lG ks) (dh ks.length)).toList
noncomputable def sortBy{α:Type}(d:α)(ks:List Str)(ys:List α):List α:=(ord ks).map fun i=>ys.getD i d
theorem str_ext{x y:Str}(h:x.cps.toList=y.cps.toList):x=y:=by
 obtain⟨a⟩:=x;obtain⟨b⟩:=y;have :a=b:=Array.toList_inj.mp h;rw[this]
theorem tO{x y z:Str}(a:tlt x y=true)(b:tlt y z=true):tlt x z=true:=by
 unfold tlt at *;rw[decide_eq_true_eq]at *;exact List.lt_trans a b
theorem tlt_tri{x y:Str}(h:x≠y):tlt x y= !tlt y x:=by
 unfold tlt;by_cases c:x.cps.toList<y.cps.toList
 ·have d:¬y.cps.toList<x.cps.toList:=fun z=>List.lt_irrefl _ (List.lt_trans c z)
  simp[c,d]
 ·by_cases d:y.cps.toList<x.cps.toList
  ·simp[c,d]
  ·exact absurd (str_ext (List.le_antisymm (List.not_lt.mp d) (List.not_lt.mp c))) h
theorem qU{ks:List Str}(nd:ks.Nodup):Tot (lG ks) ks.length where
 tri:=fun i j hi hj h=>tlt_tri fun e=>h (by
  rw[aj,aj,ah hi,ah hj]at e;exact(d7 nd).mp e)
 tr:=fun i j k _ _ _ a b=>tO a b
theorem ord_len(ks:List Str)(nd:ks.Nodup):(ord ks).length=ks.length:=by
 unfold ord;split
 ·simp
 ·rw[cq,(fw (qU nd) (by omega)).1.size]
theorem Fj{ks:List Str}{ys:List V}{vs:List Value}(nd:ks.Nodup)(hl:ks.length=ys.length)(r:bM ys vs):bM (sortBy .non ks ys) (fK (lG ks) vs):=by
 have hlen:=r.length;have e:vs.length=ks.length:=by omega
 unfold fK sortBy ord;rw[e];by_cases c:ks.length<2
 ·rw[if_pos c,if_pos c]
  have e2:(aI ks.length).map (fun i=>ys.getD i V.non)=ys:=by
   rw[hl];apply cE
   ·simp
   ·intro i h1 h2
    simp[h2]
  rw[e2];exact r
 ·rw[if_neg c,if_neg c]
  have P:=(fw (qU nd) (by omega)).1;have all:∀l:List Nat,(∀i∈l,i<ks.length)->bM (l.map fun i=>ys.getD i V.non) (l.map fun i=>vs.getD i bI):=by
   intro l
   induction l with
   |nil=>exact fun _=>.nil
   |cons i l ih=>
    intro h;have hi:i<ys.length:=by have :=h i (.head _);omega
    obtain⟨u,hu,ru⟩:=r.get (ah hi);refine .cons ?_ (ih fun j hj=>h j (.tail _ hj));show L2.RelV (ys.getD i V.non) (vs.getD i bI);rw[aj,ah hi,aj,hu];exact ru
  refine all _ fun i hi=>?_;have m:i∈(aI ks.length).toArray:=P.perm.mem_iff.mp (iS.mp hi);simpa using m
theorem Ef{ks:List Str}{vs:List Value}(r:wX vs ks){i:Nat}(hi:i<ks.length):∃t,vs.getD i .none=.str (ks.getD i "") t:=by
 induction r generalizing i with
 |nil=>exact absurd hi (gQ _)
 |cons y t h ih=>
  cases i with
  |zero=>exact⟨t,rfl⟩
  |succ i=>exact ih (by simpa using hi)
theorem qX{ks:List Str}{vs:List Value}(r:wX vs ks):vs.length=ks.length:=by
 induction r with
 |nil=>rfl
 |cons y t h ih=>simp[ih]
section
variable {prog:Program}{w:World}{A:Around}
theorem Dq{ks:List Str}{vs:List Value}{h0:Heap}(r:wX vs ks)(h2:2<=vs.length):Dv prog w A (lG ks) vs h0:=by
 intro s1 _;refine⟨oneType',fun Q' E' q=>?_,fun i j C hi hj _ q=>?_⟩
 ·match vs,r,h2 with
  |v1::v2::rest,r,_=>
   rw[keyKind_strs r];exact ai q
 ·rw[qX r]at hi hj
  obtain⟨t,e1⟩:=Ef r hi;obtain⟨u,e2⟩:=Ef r hj;unfold kas_ask;rw[e1,e2,keyLt'_oneType];exact oneLt_str q
end
noncomputable def mr(H:Hp)(ys:List V)(ks:List Str):Prop:=Paired (fun v k=>∃a rest,v=V.ref a/\H a=some (.tup (V.str k::rest))) ys ks
noncomputable def rSort(K:ae):List V->Hp->VK->Prop:=fun xs H Q=>∃p ys ks,xs=[V.ref p]/\SqL K H p ys/\ks.length<64/\ks.Nodup/\(ys=ks.map V.str\/mr H ys ks)/\∀l,H l=none->Q (.ref l) (upd H l (.lst (sortBy .non ks ys)))
theorem pU{H:Hp}:∀{ys:List V}{ks:List Str},mr H ys ks->ks.length=ys.length
 |_,_,.nil=>rfl
 |_,_,.cons _ t=>by simp[pU t]
set_option maxHeartbeats 3200000
noncomputable def has(acc:List Key)(k:Key):Bool:=acc.any fun x=>decide (x=k)
theorem gc{acc:List Key}{k:Key}:has acc k=true↔k∈acc:=by
 unfold has;rw[bS];constructor
 ·rintro⟨x,h,e⟩
  rw[<-of_decide_eq_true e];exact h
 ·exact fun h=>⟨k,h,decide_eq_true rfl⟩
noncomputable def more(acc:List Key)(k:Key):List Key:=if has acc k=true then acc else acc++[k]
noncomputable def met(ks:List Key):List Key:=ks.foldl more []
theorem FA(ks:List Key)(k:Key):met (ks++[k])=more (met ks) k:=by unfold met;rw[List.foldl_append];rfl
theorem ya{acc:List Key}{k j:Key}:j∈more acc k↔j∈acc\/j=k:=by
 unfold more;split
 ·rename_i h
  constructor
  ·exact .inl
  ·rintro(z|rfl)
   ·exact z
   ·exact gc.mp h
 ·simp
theorem oj(acc:List Key)(k:Key):(more acc k).length=if has acc k=true then acc.length else acc.length+1:=by
 unfold more;split <;>simp
theorem FD(ks:List Key):(met ks).length<=ks.length:=by
 unfold met;have g:∀(l acc:List Key),(l.foldl more acc).length<=acc.length+l.length:=by
  intro l
  induction l with
  |nil=>intro acc;simp
  |cons k l ih=>
   intro acc;have h1:=ih (more acc k);have h2:=oj acc k;rw[dq,bo];split at h2<;>omega
 simpa using g ks []
theorem kq{ks:List Key}{k:Key}:k∈met ks↔k∈ks:=by
 unfold met;have g:∀(l acc:List Key),k∈l.foldl more acc↔k∈acc\/k∈l:=by
  intro l
  induction l with
  |nil=>intro acc;simp
  |cons j l ih=>
   intro acc;rw[dq,ih,ya,aA,or_assoc]
 simpa using g ks []
theorem Cz{ks:List Key}(h:ks.Nodup):met ks=ks:=by
 unfold met;have g:∀(l acc:List Key),(acc++l).Nodup->l.foldl more acc=acc++l:=by
  intro l
  induction l with
  |nil=>intro acc _;simp
  |cons k l ih=>
   intro acc hn;have hk:k∉acc:=fun z=>(fJ.mp hn).2.2 k z k (.head _) rfl;have e:more acc k=acc++[k]:=if_neg fun z=>hk (gc.mp z);rw[dq,e,ih (acc++[k]) (by simpa using hn)];simp
 simpa using g ks [] (by simpa using h)
theorem Cr(ks:List Key):(met ks).Nodup:=by
 unfold met;have g:∀(l acc:List Key),acc.Nodup->(l.foldl more acc).Nodup:=by
  intro l
  induction l with
  |nil=>intro acc h;exact h
  |cons k l ih=>
   intro acc h;rw[dq];refine ih _ ?_;unfold more;split
   ·exact h
   ·rename_i c
    refine fJ.mpr ⟨h,by simp,fun a ha b hb e=>c ?_⟩;have e2:b=k:=by simpa using hb
    rw[<-e2,<-e];exact gc.mpr ha
 exact g ks [] hW
theorem vU{ks:List Key}(h:(met ks).length=ks.length):ks.Nodup:=by
 have up:∀(l acc:List Key),(l.foldl more acc).length<=acc.length+l.length:=by
  intro l
  induction l with
  |nil=>intro acc;simp
  |cons k l ih=>
   intro acc;have h1:=ih (more acc k);have h2:=oj acc k;rw[dq,bo];split at h2<;>omega
 have g:∀(l acc:List Key),acc.Nodup->(l.foldl more acc).length=acc.length+l.length->(acc++l).Nodup:=by
  intro l
  induction l with
  |nil=>intro acc h _;simpa using h
  |cons k l ih=>
   intro acc hn e;rw[dq,bo]at e;have h1:=up l (more acc k);have h2:=oj acc k;by_cases c:has acc k=true
   ·rw[if_pos c]at h2
    omega
   ·rw[if_neg c]at h2
    have em:more acc k=acc++[k]:=if_neg c;rw[em]at e;have hk:k∉acc:=fun z=>c (gc.mpr z);have hn2:(acc++[k]).Nodup:=fJ.mpr ⟨hn,by simp,fun a ha b hb e=>hk (by
     have e2:b=k:=by simpa using hb
     rw[<-e2,<-e];exact ha)⟩
    have :=ih (acc++[k]) hn2 (by rw[cm,mX];omega)
    simpa using this
 simpa using g ks [] hW (by simpa[met]using h)
theorem met_one{ks:List Key}:(met ks).length<=1↔∀a∈ks,∀b∈ks,a=b:=by
 constructor
 ·intro h a ha b hb
  have ha':=kq.mpr ha;have hb':=kq.mpr hb
  match e:met ks,h with
  | [],_=>rw[e]at ha';cases ha'
  | [x],_=>
   rw[e]at ha' hb';rw[aO.mp ha',aO.mp hb']
 ·intro h
  match e:met ks with
  | []=>simp
  | [x]=>simp
  |x::y::r=>
   have n:=Cr ks;rw[e]at n;have hx:x∈ks:=kq.mp (by rw[e];exact .head _);have hy:y∈ks:=kq.mp (by rw[e];exact .tail _ (.head _));have :=h x hx y hy;rw[this]at n;simp at n
noncomputable abbrev pq(led:Bool):Obj:={cls:=.type "set",dict:=none,data:=.set #[] 0 (.fresh 0 0 led)}
noncomputable def zL(a:Addr)(n:Nat):HO:=.ext fun h=>∃o es ep t,h.get? a=some o/\o.ExactSet/\o.data=.set es ep t/\es.size<fh/\t.fits es.size=true/\es.size=n
theorem we:∀{ks:List Key}{us:List Value},bM (ks.map kV) us->∀(i:Nat)(v:Value),us[i]? =some v->∃k,ks[i]? =some k/\RelV (kV k) v
 | [],_,.nil,i,v,e=>by simp at e
 |k::ks,_,.cons r t,0,v,e=>by
  simp at e;subst e;exact⟨k,rfl,r⟩
 |k::ks,_,.cons r t,i+1,v,e=>we t i v (by simpa using e)
noncomputable def rSet(K:ae):List V->Hp->VK->Prop:=fun xs H Q=>∃p ks,xs=[V.ref p]/\SqL K H p (ks.map kV)/\ks.length<4000/\∀a,H a=none->Q (.ref a) (upd H a (zL a (met ks).length))
theorem tI{X:Cx}:eL X (.builtin "len") (fun xs H Q=>∃a n,xs=[V.ref a]/\H a=some (zL a n)/\Q (.int n) H):=by
 intro pins s σ H xs us Q I r h;obtain⟨a,n,rfl,e,q⟩:=h;obtain⟨u,rfl,rx⟩:=vals1 r;cases rx;obtain⟨⟨o,es,ep,t,ho,hex,hd,hbb,hf,rfl⟩,_⟩:=I.hok a _ e;refine call_len_set ho hex hd hf (by have :es.size<4096:=hbb;omega) ?_;exact⟨.int es.size,H,I.tok _,⟨_,rfl⟩,q⟩
end Q
namespace L2
open PySem PySem.Spec PyProof.Rows
section
variable {X:Cx}
noncomputable def AX(K:ae):R2:=fun x y H Q=>∃a b ys,x=.ref a/\y=.ref b/\SqT K H a []/\SqT K H b ys/\Q (.ref b) H
theorem op_cat0:OpR X (dX .Add) (AX X.K):=by
 intro pins s σ H x y v u Q I rx ry h;obtain⟨a,b,ys,rfl,rfl,ha,hb,q⟩:=h;cases rx;cases ry;obtain⟨its,r1,p1,_⟩:=I.tuple ha;obtain⟨its2,r2,p2,_⟩:=I.tuple hb;cases r1;obtain⟨⟨cls,dd,data,sl⟩,ho,hc,n,hd⟩:=id p1;obtain⟨⟨cls2,dd2,data2,sl2⟩,ho2,hc2,n2,hd2⟩:=id p2;simp only at hc hd hc2 hd2;subst hc hd hc2 hd2;exact concat_meets ⟨_,ho,rfl⟩ ⟨_,ho2,rfl⟩ y6 G0 lj kF (kh _ _) (tuple_addW0 a b _ _ n n2 dd dd2 sl sl2 rfl) ⟨ho,ho2,.ref b,H,I,rfl,q⟩
theorem uC(a b:Array Nat):∀k:Nat,((bL k a).foldl (·++·) b).size=b.size+k*a.size
 | 0=>by simp
 |k+1=>by
  rw[eR,dq,uC a (b++a) k,Array.size_append,Nat.succ_mul];omega
noncomputable def EK:R2:=fun x y H Q=>∃(z:Str)(n:Int),x=.str z/\y=.int n/\2<=n/\n<=1000/\1<=z.length/\z.length<=1000/\Q (.str ⟨(bL n.toNat z.cps).foldl (·++·) #[]⟩) H
theorem op_repS:OpR X (dX .Mult) EK:=by
 intro pins s σ H x y v u Q I rx ry h;obtain⟨z,n,rfl,rfl,h1,h2,h3,h4,q⟩:=h;obtain⟨t,rfl⟩:=rx;obtain⟨t',rfl⟩:=ry;have c1:¬n<1:=by omega
 have c2:(n==1||z.length==0)=false:=by
  rw[Bool.or_eq_false_iff];exact⟨by simp;omega,by simp;omega⟩
 have hm:z.length*n.toNat<=1000*1000:=Nat.mul_le_mul h4 (by omega);have hn:((n.toNat:Nat):Int)=n:=by omega
 have hm2:(z.length:Int)*n<=1000*1000:=by
  rw[<-hn,<-Int.natCast_mul];exact Int.ofNat_le.mpr hm
 refine P.mul_str (by rw[decide_eq_false (by omega),decide_eq_false (by omega)];rfl) (fun _ _=>?_) (fun _ _=>?_) ?_
 ·exact Int.not_lt.mpr (Int.le_ediv_of_mul_le (by omega) (by omega))
 ·exact decide_eq_false (fZ.mpr (aF hm (by decide)))
 ·rw[if_neg c1,if_neg (by rw[c2];exact aB)]
  refine⟨?_,.str _,H,I.tok _,⟨_,rfl⟩,q⟩;show((bL n.toNat z.cps).foldl (·++·) #[]).size<=_;rw[uC];exact aF (by rw[Nat.mul_comm];simpa[y9]using hm) (by decide:1000*1000<=sizeLine)
noncomputable def rJoin(K:ae):V->List V->Hp->VK->Prop:=fun x vs H Q=>∃(sep:Str)(p:Addr)(ys:List Str),x=.str sep/\vs=[.ref p]/\SqL K H p (ys.map V.str)/\sep.length<=16/\(ys.map (·.length)).sum+ys.length<=1048576/\Q (.str (Txt.join sep ys)) H
end
end L2
set_option maxHeartbeats 1000000
namespace HT
open PySem PySem.Spec PyProof.Rows
section
variable {prog:Program}{w:World}{K:Type}[DecidableEq K]{knd:HeapKind prog w K}{A:Around}{s:Shared}{E:Value->Shared->Prop}
theorem setDef{d a:Addr}{xs:List (K×Addr×Value)}{k:K}{v:Value}{Q:Value->Shared->Prop}(hu:knd.room A)(hkey:knd.is s.heap k a)(hm:s.heap.DictOfH knd d xs)
  (h1:∀u,(atKey xs k).map (·.2)=some u->Q u {s with toks:=s.toks+knd.draws k})
  (h2:atKey xs k=none->∀h',h'.DictOfH knd d (storedH xs k a v)->cR d s.heap h'->Q v {s with heap:=h',toks:=s.toks+knd.draws k})
  (hsz:xs.length<=sizeLine):wpAny (model prog w) A (DB d (.ref a) v) Q E s:=by
 obtain⟨o,es,ep,ho,hc,hd,he,his,hn⟩:=hm;unfold DB;refine bz ?_;refine aa (knd.pyHash hu hkey ?_);refine aa (wpAny_dictFind_heap (s:={s with toks:=s.toks+knd.draws k}) hu hkey ho hd he his hn ?_ ?_)
 ·intro hno
  have hnot:k∉xs.map (·.1):=not_mem_keys_of_get hno;refine aa (fF (aa (wpAny_updateDictKeys (hz:=by have e:=size_of_entries he;omega) (s:={s with toks:=s.toks+knd.draws k}) ho hd (ai (h2 (mC hno) _ ⟨_,_,ep+1,bF _ ho (Obj.isFreed_of_dict (G8 hd _)),
   hc.mapDictKeys _,G8 hd _,?_,?_,?_⟩ (bO ..))))))
  ·rw[storedH_new (mC hno)]
   simp[he,entryOfKey]
  ·rw[storedH_new (mC hno)]
   intro x hx;rcases fq.mp hx with hx|hx
   ·exact knd.keeps (his x hx) ho hd (bO ..)
   ·rw[aO.mp hx]
    exact knd.keeps hkey ho hd (bO ..)
  ·rw[storedH_new (mC hno),eD,fJ]
   refine⟨hn,by simp,fun x hx y hy e=>?_⟩;have :y=k:=by simpa using hy
   exact hnot (by rw[<-this,<-e];exact hx)
 ·intro j p hj
  refine aa (wpAny_dictEntries (s:={s with toks:=s.toks+knd.draws k}) ho hd ?_);rw[entry_at he j,hj];exact aa (fF (ai (h1 _ (by rw[atKey_of_get hn hj];rfl))))
variable(knd) in
theorem vY(d a:Addr)(hd:(d==dO)=false)(dflt:Value):
  MeetsIn prog w (Builtin.«dict.setdefault» ⟨[.ref d,.ref a,dflt],[]⟩) (fun A R s=>knd.room A.in1/\∃k xs,knd.is s.heap k a/\s.heap.DictOfH knd d xs/\xs.length<=sizeLine/\
   (∀u,(atKey xs k).map (·.2)=some u->R (.ok (.ret u)) {s with toks:=s.toks+knd.draws k})/\
   (atKey xs k=none->∀h',h'.DictOfH knd d (storedH xs k a dflt)->cR d s.heap h'->R (.ok (.ret dflt)) {s with heap:=h',toks:=s.toks+knd.draws k})):=
 .of_wp fun A R s ⟨hu,k,xs,hkey,hm,hz,h1,h2⟩=>by
  unfold Builtin.«dict.setdefault»;refine aa ?_;unfold Builtin.Dict.keyAndDefault;refine aa (wpAny_notOrdered_dict hm.typeIs ?_);show wpAny _ _ (pure (d,aX a,some dflt)) _ _ s;refine ai ?_;show wpAny _ _ (if(d==dO)=true then _ else(DB d (.ref a) dflt>>=_)) _ _ s;rw[if_neg (by rw[hd];exact aB)];exact aa (setDef hu hkey hm (fun v hv=>ai ⟨v,rfl,h1 v hv⟩) (fun hn h' hm' hs'=>ai ⟨dflt,rfl,h2 hn h' hm' hs'⟩) hz)
end
end HT
namespace L2
open PySem PySem.Spec PyProof.Rows
section
variable {X:Cx}{pins:List (Addr×Obj)}{σ:St}{H:Hp}{s:Shared}{a b:Addr}{v:V}{r:Value}{A:Around}{E:Value->Shared->Prop}{kvs:List (List Key×V)}{k:List Key}
theorem GA{Q:Value->Shared->Prop}(hu:A.units+1<cLine)(I:Inv X pins σ H s)(e:H a=some (.dT kvs))(eb:H b=some (.tup (k.map kV)))(rv:RelV v r)(hl:kvs.length<sizeLine)
  (h1:∀x w' s',dU kvs k=some x->Inv X pins σ H s'->RelV x w'->Q w' s')(h2:dU kvs k=none->∀s',Inv X pins σ (upd H a (.dT (putK kvs k v))) s'->Q r s'):
  wpAny (model X.prog X.w) A (call (.builtin "dict.setdefault") [.ref a,.ref b,r]) Q E s:=by
 obtain⟨z,hd,xs,rel,dd⟩:=Gu I.hok e;have hz:xs.length<=sizeLine:=by rw[<-iy rel];exact z
 have hl':(putK kvs k v).length<=sizeLine:=by have :=lK kvs k v;omega
 have rk:=rel.val k;refine call_meetsIn sP dd.typeIs PySem.F.entry_dict_setdefault (PySem.F.args_dict_setdefault_3 _ _ _) (HT.vY (nu (bV X.prog X.w)) a b hd r) ⟨tupleKind_room_in1 hu,k,xs,FW I.hok eb,dd,hz,fun u hu'=>?_,fun hn h' dd' hs=>?_⟩
 ·rw[hu']at rk
  cases hv:dU kvs k with
  |none=>rw[hv]at rk;exact absurd rk (by intro z;cases z)
  |some x=>
   rw[hv]at rk;obtain⟨w',hw,rw'⟩:=la.some_of rk;cases hw;exact h1 x _ _ hv (I.tok _) rw'
 ·rw[hn]at rk
  refine h2 (by
   cases hv:dU kvs k with
   |none=>rfl
   |some x=>rw[hv]at rk;exact absurd rk (by intro z;cases z)) _ ?_
  obtain⟨q,es,ep,hq,g2,g3,g4,_,g5⟩:=dd';refine Bv I (by rw[e];exact True.intro) hs ⟨q,hq⟩ ⟨hl',hd,_,(rel.put k eb rv).keeps fun c ys ec=>?_,q,es,ep,hq,g2,g3,g4,g5⟩;rw[aN (ne_of ec e (fun z=>nomatch z))];exact ec
end
section
variable {X:Cx}
theorem CF{prog:Program}{w:World}{K:Type}[DecidableEq K]{knd:HeapKind prog w K}{A:Around}{E:Value->Shared->Prop}{s:Shared}{d:Addr}{xs:List (K×Addr×Value)}{Q:Value->Shared->Prop}(hd:(d==dO)=false)(hm:s.heap.DictOfH knd d xs)(hfit:(xs.length:Int)<2^63)
  (h:Q (.int xs.length (s.toks+1)) {s with toks:=s.toks+1+1}):wpAny (model prog w) A (call (.builtin "len") [.ref d]) Q E s:=by
 have ml:MeetsIn prog w (Builtin.«dict.__len__» ⟨[.ref d],[]⟩) (fun _ R s=>∃xs,s.heap.DictOfH knd d xs/\R (.ok (.ret (.int xs.length s.toks))) {s with toks:=s.toks+1}):=
  .of_wp fun A R s ⟨xs,hm,h⟩=>by
   obtain⟨o,es,ep,ho,hc,hdat,he,_⟩:=hm;show wpAny _ _ (dictSize d>>=_) _ _ s;unfold dictSize;refine aa (aa (wpAny_dictEntries ho hdat (ai ?_)));show wpAny _ _ (Builtin.Dict.pendingCount d>>=_) _ _ s;refine aa (wpAny_pendingCount_other hd ?_);refine wpAny_ret_mkInt ?_;have :es.size=xs.length:=size_of_entries he;rw[Nat.add_zero,this];exact h
 refine kj kind_len plain_len entry_len (args_len1 _) ?_;unfold Builtin.«len»;refine aa (m:=oneArg "len" _) (ai ?_);refine aa (m:=callSpecial? (.ref d) (ao "__len__")) (d3 (name:=ao "__len__") hm.typeIs F.slot_dict_len
  (call_meetsIn F.slot_dict_len hm.typeIs F.entry_dict_len (F.args_dict_len_1 _) ml ⟨xs,hm,?_⟩))
 show wpAny _ _ _ _ _ {s with toks:=s.toks+1};refine aa (bz (ai ?_));refine aa (fE ?_);show wpAny _ _ (if((xs.length:Nat):Int)<0 then _ else _) _ _ _;rw[if_neg (by omega)];show wpAny _ _ (if((xs.length:Nat):Int)≥ 2^63 then _ else _) _ _ _;rw[if_neg (by omega)];exact aa (wpAny_mkInt (ai ⟨_,rfl,h⟩))
theorem yI:eL X (.builtin "len") (fun xs H Q=>∃a kvs,xs=[V.ref a]/\H a=some (.dT kvs)/\Q (.int kvs.length) H):=by
 intro pins s σ H xs us Q I r h;obtain⟨a,kvs,rfl,e,q⟩:=h;obtain⟨u,rfl,rx⟩:=vals1 r;cases rx;obtain⟨z,hd,ys,rel,dd⟩:=Gu I.hok e;refine CF hd dd (by rw[<-iy rel];rw[jQ]at z;omega) ?_;rw[<-iy rel];exact⟨.int kvs.length,H,I.tok _,⟨_,rfl⟩,q⟩
theorem key_seq{pins:List (Addr×Obj)}{σ:St}{H:Hp}{s:Shared}{b:Addr}{ks:List Key}(I:Inv X pins σ H s)(h:SqT X.K H b (ks.map kV)):(nu (bV X.prog X.w)).is s.heap ks b:=by
 obtain⟨its,r,⟨o,h1,h2,n,h3⟩,_⟩:=I.tuple h;exact⟨o,its.toArray,n,h1,h2,h3,by simpa using pw r⟩
noncomputable def rIxD(K:ae):R2:=fun x y H Q=>∃a b kvs k v,x=.ref a/\y=.ref b/\H a=some (.dT kvs)/\SqT K H b (k.map kV)/\dU kvs k=some v/\Q v H
theorem ix_dict(hu:X.A.units+1<cLine):IxR X (rIxD X.K):=by
 intro value slice pins s σ H x y v u Q I rx ry h hs;obtain⟨a,b,kvs,k,z,rfl,rfl,e,eb,hv,q⟩:=h;cases rx;cases ry;obtain⟨_,hd,xs,rel,dd⟩:=Gu I.hok e;have hT:s.TypeIs (.ref a) "dict":=dd.typeIs;unfold GZ;refine aa ?_;rw[getitemInPython_of_ne hT.not_modules];refine aa (wpAny_specialOf hT PySem.F.slot_dict_getitem.lookup ?_);have fin:wpAny (model X.prog X.w) X.A (subscripted slice false (.ref a) (.ref b)) (fun r s₃=>wpAny (model X.prog X.w) X.A (letTemporaryGo value (.ref a) r>>=fun _=>pure r) (EP X pins σ Q) X.xe s₃) X.xe s:=by
  rw[hs];obtain⟨w',hw,rw'⟩:=la.some_of (v:=z) (o:=(atKey xs k).map (·.2)) (by rw[<-hv];exact rel.val k);obtain⟨p,hp,hp2⟩:=lq.mp hw;refine wpAny_operating (cH (wpAny_getItem_heap (Q:=EP X pins σ Q) (tupleKind_room_in1 hu) (key_seq I eb) dd hp ?_) (fun r s₃ h₃=>aa (wpAny_letTemporaryGo (ai h₃))) fun _ _ x=>x);rw[hp2];exact⟨z,H,I.tok _,rw',q⟩
 first
  |exact ai (aa fin)
  |exact aa (ai (aa fin))
  |exact aa fin
noncomputable def AV:V->List V->Hp->VK->Prop:=fun x xs H Q=>∃a b kvs k v,x=.ref a/\xs=[.ref b,v]/\H a=some (.dT kvs)/\H b=some (.tup (k.map kV))/\kvs.length<sizeLine/\
 (∀z,dU kvs k=some z->Q z H)/\(dU kvs k=none->Q v (upd H a (.dT (putK kvs k v))))
theorem Cv(hu:X.A.units+1<cLine):MtR X "dict.setdefault" AV:=by
 intro pins s σ H x xs v us Q I rx rv h;obtain⟨a,b,kvs,k,y,rfl,rfl,e,eb,hl,q1,q2⟩:=h;cases rx;obtain⟨u,w',rfl,r1,r2⟩:=vals2 rv;cases r1;exact GA hu I e eb r2 hl (fun z w1 s' hz I' rz=>⟨z,H,I',rz,q1 z hz⟩) fun hn s' I'=>⟨y,_,I',r2,q2 hn⟩
end
section
variable {X:Cx}
noncomputable def isRef:V->Bool
 |.ref _=>true
 |_=>false
noncomputable def rInD(K:ae)(neg:Bool):R2:=fun x y H Q=>∃p xs ds d,y=.ref p/\SqL K H p xs/\xs.all isRef=true/\Rep K H d x/\jf K H ds xs/\i6 ds<=30/\
 Q (.bl (if neg then !(ds.any fun d'=>eqD d' d)else ds.any fun d'=>eqD d' d)) H
open Classical in
open Classical in
end
section
variable {X:Cx}{e:Expr}{te:TE}{pos p2 p3 p4:Pos}{cd:Nat}
noncomputable def tRev(K:ae)(te:TE):TE:=fun σ H Q=>te σ H fun x H1=>∃a xs,x=.ref a/\SqL K H1 a xs/\∀p,H1 p=none->Q (.ref p) (upd H1 p (.lst xs.reverse))
end
end L2
namespace Q
open PySem PySem.Spec PySem.W PyProof.Rows L2
noncomputable def ltI(ns:List Int)(i j:Nat):Bool:=decide (ns.getD i 0<ns.getD j 0)
noncomputable def z7(ns:List Int):List Nat:=if ns.length<2 then aI ns.length else(run (ltI ns) (dh ns.length)).toList
noncomputable def sortI(ns:List Int):List V:=(z7 ns).map fun i=>(ns.map V.int).getD i .non
theorem totI{ns:List Int}(nd:ns.Nodup):Tot (ltI ns) ns.length where
 tri:=fun i j hi hj h=>by
  have hne:ns.getD i 0≠ns.getD j 0:=fun e=>by
   rw[aj,aj,ah hi,ah hj]at e;exact h ((d7 nd).mp e)
  unfold ltI;by_cases a:ns.getD i 0<ns.getD j 0
  ·rw[decide_eq_true a,decide_eq_false (by omega)];rfl
  ·rw[decide_eq_false a,decide_eq_true (by omega)];rfl
 tr:=fun i j k hi hj hk a b=>by
  unfold ltI at a b⊢;have a:=of_decide_eq_true a;have b:=of_decide_eq_true b;exact decide_eq_true (by omega)
theorem Fk{ns:List Int}(nd:ns.Nodup):(z7 ns).length=ns.length:=by
 unfold z7;split
 ·simp
 ·rw[cq,(fw (totI nd) (by omega)).1.size]
theorem outI{ns:List Int}{vs:List Value}(nd:ns.Nodup)(r:bM (ns.map V.int) vs):bM (sortI ns) (fK (ltI ns) vs):=by
 have hlen:=r.length;rw[av]at hlen;have e:vs.length=ns.length:=by omega
 unfold fK sortI z7;rw[e];by_cases c:ns.length<2
 ·rw[if_pos c,if_pos c]
  have e2:(aI ns.length).map (fun i=>(ns.map V.int).getD i V.non)=ns.map V.int:=by
   apply cE
   ·simp
   ·intro i h1 h2
    have h3:i<ns.length:=by simpa using h2
    simp[h3]
  rw[e2];exact r
 ·rw[if_neg c,if_neg c]
  have P:=(fw (totI nd) (by omega)).1;have all:∀l:List Nat,(∀i∈l,i<ns.length)->bM (l.map fun i=>(ns.map V.int).getD i V.non) (l.map fun i=>vs.getD i bI):=by
   intro l
   induction l with
   |nil=>exact fun _=>.nil
   |cons i l ih=>
    intro h;have hi:i<(ns.map V.int).length:=by rw[av];exact h i (.head _)
    obtain⟨u,hu,ru⟩:=r.get (ah hi);refine .cons ?_ (ih fun j hj=>h j (.tail _ hj));show L2.RelV ((ns.map V.int).getD i V.non) (vs.getD i bI);rw[aj,ah hi,aj,hu];exact ru
  refine all _ fun i hi=>?_;have m:i∈(aI ns.length).toArray:=P.perm.mem_iff.mp (iS.mp hi);simpa using m
theorem int_at{ns:List Int}{vs:List Value}(r:b7 vs ns){i:Nat}(hi:i<ns.length):∃t,vs.getD i .none=.int (ns.getD i 0) t:=by
 induction r generalizing i with
 |nil=>exact absurd hi (gQ _)
 |cons y t h ih=>
  cases i with
  |zero=>exact⟨t,rfl⟩
  |succ i=>exact ih (by simpa using hi)
theorem F5{ns:List Int}{vs:List Value}(r:b7 vs ns):vs.length=ns.length:=by
 induction r with
 |nil=>rfl
 |cons y t h ih=>simp[ih]
theorem Ds{prog:Program}{w:World}{A:Around}{ns:List Int}{vs:List Value}{h0:Heap}(r:b7 vs ns)(h2:2<=vs.length):Dv prog w A (ltI ns) vs h0:=by
 intro s1 _;refine⟨oneType',fun Q' E' q=>?_,fun i j C hi hj _ q=>?_⟩
 ·match vs,r,h2 with
  |v1::v2::rest,r,_=>
   rw[keyKind_ints r];exact ai q
 ·rw[F5 r]at hi hj
  obtain⟨t,e1⟩:=int_at r hi;obtain⟨u,e2⟩:=int_at r hj;unfold kas_ask;rw[e1,e2,keyLt'_oneType];exact oneLt_int q
noncomputable def rSortI(K:ae):List V->Hp->VK->Prop:=fun xs H Q=>∃p ns,xs=[V.ref p]/\SqL K H p (ns.map V.int)/\ns.length<64/\ns.Nodup/\∀l,H l=none->Q (.ref l) (upd H l (.lst (sortI ns)))
end Q
namespace L2
open PySem PySem.Spec PyProof.Rows
section
variable {X:Cx}
noncomputable def nats(n:Nat):List V:=(aI n).map fun i:Nat=>V.int (i:Int)
noncomputable def tLRng(ta:TA):TE:=fun σ H Q=>ta σ H fun vs H1=>∃n:Nat,vs=[.int n]/\n<=1000/\∀p,H1 p=none->Q (.ref p) (upd H1 p (.lst (nats n)))
end
section
variable {X:Cx}
noncomputable def leP(a b c d:Int):Bool:=decide (a<c\/a=c/\b<=d)
noncomputable def rLeP(K:ae):R2:=fun x y H Q=>∃p q a b c d,x=.ref p/\y=.ref q/\SqT K H p [.int a,.int b]/\SqT K H q [.int c,.int d]/\Q (.bl (leP a b c d)) H
noncomputable def rIndex:V->List V->Hp->VK->Prop:=fun x vs H Q=>∃(l:Addr)(ns:List Int)(k:Int),x=.ref l/\vs=[.int k]/\H l=some (.lst (ns.map V.int))/\k∈ns/\ns.length<=60/\Q (.int (ns.idxOf k:Nat)) H
end
end L2
namespace Q
open PySem PySem.Spec PySem.W PyProof.Rows L2
noncomputable def plt(x y:Int×Int):Bool:=decide (x.1<y.1\/x.1=y.1/\x.2<y.2)
noncomputable def ltP(ps:List (Int×Int))(i j:Nat):Bool:=plt (ps.getD i (0,0)) (ps.getD j (0,0))
noncomputable def ordP(ps:List (Int×Int)):List Nat:=if ps.length<2 then aI ps.length else(run (ltP ps) (dh ps.length)).toList
noncomputable def sortP{α:Type}(d:α)(ps:List (Int×Int))(ys:List α):List α:=(ordP ps).map fun i=>ys.getD i d
noncomputable def GS(H:Hp)(ys:List V)(ps:List (Int×Int)):Prop:=Paired (fun v k=>∃a,v=V.ref a/\H a=some (.tup [.int k.1,.int k.2])) ys ps
noncomputable def rSortP(K:ae):List V->Hp->VK->Prop:=fun xs H Q=>∃p ys ps,xs=[V.ref p]/\SqL K H p ys/\ps.length<64/\ps.Nodup/\GS H ys ps/\∀l,H l=none->Q (.ref l) (upd H l (.lst (sortP .non ps ys)))
end Q
namespace D8
open PySem PySem.Spec PySem.W PyProof.Rows L2
noncomputable abbrev four:List (Int×Int):=[(0,0),(0,1),(1,0),(1,1)]
noncomputable def Prs(H:Hp)(as:List Addr)(ps:List (Int×Int)):Prop:=as.length=ps.length/\∀(i:Nat) a q,as[i]? =some a->ps[i]? =some q->H a=some (.tup [.int q.1,.int q.2])
noncomputable def rSetP(K:ae):List V->Hp->VK->Prop:=fun xs H Q=>∃p as ps,xs=[V.ref p]/\SqL K H p (as.map V.ref)/\Prs H as ps/\(∀q∈ps,q∈four)/\∀a (ks:List (Int×Int)),H a=none->ks.Nodup->(∀r,r∈ks↔r∈ps)->Q (.ref a) (upd H a (_root_.Q.zL a ks.length))
end D8
namespace L2
open PySem PySem.Spec PyProof.Rows
section
variable {X:Cx}
noncomputable def CDivB(_ j:Int):Prop:=0<j/\j.natAbs.log2<9000
noncomputable def rDivB:R2:=rI CDivB fun i j=>.int (i/j)
noncomputable def rInsert:V->List V->Hp->VK->Prop:=fun x vs H Q=>∃l xs k y,x=.ref l/\vs=[.int k,y]/\H l=some (.lst xs)/\xs.length<sizeLine/\0<=k/\k<=xs.length/\Q .non (upd H l (.lst (xs.take k.toNat++y::xs.drop k.toNat)))
end
section
variable {X:Cx}
noncomputable def rSplit:V->List V->Hp->VK->Prop:=fun x vs H Q=>∃z y:Str,x=.str z/\vs=[.str y]/\(y.length==0)=false/\z.length+2<=sizeLine/\∀p,H p=none->Q (.ref p) (upd H p (.lst ((Txt.split z y).map V.str)))
end
noncomputable def Itz(K:ae)(a b:Addr):It:=
 ⟨fun i H=>∃xs ys x y,SqL K H a xs/\SqL K H b ys/\xs[i]? =some x/\ys[i]? =some y,
  fun i H v H'=>∃p x y,H p=none/\H'=upd H p (.tup [x,y])/\v=.ref p/\(∀xs,SqL K H a xs->xs[i]? =some x)/\∀ys,SqL K H b ys->ys[i]? =some y,
  fun i H=>∃xs ys,SqL K H a xs/\SqL K H b ys/\(xs.length<=i\/ys.length<=i)⟩
section
variable {X:Cx}{es:List Expr}{kk:Nat}{pp:Pos}
noncomputable def iZip(K:ae)(t:TA):TI:=fun σ H R=>t σ H fun vs H1=>∃a b,vs=[.ref a,.ref b]/\(∃xs,SqL K H1 a xs)/\(∃ys,SqL K H1 b ys)/\R (Itz K a b) H1
end
noncomputable def DkIn(P:Program)(w:World)(K:ae)(a:Addr)(kvs:List (Key×V)):Prop:=
 (a==dO)=false/\∃vs,KV kvs vs/\∀h,K.In h->h.DictOf (bV P w) a vs
section
variable {X:Cx}{dic:Addr->Option (List (Key×V))}
noncomputable def rInG(dic:Addr->Option (List (Key×V))):R2:=fun x y H Q=>∃a kvs k,y=.ref a/\dic a=some kvs/\x=kV k/\Q (.bl (dU kvs k).isSome) H
noncomputable def rIxG(dic:Addr->Option (List (Key×V))):R2:=fun x y H Q=>∃a kvs k v,x=.ref a/\dic a=some kvs/\y=kV k/\dU kvs k=some v/\Q v H
end
noncomputable def fText(pre post:Str)(i:Int):Str:=Str.empty++pre++(toString i:Str)++post
noncomputable def tFst(pre post:Str)(t:TE):TE:=fun σ H Q=>(Str.empty++pre).length<=sizeLine/\t σ H fun x H1=>∃i,x=.int i/\i.natAbs.log2<1920/\(fText pre post i).length<=sizeLine/\Q (.str (fText pre post i)) H1
end L2
namespace PySem
section
variable {prog:Program}{w:World}{A:Around}{E:Value->Shared->Prop}{s:Shared}
theorem Fn{j t:Addr}{k:Nat}{xs:Array Value}{v:Value}{Q:Value->Shared->Prop}(hj:s.heap.IsTupleIter j t k)(ht:s.heap.IsTuple t xs)(hv:xs[k]? =some v)
  (q:∀h',h'.IsTupleIter j t (k+1)->cR j s.heap h'->Q v {s with heap:=h'}):wpAny (model prog w) A (eV (.ref j)) Q E s:=by
 obtain⟨o,e1,e2,e3⟩:=id hj;obtain⟨p,f1,_,n,f3⟩:=ht;unfold eV;refine aa (d3 (name:=ao "__next__") hj.typeIs gw (cF gw hj.typeIs zq ?_ (zc _)));show wpAny _ _ (field (.ref j) 0>>=_) _ _ s;refine aa (gD e1 e3 (x:=.ref t) rfl ?_);show wpAny _ _ (if(aX t==bI)=true then _ else _) _ _ s;rw[if_neg (fun z:(aX t==bI)=true=>absurd z aB)];show wpAny _ _ (field (.ref j) 1>>=_) _ _ s;refine aa (gD e1 e3 (x:=.int k 0) rfl ?_);show wpAny _ _ (ji (.ref t)>>=_) _ _ s;refine aa (dW f1 f3 ?_);simp only[bw,hv];refine aa (qw e1 e3 (by simp) (ai ⟨v,rfl,ai (q _ ?_ (bO ..))⟩));exact⟨_,bF _ e1 (iE (ek e3 _)),(Obj.cls_mapFields ..).trans e2,by rw[ek e3];simp[rawInt]⟩
theorem A7{j t:Addr}{k:Nat}{xs:Array Value}{Q:Value->Shared->Prop}(hh:A.handled=none)(hj:s.heap.IsTupleIter j t k)(ht:s.heap.IsTuple t xs)(hv:xs[k]? =none)
  (q:∀h' e,Heap.ExtBut j s.heap h'->(∃o,h'.get? e=some o/\o.cls=.type "StopIteration")->E (.ref e) {s with heap:=h'}):wpAny (model prog w) A (eV (.ref j)) Q E s:=by
 obtain⟨o,e1,e2,e3⟩:=id hj;obtain⟨p,f1,_,n,f3⟩:=ht;unfold eV;refine aa (d3 (name:=ao "__next__") hj.typeIs gw (cF gw hj.typeIs zq ?_ (zc _)));show wpAny _ _ (field (.ref j) 0>>=_) _ _ s;refine aa (gD e1 e3 (x:=.ref t) rfl ?_);show wpAny _ _ (if(aX t==bI)=true then _ else _) _ _ s;rw[if_neg (fun z:(aX t==bI)=true=>absurd z aB)];show wpAny _ _ (field (.ref j) 1>>=_) _ _ s;refine aa (gD e1 e3 (x:=.int k 0) rfl ?_);show wpAny _ _ (ji (.ref t)>>=_) _ _ s;refine aa (dW f1 f3 ?_);simp only[bw,hv];refine aa (fF (aa (qw e1 e3 (by simp) ?_)));show wpAny _ _ (newExc (.type "StopIteration") []>>=_) _ _ _;refine aa ?_;simp only[newExc,newTuple];refine aa (bY ?_ (by size_fits));refine aa (m:=qB _ _) (mz (a:=bI) (by first |rfl| (simp only[qB];rfl)) ?_);refine bY ?_ (by size_fits);simp only[Dz];refine aa (wpAny_handled ?_);first |rw[show A.in1.handled=none from hh] |rw[hh]
 refine aa (ai (wpAny_throw ?_));exact q _ _ (((bO ..).extBut.push _).push _) ⟨_,au _ rfl,rfl⟩
end
end PySem
namespace L2
open PySem PySem.Spec PyProof.Rows
noncomputable def Itzt(K:ae)(a b:Addr):It:=
 ⟨fun i H=>∃xs ys x y,SqT K H a xs/\SqL K H b ys/\xs[i]? =some x/\ys[i]? =some y,
  fun i H v H'=>∃p x y,H p=none/\H'=upd H p (.tup [x,y])/\v=.ref p/\(∀xs,SqT K H a xs->xs[i]? =some x)/\∀ys,SqL K H b ys->ys[i]? =some y,
  fun i H=>∃xs,SqT K H a xs/\xs.length<=i⟩
theorem tup_ne{h:Heap}{a c:Addr}{its:Array Value}{o:Obj}(hl:h.IsTuple a its)(hc:h.get? c=some o)(hk:o.cls≠.type "tuple"):a≠c:=by
 obtain⟨o',e,k,_⟩:=hl;rintro rfl;rw[e]at hc;cases hc;exact hk k
section
variable {X:Cx}{es:List Expr}{kk:Nat}{pp:Pos}
noncomputable def iZipT(K:ae)(t:TA):TI:=fun σ H R=>t σ H fun vs H1=>∃a b,vs=[.ref a,.ref b]/\(∃xs,SqT K H1 a xs)/\(∃ys,SqL K H1 b ys)/\R (Itzt K a b) H1
end
end L2
namespace PySem
open Sem (wp)
local macro_rules | `(term| «the numeral») => return Lean.mkIdent (cf (cf (cf (Lean.Name.num (cf (cf (cf (cf (cf zo "_private") "PySem") "Builtin") "Int") "W0All") 0) "PySem") "Builtin") "readNumeral")
local macro_rules | `(term| «a value») => return Lean.mkIdent (cf (cf (cf (cf (Lean.Name.num (cf (cf (cf (cf (cf zo "_private") "PySem") "Builtin") "Int") "W0All") 0) "PySem") "Builtin") "Numeral") "value")
end PySem
namespace L2
open PySem PySem.Spec PyProof.Rows
inductive Fig:Str->Int->Prop
 |one {a:Nat} (h:a<10):Fig ⟨#[48+a]⟩ (a:Nat)
 |two {a b:Nat} (ha:a<10) (hb:b<10):Fig ⟨#[48+a,48+b]⟩ (10*a+b:Nat)
section
variable {X:Cx}{dic:Addr->Option (List (Key×V))}
noncomputable def upS(z:Str):Str:=⟨placed z fun _ c=>Unicode.upperOf c⟩
noncomputable def rUpper:V->List V->Hp->VK->Prop:=fun x vs H Q=>∃z:Str,x=.str z/\vs=[]/\(upS z).length<=100/\Q (.str (upS z)) H
noncomputable def rNiG(dic:Addr->Option (List (Key×V))):R2:=fun x y H Q=>∃a kvs k,y=.ref a/\dic a=some kvs/\x=kV k/\Q (.bl (!(dU kvs k).isSome)) H
end
end L2
namespace Q
open PySem PySem.Spec PySem.W PyProof.Rows L2
noncomputable def llt:List Int->List Int->Bool
 | [],[]=>false
 | [],_::_=>true
 |_::_,[]=>false
 |a::x,b::y=>decide (a<b)||(decide (a=b)&&llt x y)
theorem uu:∀{x y z:List Int},llt x y=true->llt y z=true->llt x z=true
 | [],[],_,h,_=>nomatch h
 | [],_::_,[],_,h=>nomatch h
 | [],_::_,_::_,_,_=>rfl
 |_::_,[],_,h,_=>nomatch h
 |_::_,_::_,[],_,h=>nomatch h
 |a::x,b::y,c::z,h,k=>by
  simp only[llt,cC,ag,decide_eq_true_eq]at h k⊢;rcases h with h|⟨rfl,h⟩
  ·rcases k with k|⟨rfl,k⟩
   ·exact .inl (by omega)
   ·exact .inl h
  ·rcases k with k|⟨rfl,k⟩
   ·exact .inl k
   ·exact .inr ⟨rfl,uu h k⟩
theorem qI:∀{x y:List Int},x≠y->llt x y= !llt y x
 | [],[],h=>absurd rfl h
 | [],_::_,_=>rfl
 |_::_,[],_=>rfl
 |a::x,b::y,h=>by
  by_cases e:a=b
  ·subst e
   have :=qI (x:=x) (y:=y) fun z=>h (by rw[z])
   simp[llt,this]
  ·by_cases c:a<b
   ·have :¬b<a:=by omega
    simp[llt,c,this,e,bK e]
   ·have :b<a:=by omega
    simp[llt,c,this,e,bK e]
noncomputable def ltL(ps:List (List Int))(i j:Nat):Bool:=llt (ps.getD i []) (ps.getD j [])
noncomputable def ordL(ps:List (List Int)):List Nat:=if ps.length<2 then aI ps.length else(run (ltL ps) (dh ps.length)).toList
noncomputable def hX{α:Type}(d:α)(ps:List (List Int))(ys:List α):List α:=(ordL ps).map fun i=>ys.getD i d
theorem neL{ps:List (List Int)}(nd:ps.Nodup){i j:Nat}(hi:i<ps.length)(hj:j<ps.length)(h:i≠j):ps.getD i []≠ps.getD j []:=fun e=>by
 rw[aj,aj,ah hi,ah hj]at e;exact h ((d7 nd).mp e)
theorem totL{ps:List (List Int)}(nd:ps.Nodup):Tot (ltL ps) ps.length where
 tri:=fun i j hi hj h=>qI (neL nd hi hj h)
 tr:=fun i j k _ _ _ a b=>uu a b
theorem ud{ps:List (List Int)}(nd:ps.Nodup):(ordL ps).Perm (aI ps.length):=by
 unfold ordL;split
 ·exact eH _
 ·have P:=(fw (totL nd) (by omega)).1
  have :=fO.mp P.perm
  simpa using this
theorem uc{ps:List (List Int)}{ys:List V}{vs:List Value}(nd:ps.Nodup)(hl:ps.length=ys.length)(r:bM ys vs):bM (hX .non ps ys) (fK (ltL ps) vs):=by
 have hlen:=r.length;have e:vs.length=ps.length:=by omega
 unfold fK hX ordL;rw[e];by_cases c:ps.length<2
 ·rw[if_pos c,if_pos c]
  have e2:(aI ps.length).map (fun i=>ys.getD i V.non)=ys:=by
   rw[hl];apply cE
   ·simp
   ·intro i h1 h2
    simp[h2]
  rw[e2];exact r
 ·rw[if_neg c,if_neg c]
  have P:=(fw (totL nd) (by omega)).1;have all:∀l:List Nat,(∀i∈l,i<ps.length)->bM (l.map fun i=>ys.getD i V.non) (l.map fun i=>vs.getD i bI):=by
   intro l
   induction l with
   |nil=>exact fun _=>.nil
   |cons i l ih=>
    intro h;have hi:i<ys.length:=by have :=h i (.head _);omega
    obtain⟨u,hu,ru⟩:=r.get (ah hi);refine .cons ?_ (ih fun j hj=>h j (.tail _ hj));show L2.RelV (ys.getD i V.non) (vs.getD i bI);rw[aj,ah hi,aj,hu];exact ru
  refine all _ fun i hi=>?_;have m:i∈(aI ps.length).toArray:=P.perm.mem_iff.mp (iS.mp hi);simpa using m
noncomputable def pM(h:Heap)(vs:List Value)(ps:List (List Int)):Prop:=Paired (fun v k=>∃a o its n,v=.ref a/\h.get? a=some o/\o.cls=.type "tuple"/\o.data=.seq its n/\b7 its.toList k) vs ps
theorem ju{h:Heap}{vs:List Value}{ps:List (List Int)}(r:pM h vs ps){i:Nat}(hi:i<vs.length):∃a o its n,vs.getD i .none=.ref a/\h.get? a=some o/\o.data=.seq its n/\b7 its.toList (ps.getD i []):=by
 unfold pM at r
 induction r generalizing i with
 |nil=>exact absurd hi (gQ _)
 |cons y t ih=>
  cases i with
  |zero=>
   obtain⟨a,o,its,n,e1,e2,e3,e4,e5⟩:=y;exact⟨a,o,its,n,e1,e2,e4,e5⟩
  |succ i=>exact ih (by simpa using hi)
theorem F6{h h1:Heap}(kp:∀b o,h.get? b=some o->h1.get? b=some o){vs:List Value}{ps:List (List Int)}(r:pM h vs ps)(hp:∀k∈ps,k≠[]):∃fs,KatTups h1 vs fs/\fs.length=vs.length/\∀v∈fs,∃x t,v=gO x t:=by
 unfold pM at r
 induction r with
 |nil=>exact⟨[],.nil,rfl,fun v hv=>nomatch hv⟩
 | @cons v k vs ps y t ih=>
  obtain⟨fs,a1,a2,a3⟩:=ih fun k hk=>hp k (aJ _ hk);obtain⟨a,o,its,n,rfl,e2,e3,e4,e5⟩:=y;have hk:=hp k aH;obtain⟨l⟩:=its;cases l with
  |nil=>
   cases e5;exact absurd rfl hk
  |cons u l=>
   cases e5 with
   |cons x t h=>
    refine⟨_::fs,.cons (kp _ _ e2) e3 e4 rfl a1,by simp[a2],fun v hv=>?_⟩;rcases aA.mp hv with rfl|hv
    ·exact⟨_,_,rfl⟩
    ·exact a3 v hv
theorem FN{prog:Program}{w:World}{A:Around}{b fin:Bool}{C:Bool->Shared->Prop}{s:Shared}{xs ys:List Value}{x y:List Int}(i:Nat)(hx:b7 xs x)(hy:b7 ys y)(hl:x.length=y.length)(h:x≠y)(q:C (llt x y) s):KatLex prog w A b fin C (xs.zip ys) (i+1) s:=by
 induction hx generalizing ys y i with
 |nil=>cases hy with
  |nil=>exact absurd rfl h
  |cons=>simp at hl
 |cons a t hx ih=>cases hy with
  |nil=>simp at hl
  |cons c u hy=>
   refine kat_cons (jh ?_);by_cases e:a=c
   ·subst e
    rw[show(a==a)=true by simp];refine kat_yes (ih (i+1) hy (by simpa using hl) (fun z=>h (by rw[z])) ?_);simp[llt]at q;exact q
   ·rw[show(a==c)=false by simpa using e]
    refine kat_no ?_;rw[show(b&&(i+1==0))=false by simp];refine kat_one _ _ (lt_int ?_);simp[llt,e]at q;exact q
theorem wM{prog:Program}{w:World}{A:Around}{ps:List (List Int)}{vs:List Value}{h0:Heap}{m:Nat}(nd:ps.Nodup)(hl:vs.length=ps.length)(r:pM h0 vs ps)(h2:2<=vs.length)(hm:∀k∈ps,k.length=m):Dv prog w A (ltL ps) vs h0:=by
 have hm0:m≠0:=fun z=>by
  have e:∀i,i<ps.length->ps.getD i []=[]:=fun i hi=>by
   rw[aj,ah hi];exact b8.mp ((hm _ (bQ hi)).trans z)
  exact neL nd (i:=0) (j:=1) (by omega) (by omega) (by decide) ((e 0 (by omega)).trans (e 1 (by omega)).symm)
 intro s1 kp;refine⟨tuples' true,fun Q' E' q=>?_,fun i j C hi hj hij q=>?_⟩
 ·obtain⟨fs,a1,a2,a3⟩:=F6 kp r fun k hk z=>hm0 (by rw[<-hm k hk,z];rfl)
  refine kat_kind (T:=.type "int") a1 (by omega) (fun v hv=>?_) rfl q;obtain⟨x,t,rfl⟩:=a3 v hv;exact Looks.of_pure rfl
 ·obtain⟨a,o,its,n,e1,e2,e3,e4⟩:=ju r hi
  obtain⟨b,o',its',n',f1,f2,f3,f4⟩:=ju r hj;have hne:=neL nd (hl▸hi) (hl▸hj) hij;have l1:(ps.getD i []).length=m:=by rw[aj,ah (hl▸hi)];exact hm _ (bQ _)
  have l2:(ps.getD j []).length=m:=by rw[aj,ah (hl▸hj)];exact hm _ (bQ _)
  unfold kas_ask;unfold ltL at q;rw[e1,f1];generalize ps.getD i []=x at *;generalize ps.getD j []=y at *;refine kat_lt (kp _ _ e2) e3 (kp _ _ f2) f3 ?_;generalize its.toList=xs at *;generalize its'.toList=ys at *;cases e4 with
  |nil=>exact absurd l1.symm hm0
  | @cons c t xs x hx=>
   cases f4 with
   |nil=>exact absurd l2.symm hm0
   | @cons d u ys y hy=>
    refine kat_cons (jh ?_);by_cases e:c=d
    ·subst e
     rw[show(c==c)=true by simp];refine kat_yes (FN 0 hx hy (by simp at l1 l2;omega) (fun z=>hne (by rw[z])) ?_);simp[llt]at q;exact q
    ·rw[show(c==d)=false by simpa using e]
     refine kat_no (oneLt_int ?_);simp[llt,e]at q;exact q
noncomputable def IntKeys(H:Hp)(ys:List V)(ps:List (List Int)):Prop:=Paired (fun v k=>∃a,v=V.ref a/\H a=some (.tup (k.map V.int))) ys ps
theorem yi{H:Hp}{ys:List V}{ps:List (List Int)}(h:IntKeys H ys ps):ps.length=ys.length:=by
 unfold IntKeys at h
 induction h with
 |nil=>rfl
 |cons _ _ ih=>simp[ih]
theorem ints_of{P:Program}{w:World}{H:Hp}{h:Heap}(ok:HOk P w H h){ys:List V}{ps:List (List Int)}{vs:List Value}(k:IntKeys H ys ps):bM ys vs->pM h vs ps:=by
 unfold IntKeys at k
 induction k generalizing vs with
 |nil=>intro z;cases z;exact .nil
 |cons y t ih=>
  intro z;cases z with
  |cons r q=>
   obtain⟨a,rfl,e⟩:=y;cases r;obtain⟨_,its,rv,o,e1,e2,n,e3⟩:=ok a _ e;exact .cons ⟨a,o,its.toArray,n,rfl,e1,e2,e3,by simpa using intsAre_of rv⟩ (ih q)
noncomputable def EJ(K:ae):List V->Hp->VK->Prop:=fun xs H Q=>∃p ys ps m,xs=[V.ref p]/\SqL K H p ys/\ps.length<64/\ps.Nodup/\(∀k∈ps,k.length=m)/\IntKeys H ys ps/\∀l,H l=none->Q (.ref l) (upd H l (.lst (hX .non ps ys)))
theorem wu{X:Cx}:eL X (.builtin "sorted") (EJ X.K):=by
 intro pins s σ H xs us Q I r h;obtain⟨p,ys,ps,m,rfl,hq,h64,nd,hm,hk,q⟩:=h;obtain⟨u,rfl,rx⟩:=vals1 r;cases rx;obtain⟨its,r',pl,hz⟩:=I.list hq;have hl:ps.length=ys.length:=yi hk;have hlen:=r'.length;have hv:its.length=ps.length:=by omega
 refine tT (lt:=ltL ps) (vs:=its) (by rw[hv];exact totL nd) pl.isList (by omega) (fun h2=>wM nd hv (ints_of I.hok hk r') h2 hm) ?_;obtain⟨c,hc⟩:=sortedAll_at s.heap its (fK (ltL ps) its).toArray;have hz2:(hX V.non ps ys).length<=sizeLine:=by
  unfold hX;rw[av,(ud nd).length_eq,dR];omega
 exact⟨.ref (s.heap.objs.size+1),_,I.laid (t':=s.toks) (fun b o e=>sortedAll_old e) (dv _) (show cZ X.prog X.w _ _ _ (.lst (hX .non ps ys))from⟨hz2,_,c,uc nd hl r',hc⟩),rfl,q _ (I.hok.fresh (dv _))⟩
theorem ye:∀x:List Int,llt x x=false
 | []=>rfl
 |a::x=>by simp[llt,ye x]
theorem Bd{prog:Program}{w:World}{A:Around}{E:Value->Shared->Prop}{s:Shared}{p q:Addr}{us vs:List Value}{a b:List Int}{P:dB->Shared->Prop}(hx:IsTup s.heap p us.toArray)(hy:IsTup s.heap q vs.toArray)
  (ha:b7 us a)(hb:b7 vs b)(hl:a.length=b.length)
  (h:P (.done (.ret (.bool (llt a b)))) s):wpAny (model prog w) A (Builtin.«tuple.__lt__» ⟨[.ref p,.ref q],[]⟩) P E s:=by
 have hTb:=hy.typeIs;show wpAny _ _ (tK (.ref q) (.type "tuple")>>=_) _ _ s;refine aa (jg hTb isSubtype_tuple_tuple ?_);simp only[d4,aL,if_false];refine aa (sT hx ?_);refine aa (sT hy ?_);refine aa ?_;show wpAny _ _ (forIn (us.zip vs) _ _) _ _ s;refine wpAny_forIn_list _ (fun rest r s'=>r.1=none/\s'=s/\∃us' vs' a' b',rest=List.zip us' vs'/\us'.length=vs'.length/\b7 us' a'/\b7 vs' b'/\llt a b=llt a' b') _ ?_ ?_ _ _ ⟨rfl,rfl,us,vs,a,b,rfl,by rw[ha.length,hb.length,hl],ha,hb,rfl⟩
 ·rintro x rest ⟨r,_⟩ s' ⟨hr,rfl,us',vs',a',b',e,hl',ia,ib,hll⟩
  obtain rfl:r=none:=hr;cases ia with
  |nil=>cases e
  |cons m t ia=>
   cases ib with
   |nil=>cases hl'
   |cons n u ib=>
    rw[jT]at e;cases e;dsimp only;refine aa (jh ?_);by_cases c:m=n
    ·rw[show(m==n)=true by simpa using c]
     simp only[d4,aL,if_false];refine ai ⟨rfl,rfl,_,_,_,_,rfl,by simpa using hl',ia,ib,?_⟩;rw[hll];simp[llt,c]
    ·rw[show(m==n)=false by simpa using c]
     simp only[Bool.not_false,if_true];have e2:llt a b=decide (m<n):=by rw[hll];simp[llt,c]
     rw[e2]at h;refine aa (fF (aa (show wpAny _ _ (cV .Lt (gO m t) (gO n u)) _ _ _ from lt_int (aa (ai (ai ?_))))));exact ai h
 ·rintro⟨r,_⟩ s' ⟨hr,rfl,us',vs',a',b',e,hl',ia,ib,hll⟩
  obtain rfl:r=none:=hr;dsimp only;have e2:llt a b=false:=by
   rw[hll];cases ia with
   |nil=>cases ib with
    |nil=>rfl
    |cons n u ib=>cases hl'
   |cons m t ia=>cases ib with
    |nil=>cases hl'
    |cons n u ib=>rw[jT]at e;cases e
  rw[e2]at h;have hz:us.toArray.size=vs.toArray.size:=by rw[ay,ay,ha.length,hb.length,hl]
  have e3:d9 .Lt us.toArray.size vs.toArray.size=.bool false:=by rw[hz];simp[d9]
  rw[e3];exact ai h
theorem gt_tree{prog:Program}{w:World}{A:Around}{E:Value->Shared->Prop}{s:Shared}{p q:Addr}{us vs:List Value}{a b:List Int}{P:dB->Shared->Prop}(hx:IsTup s.heap p us.toArray)(hy:IsTup s.heap q vs.toArray)
  (ha:b7 us a)(hb:b7 vs b)(hl:a.length=b.length)
  (h:P (.done (.ret (.bool (llt b a)))) s):wpAny (model prog w) A (Builtin.«tuple.__gt__» ⟨[.ref p,.ref q],[]⟩) P E s:=by
 have hTb:=hy.typeIs;show wpAny _ _ (tK (.ref q) (.type "tuple")>>=_) _ _ s;refine aa (jg hTb isSubtype_tuple_tuple ?_);simp only[d4,aL,if_false];refine aa (sT hx ?_);refine aa (sT hy ?_);refine aa ?_;show wpAny _ _ (forIn (us.zip vs) _ _) _ _ s;refine wpAny_forIn_list _ (fun rest r s'=>r.1=none/\s'=s/\∃us' vs' a' b',rest=List.zip us' vs'/\us'.length=vs'.length/\b7 us' a'/\b7 vs' b'/\llt b a=llt b' a') _ ?_ ?_ _ _ ⟨rfl,rfl,us,vs,a,b,rfl,by rw[ha.length,hb.length,hl],ha,hb,rfl⟩
 ·rintro x rest ⟨r,_⟩ s' ⟨hr,rfl,us',vs',a',b',e,hl',ia,ib,hll⟩
  obtain rfl:r=none:=hr;cases ia with
  |nil=>cases e
  |cons m t ia=>
   cases ib with
   |nil=>cases hl'
   |cons n u ib=>
    rw[jT]at e;cases e;dsimp only;refine aa (jh ?_);by_cases c:m=n
    ·rw[show(m==n)=true by simpa using c]
     simp only[d4,aL,if_false];refine ai ⟨rfl,rfl,_,_,_,_,rfl,by simpa using hl',ia,ib,?_⟩;rw[hll];simp[llt,c]
    ·rw[show(m==n)=false by simpa using c]
     simp only[Bool.not_false,if_true];have e2:llt b a=decide (n<m):=by rw[hll];simp[llt,bK c]
     rw[e2]at h;refine aa (fF (aa (show wpAny _ _ (cV .Gt (gO m t) (gO n u)) _ _ _ from PyProof.Rows.gt_int (aa (ai (ai ?_))))));exact ai h
 ·rintro⟨r,_⟩ s' ⟨hr,rfl,us',vs',a',b',e,hl',ia,ib,hll⟩
  obtain rfl:r=none:=hr;dsimp only;have e2:llt b a=false:=by
   rw[hll];cases ia with
   |nil=>cases ib with
    |nil=>rfl
    |cons n u ib=>cases hl'
   |cons m t ia=>cases ib with
    |nil=>cases hl'
    |cons n u ib=>rw[jT]at e;cases e
  rw[e2]at h;have hz:us.toArray.size=vs.toArray.size:=by rw[ay,ay,ha.length,hb.length,hl]
  have e3:d9 .Gt us.toArray.size vs.toArray.size=.bool false:=by rw[hz];simp[d9]
  rw[e3];exact ai h
section
variable {prog:Program}{w:World}{A:Around}{I:Addr}{fp wr:List Addr}{G:Array nH->Array nH->Prop}{P:Nat->Value->Prop}{St:Nat->Shared->Prop}{R:Result->Shared->Prop}
theorem Cy(W:WalksS prog w A.in1 I fp wr G 2 P St){S:Addr}(hSf:S∉fp){v0 v1:Value}(h0:∀v,P 0 v->v=v0)(h1:∀v,P 1 v->v=v1){s:Shared}{c:Nat}{bt:Bool}(hst:St 0 s)
  (hS:s.heap.get? S=some {cls:=.type "list",dict:=none,data:=.seq #[] c,slots:= #[]})
  (hcmp:∀(s':Shared)(Q:Value->Shared->Prop)(E:Value->Shared->Prop),Moved (S::wr) G s s'->Q (.bool bt) s'->wpAny (model prog w) A.in1 (zf .Lt v1 v0) Q E s')
  (hR:∀s',Moved (S::wr) G s s'->R (.ok (.ret (if bt=true then v1 else v0))) s'):eE (model prog w) A (.builtin "min.loop" ⟨[.ref I,.none,.ref S],[]⟩) R s:=by
 have hSw:S∉wr:=fun h=>hSf (W.sub _ h);have up:∀b∈wr,b∈S::wr:=fun b hb=>aJ _ hb;have nm:(toString "min"++toString ".loop":String)="min.loop":=by decide
 have ns:∀{b:Addr},b∉S::wr->S≠b:=fun hb h=>hb (by rw[h];exact aH)
 --the last turn
 have last:∀(s1:Shared)(x:Value)(d:Nat),St 2 s1->s1.heap.get? S=some {cls:=.type "list",dict:=none,data:=.seq #[x,x] d,slots:= #[]}->Moved (S::wr) G s s1->x=(if bt=true then v1 else v0)->
   eE (model prog w) A (.builtin "min.loop" ⟨[.ref I,.none,.ref S],[]⟩) R s1:=by
  intro s1 x d st g mv ex;refine cT w9 ?_;rw[cb eY _];show wpAny _ A.in1 (ji (.ref S)>>=_) _ _ s1;refine aa (dW g rfl ?_);show wpAny _ A.in1 (tryCatch (pyNext (.ref I)) _>>=_) _ _ s1;refine aa (fg (W.done s1 _ _ st fun s' hm=>?_));have g':=hm.heap S _ hSw g;show wpAny _ A.in1 (updateSeq S (fun _=> #[])>>=_) _ _ _;refine aa (hV g' rfl (aa (fE (ai ?_))));rw[ex];exact hR _ (nG W.gtrans mv ((hm.mono up).then_heap (tk:=s'.toks) (aw _) fun b o hb e=>(aD _ _ (ns hb)).trans e))
 --the second
 have second:∀(s1:Shared)(d:Nat),St 1 s1->s1.heap.get? S=some {cls:=.type "list",dict:=none,data:=.seq #[v0,v0] d,slots:= #[]}->Moved (S::wr) G s s1->
   eE (model prog w) A (.builtin "min.loop" ⟨[.ref I,.none,.ref S],[]⟩) R s1:=by
  intro s1 d st g mv;refine cT w9 ?_;rw[cb eY _];show wpAny _ A.in1 (ji (.ref S)>>=_) _ _ s1;refine aa (dW g rfl ?_);show wpAny _ A.in1 (tryCatch (pyNext (.ref I)) _>>=_) _ _ s1;refine aa (fg (W.item 1 s1 _ _ (by decide) st fun v s' hP st' hm=>?_));obtain rfl:=h1 v hP;have g':=hm.heap S _ hSw g;have mv':=nG W.gtrans mv (hm.mono up);show wpAny _ A.in1 (tryCatch (holding [v,v] (zf .Lt v v0>>=_)) _>>=_) _ _ _;refine aa (fg (bz (aa (hcmp _ _ _ mv' ?_))));refine aa (bz (cM ?_));refine aa (fE (ai ?_));cases hb:bt with
  |true=>
   simp only[if_true];refine aa (hV g' rfl (aa (fE ?_)));rw[nm];refine ai ⟨du eY _,last _ v _ (W.frame _ s' _ s'.toks st' (aw _) fun b hbf o e=>?_) (bF _ g' rfl) (mv'.then_heap (aw _) fun b o hb e=>(aD _ _ (ns hb)).trans e) (by rw[hb];rfl)⟩;exact(aD _ _ (fun h:S=b=>hSf (by rw[h];exact hbf))).trans e
  |false=>
   simp only[aL,if_false];refine aa (fE ?_);rw[nm];exact ai ⟨du eY _,last _ v0 _ st' g' mv' (by rw[hb];rfl)⟩
 refine cT w9 ?_;rw[cb eY _];show wpAny _ A.in1 (ji (.ref S)>>=_) _ _ s;refine aa (dW hS rfl ?_);show wpAny _ A.in1 (tryCatch (pyNext (.ref I)) _>>=_) _ _ s;refine aa (fg (W.item 0 s _ _ (by decide) hst fun v s' hP st' hm=>?_));obtain rfl:=h0 v hP;have g':=hm.heap S _ hSw hS;show wpAny _ A.in1 (updateSeq S (fun _=> #[v,v])>>=_) _ _ _;refine aa (hV g' rfl ?_);rw[nm];refine ai ⟨du eY _,second _ _ (W.frame _ s' _ s'.toks st' (aw _) fun b hbf o e=>?_) (bF _ g' rfl) ((hm.mono up).then_heap (aw _) fun b o hb e=>(aD _ _ (ns hb)).trans e)⟩;exact(aD _ _ (fun h:S=b=>hSf (by rw[h];exact hbf))).trans e
theorem CA(W:WalksS prog w A.in1 I fp wr G 2 P St){S:Addr}(hSf:S∉fp){v0 v1:Value}(h0:∀v,P 0 v->v=v0)(h1:∀v,P 1 v->v=v1){s:Shared}{c:Nat}{bt:Bool}(hst:St 0 s)
  (hS:s.heap.get? S=some {cls:=.type "list",dict:=none,data:=.seq #[] c,slots:= #[]})
  (hcmp:∀(s':Shared)(Q:Value->Shared->Prop)(E:Value->Shared->Prop),Moved (S::wr) G s s'->Q (.bool bt) s'->wpAny (model prog w) A.in1 (zf .Gt v1 v0) Q E s')
  (hR:∀s',Moved (S::wr) G s s'->R (.ok (.ret (if bt=true then v1 else v0))) s'):eE (model prog w) A (.builtin "max.loop" ⟨[.ref I,.none,.ref S],[]⟩) R s:=by
 have hSw:S∉wr:=fun h=>hSf (W.sub _ h);have up:∀b∈wr,b∈S::wr:=fun b hb=>aJ _ hb;have nm:(toString "max"++toString ".loop":String)="max.loop":=by decide
 have ns:∀{b:Addr},b∉S::wr->S≠b:=fun hb h=>hb (by rw[h];exact aH)
 --the last turn
 have last:∀(s1:Shared)(x:Value)(d:Nat),St 2 s1->s1.heap.get? S=some {cls:=.type "list",dict:=none,data:=.seq #[x,x] d,slots:= #[]}->Moved (S::wr) G s s1->x=(if bt=true then v1 else v0)->
   eE (model prog w) A (.builtin "max.loop" ⟨[.ref I,.none,.ref S],[]⟩) R s1:=by
  intro s1 x d st g mv ex;refine cT xi ?_;rw[cb eZ _];show wpAny _ A.in1 (ji (.ref S)>>=_) _ _ s1;refine aa (dW g rfl ?_);show wpAny _ A.in1 (tryCatch (pyNext (.ref I)) _>>=_) _ _ s1;refine aa (fg (W.done s1 _ _ st fun s' hm=>?_));have g':=hm.heap S _ hSw g;show wpAny _ A.in1 (updateSeq S (fun _=> #[])>>=_) _ _ _;refine aa (hV g' rfl (aa (fE (ai ?_))));rw[ex];exact hR _ (nG W.gtrans mv ((hm.mono up).then_heap (tk:=s'.toks) (aw _) fun b o hb e=>(aD _ _ (ns hb)).trans e))
 --the second
 have second:∀(s1:Shared)(d:Nat),St 1 s1->s1.heap.get? S=some {cls:=.type "list",dict:=none,data:=.seq #[v0,v0] d,slots:= #[]}->Moved (S::wr) G s s1->
   eE (model prog w) A (.builtin "max.loop" ⟨[.ref I,.none,.ref S],[]⟩) R s1:=by
  intro s1 d st g mv;refine cT xi ?_;rw[cb eZ _];show wpAny _ A.in1 (ji (.ref S)>>=_) _ _ s1;refine aa (dW g rfl ?_);show wpAny _ A.in1 (tryCatch (pyNext (.ref I)) _>>=_) _ _ s1;refine aa (fg (W.item 1 s1 _ _ (by decide) st fun v s' hP st' hm=>?_));obtain rfl:=h1 v hP;have g':=hm.heap S _ hSw g;have mv':=nG W.gtrans mv (hm.mono up);show wpAny _ A.in1 (tryCatch (holding [v,v] (zf .Gt v v0>>=_)) _>>=_) _ _ _;refine aa (fg (bz (aa (hcmp _ _ _ mv' ?_))));refine aa (bz (cM ?_));refine aa (fE (ai ?_));cases hb:bt with
  |true=>
   simp only[if_true];refine aa (hV g' rfl (aa (fE ?_)));rw[nm];refine ai ⟨du eZ _,last _ v _ (W.frame _ s' _ s'.toks st' (aw _) fun b hbf o e=>?_) (bF _ g' rfl) (mv'.then_heap (aw _) fun b o hb e=>(aD _ _ (ns hb)).trans e) (by rw[hb];rfl)⟩;exact(aD _ _ (fun h:S=b=>hSf (by rw[h];exact hbf))).trans e
  |false=>
   simp only[aL,if_false];refine aa (fE ?_);rw[nm];exact ai ⟨du eZ _,last _ v0 _ st' g' mv' (by rw[hb];rfl)⟩
 refine cT xi ?_;rw[cb eZ _];show wpAny _ A.in1 (ji (.ref S)>>=_) _ _ s;refine aa (dW hS rfl ?_);show wpAny _ A.in1 (tryCatch (pyNext (.ref I)) _>>=_) _ _ s;refine aa (fg (W.item 0 s _ _ (by decide) hst fun v s' hP st' hm=>?_));obtain rfl:=h0 v hP;have g':=hm.heap S _ hSw hS;show wpAny _ A.in1 (updateSeq S (fun _=> #[v,v])>>=_) _ _ _;refine aa (hV g' rfl ?_);rw[nm];refine ai ⟨du eZ _,second _ _ (W.frame _ s' _ s'.toks st' (aw _) fun b hbf o e=>?_) (bF _ g' rfl) ((hm.mono up).then_heap (aw _) fun b o hb e=>(aD _ _ (ns hb)).trans e)⟩;exact(aD _ _ (fun h:S=b=>hSf (by rw[h];exact hbf))).trans e
theorem pG{E:Value->Shared->Prop}{s:Shared}{p q:Addr}{us vs:List Value}{a b:List Int}{Q:Value->Shared->Prop}(hh:A.handled=none)(hu:A.units+1<cLine)(hx:IsTup s.heap p us.toArray)(hy:IsTup s.heap q vs.toArray)(ha:b7 us a)(hb:b7 vs b)(hl:a.length=b.length)
  (h:∀h' tk,(∀c o,s.heap.get? c=some o->h'.get? c=some o)->Q (if llt b a=true then .ref q else .ref p) {s with heap:=h',toks:=tk}):
  wpAny (model prog w) A (call (.builtin "min") [.ref p,.ref q]) Q E s:=by
 have hname:(toString "min"++toString ".loop":String)="min.loop":=by decide
 have hT:(s.heap.push {cls:=.type "tuple",data:=.seq #[.ref p,.ref q]}).IsTuple s.heap.objs.size #[.ref p,.ref q]:=⟨_,au _ rfl,rfl,0,rfl⟩;have hsz:(s.heap.push {cls:=.type "tuple",data:=.seq #[.ref p,.ref q]}).objs.size=s.heap.objs.size+1:=bN ..;refine call_function_tree F.kind_min F.plain_min F.entry_min (F.args_min2 _ _) ?_;show wpAny _ A.in1 (eK "min" ["key","default"] 0 ⟨[],[]⟩>>=_) _ _ s;refine aa (mz (show eK "min" ["key","default"] 0 ⟨[],[]⟩=pure [none,none]from rfl) ?_);show wpAny _ A.in1 (newTuple [.ref p,.ref q]>>=_) _ _ s;refine aa (bY ?_);refine aa (fG hT ?_);refine aa (bY ?_);rw[hname];have hz2:∀o o':Obj,((s.heap.push o).push o').objs.size=s.heap.objs.size+2:=fun o o'=>by rw[bN,bN]
 refine ai ⟨du eY _,Cy (v0:=.ref p) (v1:=.ref q) (bt:=llt b a) ((Walks.tuple (A:=A.in1) hh _ s.heap.objs.size (by rw[hsz];exact aE (bT _)) #[.ref p,.ref q]).toS) ?_ (fun v e=>by simpa using e.symm) (fun v e=>by simpa using e.symm) ⟨⟨_,af _ (au _ rfl),rfl,rfl⟩,(hT.push _).push _⟩ (au _ rfl) ?_ ?_⟩
 ·intro hm
  simp only[hz2,hsz]at hm;rcases aA.mp hm with e|hm
  ·exact absurd e (cS (bT _))
  ·exact absurd (aO.mp hm) (cS (bB (bT _)))
 ·intro s' Q' E' mv q'
  have old:∀c o,s.heap.get? c=some o->s'.heap.get? c=some o:=fun c o e=>by
   have hlt:=ax e;refine mv.heap c o (fun hm=>?_) (af _ (af _ (af _ e)));rcases aA.mp hm with e|hm
   ·rw[e]at hlt;simp only[hz2]at hlt;exact absurd hlt (fZ.mpr (da _ _))
   ·rw[aO.mp hm,hsz]at hlt;exact absurd hlt (fZ.mpr (da _ _))
  have hx':IsTup s'.heap p us.toArray:=hx.keeps old;have hy':IsTup s'.heap q vs.toArray:=hy.keeps old;exact kD (op:=.Lt) hy'.typeIs hx'.typeIs nN (cF nN hy'.typeIs F.entry_tuple_lt (Bd hy' hx' hb ha hl.symm ⟨_,rfl,(fun e=>nomatch e),q'⟩) (F.args_tuple_lt_2 _ _)) hu
 ·intro s' mv
  have old:∀c o,s.heap.get? c=some o->s'.heap.get? c=some o:=fun c o e=>by
   have hlt:=ax e;refine mv.heap c o (fun hm=>?_) (af _ (af _ (af _ e)));rcases aA.mp hm with e|hm
   ·rw[e]at hlt;simp only[hz2]at hlt;exact absurd hlt (fZ.mpr (da _ _))
   ·rw[aO.mp hm,hsz]at hlt;exact absurd hlt (fZ.mpr (da _ _))
  obtain⟨h',g',d',tk',os'⟩:=s';obtain rfl:g'=s.gens:=mv.gens;obtain rfl:d'=s.drawn:=mv.drawn;obtain rfl:os'=s.os:=mv.os;exact h h' tk' old
theorem Dg{E:Value->Shared->Prop}{s:Shared}{p q:Addr}{us vs:List Value}{a b:List Int}{Q:Value->Shared->Prop}(hh:A.handled=none)(hu:A.units+1<cLine)(hx:IsTup s.heap p us.toArray)(hy:IsTup s.heap q vs.toArray)(ha:b7 us a)(hb:b7 vs b)(hl:a.length=b.length)
  (h:∀h' tk,(∀c o,s.heap.get? c=some o->h'.get? c=some o)->Q (if llt a b=true then .ref q else .ref p) {s with heap:=h',toks:=tk}):
  wpAny (model prog w) A (call (.builtin "max") [.ref p,.ref q]) Q E s:=by
 have hname:(toString "max"++toString ".loop":String)="max.loop":=by decide
 have hT:(s.heap.push {cls:=.type "tuple",data:=.seq #[.ref p,.ref q]}).IsTuple s.heap.objs.size #[.ref p,.ref q]:=⟨_,au _ rfl,rfl,0,rfl⟩;have hsz:(s.heap.push {cls:=.type "tuple",data:=.seq #[.ref p,.ref q]}).objs.size=s.heap.objs.size+1:=bN ..;refine call_function_tree F.kind_max F.plain_max F.entry_max (F.args_max2 _ _) ?_;show wpAny _ A.in1 (eK "max" ["key","default"] 0 ⟨[],[]⟩>>=_) _ _ s;refine aa (mz (show eK "max" ["key","default"] 0 ⟨[],[]⟩=pure [none,none]from rfl) ?_);show wpAny _ A.in1 (newTuple [.ref p,.ref q]>>=_) _ _ s;refine aa (bY ?_);refine aa (fG hT ?_);refine aa (bY ?_);rw[hname];have hz2:∀o o':Obj,((s.heap.push o).push o').objs.size=s.heap.objs.size+2:=fun o o'=>by rw[bN,bN]
 refine ai ⟨du eZ _,CA (v0:=.ref p) (v1:=.ref q) (bt:=llt a b) ((Walks.tuple (A:=A.in1) hh _ s.heap.objs.size (by rw[hsz];exact aE (bT _)) #[.ref p,.ref q]).toS) ?_ (fun v e=>by simpa using e.symm) (fun v e=>by simpa using e.symm) ⟨⟨_,af _ (au _ rfl),rfl,rfl⟩,(hT.push _).push _⟩ (au _ rfl) ?_ ?_⟩
 ·intro hm
  simp only[hz2,hsz]at hm;rcases aA.mp hm with e|hm
  ·exact absurd e (cS (bT _))
  ·exact absurd (aO.mp hm) (cS (bB (bT _)))
 ·intro s' Q' E' mv q'
  have old:∀c o,s.heap.get? c=some o->s'.heap.get? c=some o:=fun c o e=>by
   have hlt:=ax e;refine mv.heap c o (fun hm=>?_) (af _ (af _ (af _ e)));rcases aA.mp hm with e|hm
   ·rw[e]at hlt;simp only[hz2]at hlt;exact absurd hlt (fZ.mpr (da _ _))
   ·rw[aO.mp hm,hsz]at hlt;exact absurd hlt (fZ.mpr (da _ _))
  have hx':IsTup s'.heap p us.toArray:=hx.keeps old;have hy':IsTup s'.heap q vs.toArray:=hy.keeps old;exact kD (op:=.Gt) hy'.typeIs hx'.typeIs F.slot_tuple_gt (cF F.slot_tuple_gt hy'.typeIs F.entry_tuple_gt (gt_tree hy' hx' hb ha hl.symm ⟨_,rfl,(fun e=>nomatch e),q'⟩) (F.args_tuple_gt_2 _ _)) hu
 ·intro s' mv
  have old:∀c o,s.heap.get? c=some o->s'.heap.get? c=some o:=fun c o e=>by
   have hlt:=ax e;refine mv.heap c o (fun hm=>?_) (af _ (af _ (af _ e)));rcases aA.mp hm with e|hm
   ·rw[e]at hlt;simp only[hz2]at hlt;exact absurd hlt (fZ.mpr (da _ _))
   ·rw[aO.mp hm,hsz]at hlt;exact absurd hlt (fZ.mpr (da _ _))
  obtain⟨h',g',d',tk',os'⟩:=s';obtain rfl:g'=s.gens:=mv.gens;obtain rfl:d'=s.drawn:=mv.drawn;obtain rfl:os'=s.os:=mv.os;exact h h' tk' old
end
noncomputable def rMinL(K:ae):List V->Hp->VK->Prop:=fun xs H Q=>∃(p q:Addr)(a b:List Int),xs=[V.ref p,V.ref q]/\SqT K H p (a.map V.int)/\SqT K H q (b.map V.int)/\a.length=b.length/\Q (if llt b a=true then .ref q else .ref p) H
noncomputable def rMaxL(K:ae):List V->Hp->VK->Prop:=fun xs H Q=>∃(p q:Addr)(a b:List Int),xs=[V.ref p,V.ref q]/\SqT K H p (a.map V.int)/\SqT K H q (b.map V.int)/\a.length=b.length/\Q (if llt a b=true then .ref q else .ref p) H
theorem De{X:Cx}(hc:X.calm=true)(hu:X.A.units+1<cLine):eL X (.builtin "min") (rMinL X.K):=by
 intro pins s σ H xs us Q I r h;obtain⟨p,q,a,b,rfl,h1,h2,hl,hq⟩:=h;obtain⟨u,w',rfl,r1,r2⟩:=vals2 r;cases r1;cases r2;obtain⟨its,ra,pl,_⟩:=I.tuple h1;obtain⟨its',rb,pl',_⟩:=I.tuple h2;refine _root_.Q.pG (I.ok.hd hc) hu pl pl' (intsAre_of ra) (intsAre_of rb) hl fun h' tk k=>⟨_,H,I.kept k,?_,hq⟩;split <;>rfl
theorem Df{X:Cx}(hc:X.calm=true)(hu:X.A.units+1<cLine):eL X (.builtin "max") (rMaxL X.K):=by
 intro pins s σ H xs us Q I r h;obtain⟨p,q,a,b,rfl,h1,h2,hl,hq⟩:=h;obtain⟨u,w',rfl,r1,r2⟩:=vals2 r;cases r1;cases r2;obtain⟨its,ra,pl,_⟩:=I.tuple h1;obtain⟨its',rb,pl',_⟩:=I.tuple h2;refine _root_.Q.Dg (I.ok.hd hc) hu pl pl' (intsAre_of ra) (intsAre_of rb) hl fun h' tk k=>⟨_,H,I.kept k,?_,hq⟩;split <;>rfl
noncomputable def mF(k:List Int×List Int):List Int:=k.1++k.2
theorem Be:∀{a c:List Int}(b d:List Int),a.length=c.length->llt (a++b) (c++d)=(llt a c||(decide (a=c)&&llt b d))
 | [],[],b,d,_=>by simp[llt]
 |x::a,y::c,b,d,h=>by
  have ih:=Be (a:=a) (c:=c) b d (by simpa using h);simp only[eT,llt,ih];by_cases e1:x=y
  ·subst e1;simp
  ·simp[e1]
noncomputable def P2(h:Heap)(v:Value)(k:List Int×List Int):Prop:=∃a o its n x y rest us ws,v=.ref a/\h.get? a=some o/\o.cls=.type "tuple"/\o.data=.seq its n/\its.toList=.ref x::.ref y::rest/\IsTup h x (us:List Value).toArray/\IsTup h y (ws:List Value).toArray/\b7 us k.1/\b7 ws k.2
noncomputable def P2s(h:Heap)(vs:List Value)(ps:List (List Int×List Int)):Prop:=Paired (P2 h) vs ps
theorem p2_at{h:Heap}{vs:List Value}{ps:List (List Int×List Int)}(r:P2s h vs ps){i:Nat}(hi:i<vs.length):P2 h (vs.getD i .none) (ps.getD i ([],[])):=by
 unfold P2s at r
 induction r generalizing i with
 |nil=>exact absurd hi (gQ _)
 |cons y t ih=>
  cases i with
  |zero=>exact y
  |succ i=>exact ih (by simpa using hi)
theorem p2_kat{h h1:Heap}(kp:∀b o,h.get? b=some o->h1.get? b=some o){vs:List Value}{ps:List (List Int×List Int)}(r:P2s h vs ps):∃fs,KatTups h1 vs fs/\fs.length=vs.length/\∀v∈fs,∃x o,v=aX x/\h1.get? x=some o/\o.cls=.type "tuple":=by
 unfold P2s at r
 induction r with
 |nil=>exact⟨[],.nil,rfl,fun v hv=>nomatch hv⟩
 | @cons v k vs ps y t ih=>
  obtain⟨fs,a1,a2,a3⟩:=ih;obtain⟨a,o,its,n,x,y,rest,us,ws,rfl,e2,e3,e4,e5,⟨ox,hx,cx,_⟩,_⟩:=y;refine⟨.ref x::fs,.cons (kp _ _ e2) e3 e4 (by rw[<-Array.getElem?_toList,e5];rfl) a1,by simp[a2],fun v hv=>?_⟩;rcases aA.mp hv with rfl|hv
  ·exact⟨x,ox,rfl,kp _ _ hx,cx⟩
  ·exact a3 v hv
section
variable {prog:Program}{w:World}{A:Around}{E:Value->Shared->Prop}{s:Shared}
theorem Ai{us:List Value}{k:List Int}(r:b7 us k):ItemsAre (bV prog w) (k.map .inl) us:=by
 induction r with
 |nil=>exact .nil
 |cons n t r ih=>exact .cons (lE _ _ _ _) ih
theorem AH{h:Heap}{x:Addr}{us:List Value}{k:List Int}(t:IsTup h x us.toArray)(r:b7 us k):IsTupleKey (bV prog w) h (k.map .inl) x:=by
 obtain⟨o,ho,hc,n,hd⟩:=t;exact⟨o,us.toArray,n,ho,hc,hd,Ai r⟩
theorem inl_inj{a c:List Int}:decide (a.map (eG:Int->Key)=c.map eG)=decide (a=c):=by
 refine decide_eq_decide.mpr ⟨fun h=>?_,fun h=>by rw[h]⟩
 induction a generalizing c with
 |nil=>cases c with
  |nil=>rfl
  |cons=>cases h
 |cons x a ih=>cases c with
  |nil=>cases h
  |cons y c=>
   simp only[bC,List.cons.injEq,eG.injEq]at h;rw[h.1,ih h.2]
theorem Bs{x y:Addr}{us ws:List Value}{a c:List Int}{Q:Bool->Shared->Prop}(hu:A.units<cLine)(hx:IsTup s.heap x us.toArray)(hy:IsTup s.heap y ws.toArray)(ha:b7 us a)(hc:b7 ws c)(h:Q (decide (a=c)) s):wpAny (model prog w) A (eqBool (.ref x) (.ref y)) Q E s:=by
 rw[<-inl_inj]at h;exact wpAny_eqBool_tuple (knd:=bV prog w) hu (AH hx ha) (AH hy hc) h
theorem Bc{x y:Addr}{us ws:List Value}{a c:List Int}{Q:Bool->Shared->Prop}(hu:A.units<cLine)(hx:IsTup s.heap x us.toArray)(hy:IsTup s.heap y ws.toArray)(ha:b7 us a)(hc:b7 ws c)(hl:a.length=c.length)(h:Q (llt a c) s):wpAny (model prog w) A (oneLt' false (.ref x) (.ref y)) Q E s:=
 kat_one _ _ (kD (op:=.Lt) hx.typeIs hy.typeIs nN (cF nN hx.typeIs F.entry_tuple_lt (Bd hx hy ha hc hl ⟨_,rfl,(fun e=>nomatch e),h⟩) (F.args_tuple_lt_2 _ _)) hu)
end
theorem yH{ps:List (List Int×List Int)}(i:Nat):(ps.map mF).getD i []=mF (ps.getD i ([],[])):=by
 rw[aj,aj,aQ];cases ps[i]? <;>rfl
theorem asks_p2{prog:Program}{w:World}{A:Around}{ps:List (List Int×List Int)}{vs:List Value}{h0:Heap}{m:Nat}(hu:A.units<cLine)(nd:(ps.map mF).Nodup)(hl:vs.length=ps.length)(r:P2s h0 vs ps)(h2:2<=vs.length)(hm:∀k∈ps,k.1.length=m/\k.2.length=m):Dv prog w A (ltL (ps.map mF)) vs h0:=by
 intro s1 kp;refine⟨tuples' false,fun Q' E' q=>?_,fun i j C hi hj hij q=>?_⟩
 ·obtain⟨fs,a1,a2,a3⟩:=p2_kat kp r
  refine kat_kind (T:=.type "tuple") a1 (by omega) (fun v hv=>?_) rfl q;obtain⟨x,o,rfl,e1,e2⟩:=a3 v hv;intro A Q E s k q;exact wR ⟨o,k _ _ e1,e2⟩ q
 ·obtain⟨a,o,its,n,x,y,rest,us,ws,e1,e2,e3,e4,e5,e6,e7,e8,e9⟩:=p2_at r hi
  obtain⟨a',o',its',n',x',y',rest',us',ws',f1,f2,f3,f4,f5,f6,f7,f8,f9⟩:=p2_at r hj;have hne:=neL nd (i:=i) (j:=j) (by rw[av];omega) (by rw[av];omega) hij;have l1:(ps.getD i ([],[])).1.length=m/\(ps.getD i ([],[])).2.length=m:=by rw[aj,ah (hl▸hi)];exact hm _ (bQ _)
  have l2:(ps.getD j ([],[])).1.length=m/\(ps.getD j ([],[])).2.length=m:=by rw[aj,ah (hl▸hj)];exact hm _ (bQ _)
  unfold kas_ask;unfold ltL at q;rw[yH,yH]at q hne;rw[e1,f1];generalize ps.getD i ([],[])=k at *;generalize ps.getD j ([],[])=k' at *;obtain⟨b,c⟩:=k;obtain⟨b',c'⟩:=k';unfold mF at q hne;rw[Be _ _ (l1.1.trans l2.1.symm)]at q;refine kat_lt (kp _ _ e2) e4 (kp _ _ f2) f4 ?_;rw[e5,f5];refine kat_cons (Bs hu (e6.keeps kp) (f6.keeps kp) e8 f8 ?_);by_cases e:b=b'
  ·subst e
   rw[show decide (b=b)=true by simp];have hc:c≠c':=fun z=>hne (by rw[z]);refine kat_yes (kat_cons (Bs hu (e7.keeps kp) (f7.keeps kp) e9 f9 ?_));dsimp only;rw[show decide (c=c')=false by simpa using hc];refine kat_no (Bc hu (e7.keeps kp) (f7.keeps kp) e9 f9 (l1.2.trans l2.2.symm) ?_);simp[ye]at q;exact q
  ·rw[show decide (b=b')=false by simpa using e]
   refine kat_no (Bc hu (e6.keeps kp) (f6.keeps kp) e8 f8 (l1.1.trans l2.1.symm) ?_);simp[e]at q;exact q
noncomputable def ke(H:Hp)(ys:List V)(ps:List (List Int×List Int)):Prop:=Paired (fun v k=>∃a x y rest,v=V.ref a/\H a=some (.tup (.ref x::.ref y::rest))/\H x=some (.tup (k.1.map V.int))/\H y=some (.tup (k.2.map V.int))) ys ps
theorem vd{H:Hp}{ys:List V}{ps:List (List Int×List Int)}(h:ke H ys ps):ps.length=ys.length:=by
 unfold ke at h
 induction h with
 |nil=>rfl
 |cons _ _ ih=>simp[ih]
theorem p2_of{P:Program}{w:World}{H:Hp}{h:Heap}(ok:HOk P w H h){ys:List V}{ps:List (List Int×List Int)}{vs:List Value}(k:ke H ys ps):bM ys vs->P2s h vs ps:=by
 unfold ke at k
 induction k generalizing vs with
 |nil=>intro z;cases z;exact .nil
 |cons y t ih=>
  intro z;cases z with
  |cons r q=>
   obtain⟨a,x,z,rest,rfl,e,ex,ez⟩:=y;cases r;obtain⟨_,its,rv,o,e1,e2,n,e3⟩:=ok a _ e;obtain⟨_,ux,rx,tx⟩:=ok x _ ex;obtain⟨_,uz,rz,tz⟩:=ok z _ ez;cases rv with
   |cons r1 rv=>cases rv with
    |cons r2 rv=>
     cases r1;cases r2;exact .cons ⟨a,o,_,n,x,z,_,ux,uz,rfl,e1,e2,e3,rfl,tx,tz,intsAre_of rx,intsAre_of rz⟩ (ih q)
noncomputable def EI(K:ae):List V->Hp->VK->Prop:=fun xs H Q=>∃(p:Addr)(ys:List V)(ps:List (List Int×List Int))(m:Nat),xs=[V.ref p]/\SqL K H p ys/\ps.length<64/\(ps.map mF).Nodup/\(∀k∈ps,k.1.length=m/\k.2.length=m)/\ke H ys ps/\∀l,H l=none->Q (.ref l) (upd H l (.lst (hX .non (ps.map mF) ys)))
theorem wt{X:Cx}(hu:X.A.units+2<cLine):eL X (.builtin "sorted") (EI X.K):=by
 intro pins s σ H xs us Q I r h;obtain⟨p,ys,ps,m,rfl,hq,h64,nd,hm,hk,q⟩:=h;obtain⟨u,rfl,rx⟩:=vals1 r;cases rx;obtain⟨its,r',pl,hz⟩:=I.list hq;have hl0:ps.length=ys.length:=vd hk;have hl:(ps.map mF).length=ys.length:=by rw[av];exact hl0
 have hlen:=r'.length;have hv:its.length=(ps.map mF).length:=by omega
 refine tT (lt:=ltL (ps.map mF)) (vs:=its) (by rw[hv];exact totL nd) pl.isList (by omega) (fun h2=>asks_p2 hu nd (by omega) (p2_of I.hok hk r') h2 hm) ?_;obtain⟨c,hc⟩:=sortedAll_at s.heap its (fK (ltL (ps.map mF)) its).toArray;have hz2:(hX V.non (ps.map mF) ys).length<=sizeLine:=by
  unfold hX;rw[av,(ud nd).length_eq,dR];omega
 exact⟨.ref (s.heap.objs.size+1),_,I.laid (t':=s.toks) (fun b o e=>sortedAll_old e) (dv _) (show cZ X.prog X.w _ _ _ (.lst (hX .non (ps.map mF) ys))from⟨hz2,_,c,uc nd hl r',hc⟩),rfl,q _ (I.hok.fresh (dv _))⟩
end Q
namespace PySem
noncomputable abbrev eT1(h:Heap)(t:Addr):Heap:=h.push {cls:=.type "tuple_iterator",data:=.fields #[.ref t,.int 0 0]}
noncomputable abbrev eT2(h:Heap)(t:Addr):Heap:=(eT1 h t).push {cls:=.type "enumerate",data:=.fields #[.none,.bool false,.ref h.objs.size,rawInt 0,.none,.none]}
theorem yc(t:Addr)(xs:Array Value)(n:Nat)(dct:Option Addr)(sl:Array (Option Value)):
  Meets (Builtin.«enumerate.__new__» ⟨[.type "enumerate",.ref t],[]⟩) (fun _ R s=>s.heap.get? t=some {cls:=.type "tuple",dict:=dct,data:=.seq xs n,slots:=sl}/\R (.ok (.ret (.ref (eT1 s.heap t).objs.size))) {s with heap:=eT2 s.heap t}):=
 .of_wp fun prog w A R s h=>by
  obtain⟨hp,g,d,tk,os⟩:=s;obtain⟨h0,h⟩:=h;have hsub:=sub_enumerate;have e1:Heap.IsTuple (Shared.heap ⟨hp,g,d,tk,os⟩) t xs:=⟨_,h0,rfl,n,rfl⟩
  wp_walk using jX h0
  refine wpAny_stack_any fun st=>ai ?_;split
  ·rename_i cc _ _ _ _ _
   generalize(cc==fN "enumerate")=bb;cases bb<;>(wp_walk using jX h0,fG e1;exact⟨_,rfl,h⟩)
  ·wp_walk using jX h0,fG e1
   exact⟨_,rfl,h⟩
section
variable {prog:Program}{w:World}{A:Around}{E:Value->Shared->Prop}{s:Shared}
theorem Au{t:Addr}{xs:Array Value}{Q:Value->Shared->Prop}(ht:s.heap.IsTuple t xs)
  (q:∀h',IsEnum h' (s.heap.objs.size+1) s.heap.objs.size 0 .none->h'.IsTupleIter s.heap.objs.size t 0->(∀c o,s.heap.get? c=some o->h'.get? c=some o)->Q (.ref (s.heap.objs.size+1)) {s with heap:=h'}):
  wpAny (model prog w) A (call (.type "enumerate") [.ref t]) Q E s:=by
 obtain⟨⟨c,dct,dt,sl⟩,e1,e2,n,e3⟩:=ht;obtain rfl:c=fN "tuple":=e2;obtain rfl:dt=Data.seq xs n:=e3;have z1:(eT1 s.heap t).objs.size=s.heap.objs.size+1:=bN ..;have g2:(eT2 s.heap t).get? (eT1 s.heap t).objs.size=some _:=au _ rfl;have g1:(eT2 s.heap t).get? s.heap.objs.size=some _:=af _ (au _ rfl);refine callType_new F.called_enumerate (by decide) (F.typeCall_enumerate_1 _) (F.newCall_enumerate_1 _) (fun obj=>F.args_object_init_2 obj _) F.entry_enumerate_new (yc t xs n dct sl) ⟨e1,?_⟩;show _/\_;rw[z1]at g2⊢;exact⟨⟨_,g2,rfl⟩,q _ g2 ⟨_,g1,rfl,rfl⟩ fun c o x=>af _ (af _ x)⟩
end
theorem drawsT{prog:Program}{w:World}{A:Around}(hh:A.handled=none)(j t:Addr)(hne:t≠j)(xs:Array Value):
  Draws prog w A j [j,t] xs.size (fun i v=>xs[i]? =some v) (fun i h=>h.IsTupleIter j t i/\h.IsTuple t xs) where
 live:=fun _ _ st=>by obtain⟨⟨o,ho,_⟩,_⟩:=st;exact⟨o,ho⟩
 frame:=fun _ _ _ st hk=>by
  obtain⟨⟨o,ho,r⟩,⟨o',ho',r'⟩⟩:=st;exact⟨⟨o,hk j (by simp) o ho,r⟩,⟨o',hk t (by simp) o' ho',r'⟩⟩
 item:=fun i s Q E hi st hQ=>Fn st.1 st.2 (v:=xs[i]) (by simp[hi]) fun h' hj hs=>hQ _ h' s.toks (by simp[hi]) ⟨hj,st.2.extBut hs.extBut hne⟩ hs
 done:=fun s Q E st hE=>A7 hh st.1 st.2 (by simp) hE
end PySem
namespace L2
open PySem PySem.Spec PyProof.Rows
noncomputable def Itet(K:ae)(a:Addr):It:=
 ⟨fun i H=>∃xs x,SqT K H a xs/\xs[i]? =some x,fun i H v H'=>∃p x,H p=none/\H'=upd H p (.tup [.int i,x])/\v=.ref p/\∀xs,SqT K H a xs->xs[i]? =some x,fun i H=>∃xs,SqT K H a xs/\xs.length<=i⟩
theorem zx{P:Program}{w:World}{K:ae}{es:List Expr}{kk:Nat}{pp:Pos}(a it e:Addr)(hne:e≠it):Turn P w K (.Tuple es kk pp) (Itet K a) [e,it] e (fun i h=>(∃old,IsEnum h e it i old)/\h.IsTupleIter it a i) where
 mem:=by simp
 obj:=fun i h st b hb=>by
  obtain⟨⟨old,he⟩,o,e1,c,d⟩:=st;have hb':b=e\/b=it:=by simpa using hb
  rcases hb' with rfl|rfl
  ·exact⟨_,he,fun v z=>by cases z⟩
  ·exact⟨o,e1,fun v z=>by rw[d]at z;cases z⟩
 keep:=fun i h h' st k=>by
  obtain⟨⟨old,he⟩,o,ho,r⟩:=st;exact⟨⟨old,k e (by simp) _ he⟩,o,k it (by simp) o ho,r⟩
 item:=by
  intro X hP hw hK hc i pins s σ H E I hf st hg;subst hP hw hK;obtain⟨xs,x,hq,hx⟩:=hg;obtain⟨its,rv,pl,hz⟩:=I.tuple hq;have pl:s.heap.IsTuple a its.toArray:=pl;obtain⟨u,hu,ru⟩:=rv.get hx;obtain⟨⟨old,he⟩,hl⟩:=st;obtain⟨f0,f1,f2,f3,f4,f5⟩:=hf e (by simp);obtain⟨g0,g1,g2,g3,g4,g5⟩:=hf it (by simp);have hilt:i<its.toArray.size:=by
   have :=(aY.mp hu).1
   simpa using this
  have hit:it<s.heap.objs.size:=by obtain⟨o,q,_⟩:=hl;exact ax q
  have haI:a≠it:=by
   obtain⟨o',q',qc',_⟩:=id hl;exact tup_ne pl q' (by rw[qc'];decide+kernel)
  have haE:e≠a:=bK (tup_ne pl he (by show fN "enumerate"≠fN "tuple";decide+kernel));have D:=drawsT (prog:=X.prog) (w:=X.w) (A:=X.A.in1) (I.ok.hd hc) it a haI its.toArray;refine wpAny_pyNext_enum_itemD D he ⟨hl,pl⟩ hilt hne (by simp[hne,haE]) fun y h' tk hy ho hst ht hsz kp=>?_;have eyu:y=u:=by
   have :its[i]? =some y:=by simpa using hy
   rw[hu]at this;exact(aP this).symm
  subst eyu;have hp:H s.heap.objs.size=none:=I.hok.fresh (aw _);have nE:∀b v,H b=some v->b≠e:=fun b v q z=>by rw[z,f0]at q;cases q
  have nI:∀b v,H b=some v->b≠it:=fun b v q z=>by rw[z,g0]at q;cases q
  have kp':∀c o,c∉[e,it]->s.heap.get? c=some o->h'.get? c=some o:=fun c o hc q=>kp c o (fun z=>hc (by simp[z])) (fun z=>hc (by simp[z])) q;have I1:Inv X pins σ (upd H s.heap.objs.size (.tup [.int i,x])) {s with heap:=h',toks:=tk+1}:=by
   refine I.step (g':=s.gens) (d':=s.drawn) (ch:=[e,it]) (fun b hb=>?_) (fun b o _ _ hc' q _=>kp' b o hc' q)
    (fun b o _ _ hc' q _=>⟨o.slots,kp' b o hc' q⟩) (fun b o _ q n=>by rw[aN (aE (ax q))];exact n)
    (fun b o hc' q=>⟨o,kp' b o hc' q⟩) (fun b ys q=>by rw[aN (bG q hp)];exact q) (fun b o v q=>by rw[aN (bG q hp)];exact q)
    (fun b ps q=>⟨#[],by rw[aN (bG q hp),q];simp⟩) (fun m hm=>?_) (fun b v q=>?_) I.bare
   ·have hb':b=e\/b=it:=by simpa using hb
    rcases hb' with rfl|rfl
    ·exact⟨f3,f1,f4,f5⟩
    ·exact⟨g3,g1,g4,g5⟩
   ·obtain⟨o,es',ep,q,r⟩:=hm
    exact⟨o,es',ep,kp _ o (bK f1) (bK g1) q,r⟩
   ·by_cases hb:b=s.heap.objs.size
    ·subst hb
     rw[aq]at q;cases q;exact⟨by show 2<=sizeLine;decide,[.int i tk,y],.cons ⟨tk,rfl⟩ (.cons ru .nil),⟨_,ht,rfl,_,rfl⟩⟩
    ·rw[aN hb]at q
     refine(I.hok b v q).pb (fun c o hc' q'=>kp c o ?_ ?_ q') (fun c q'=>by rw[aN (bG q' hp)];exact q') fun c ys q'=>by rw[aN (bG q' hp)];exact q'
     ·rcases hc' with z|z
      ·rw[z];exact nE b v q
      ·exact nE c _ z
     ·rcases hc' with z|z
      ·rw[z];exact nI b v q
      ·exact nI c _ z
  have fe:(upd H s.heap.objs.size (.tup [.int i,x])) e=none:=by rw[aN (aE (ax he))];exact f0
  refine⟨_,rfl,wpAny_letOwnedTupleGo_enum (s:={s with heap:=h',toks:=tk+1}) ho fun h'' he'' hs''=>?_⟩;have I2:Inv X pins σ (upd H s.heap.objs.size (.tup [.int i,x])) {s with heap:=h'',toks:=tk+1}:=I1.turned (t':=tk+1) (fun b o hb q=>hs''.extBut b o hb q) fe f1 f3 f4 f5;refine⟨.ref s.heap.objs.size,_,I2,rfl,⟨_,x,hp,rfl,rfl,fun ys hy'=>by rw[I.o9 hy' hq];exact hx⟩,⟨⟨y,?_⟩,hst.1.extBut hs''.extBut (bK hne)⟩,fun b hb=>?_⟩
  ·have :((i:Int)+1)=((i+1:Nat):Int):=by push_cast;rfl
   rw[<-this];exact he''
  ·have hb':b=e\/b=it:=by simpa using hb
   rcases hb' with rfl|rfl
   ·exact fe
   ·rw[aN (aE hit)];exact g0
 done:=by
  intro X hP hw hK hc i pins s σ H E I hf st hg;subst hP hw hK;obtain⟨xs,hq,hx⟩:=hg;obtain⟨its,rv,pl,hz⟩:=I.tuple hq;have pl:s.heap.IsTuple a its.toArray:=pl;obtain⟨⟨old,he⟩,hl⟩:=st;obtain⟨g0,g1,g2,g3,g4,g5⟩:=hf it (by simp);have hT:s.TypeIs (.ref e) "enumerate":=⟨_,he,rfl⟩;have hlen:=rv.length;unfold pyNext;refine aa (gX (d3 (name:=ao "__next__") hT F.slot_enumerate_next (cF F.slot_enumerate_next hT F.entry_enumerate_next ?_ (F.args_enumerate_next_1 _))));show wpAny _ _ (field (.ref e) 2>>=_) _ _ _;refine aa (gD he rfl (x:=.ref it) rfl ?_);refine aa (A7 (A:=X.A.in1) (I.ok.hd hc) hl pl (by simp;omega) fun h' z he' hx'=>?_);obtain⟨o,ho,hcl⟩:=hx';refine aa (jg (T:="StopIteration") (b:=true) ⟨o,ho,hcl⟩ isSubtype_stop ?_);exact ai ⟨rfl,I.turned (t':=s.toks) (fun b o hb q=>he' b o hb q) g0 g1 g3 g4 g5⟩
 self:=fun _ _ _ _ _ st h=>by
  obtain⟨⟨old,he⟩,_⟩:=st;exact wpAny_pyIter_enum he h
section
variable {X:Cx}{es:List Expr}{kk:Nat}{pp:Pos}
noncomputable def Ga(K:ae)(t:TA):TI:=fun σ H R=>t σ H fun vs H1=>∃a,vs=[.ref a]/\(∃xs,SqT K H1 a xs)/\R (Itet K a) H1
theorem EY{l:Expr}{t:TA}{p pos:Pos}(hg:Gl X "enumerate")(hm:X.mg "enumerate"=none)(ha:PA X [l] t)(hs:aM [l] X.env=[(false,eval l X.env)]:=by rfl):
  PI X (.Tuple es kk pp) (.Call (.Name "enumerate" p) [l] [] pos) (Ga X.K t):=by
 intro pins s σ H R I h;refine Call_ (kz I hg hm boot_enumerate (dJ (thn (ha pos pins s σ H _ I h) fun us s1 ⟨vs,H1,I1,r1,q1⟩=>?_) hs rfl));obtain⟨a,rfl,⟨xs,hq⟩,q⟩:=q1;obtain⟨u,rfl,ru⟩:=r1.one;cases ru;obtain⟨its,rv,pl,hz⟩:=I1.tuple hq;have pl:s1.heap.IsTuple a its.toArray:=pl;refine Au pl fun h' he hl' kp=>?_;refine wpAny_pyIter_enum (s:={s1 with heap:=h'}) he ?_;have I2:Inv X pins σ H1 {s1 with heap:=h',toks:=s1.toks}:=I1.kept kp;refine⟨_,[s1.heap.objs.size+1,s1.heap.objs.size],_,_,H1,rfl,I2,zx a s1.heap.objs.size (s1.heap.objs.size+1) (Nat.succ_ne_self _),⟨⟨_,he⟩,hl'⟩,fun b hb=>?_,q⟩;have hbs:s1.heap.objs.size<=b:=by
  simp only[aA,bP,or_false]at hb;rcases hb with rfl|rfl
  ·exact dv _
  ·exact aw _
 exact I1.wk hbs (I1.hok.fresh hbs)
end
end L2
namespace L2
open PySem PySem.Spec PySem.W PyProof.Rows
section
variable {prog:Program}{w:World}{A:Around}{E:Value->Shared->Prop}{h:Heap}{g:Array nH}{d:Drawn}{t:Nat}{os:OsState}{nm q:Str}{C N:Addr}{bs bm bmB:List Value}{hdct:Bool}{sn:List Str}{sub:List Value}{ab:Bool}{col:Option Bool}{dd:Option Addr}{k0 k1 k2 k3 k5:Option Value}{B newId initId:String}
noncomputable abbrev x6(h:Heap)(C:Addr)(rest:List Value):Heap:=(h.push {cls:=.type "tuple",data:=.seq rest.toArray}).push {cls:=.ref C,data:=.fields #[.ref h.objs.size,.none,.none,.none,.bool false,.none]}
theorem i0{rest:List Value}{b:Addr}{o:Obj}(e:h.get? b=some o):(x6 h C rest).get? b=some o:=af _ (af _ e)
theorem vX{rest:List Value}:(x6 h C rest).get? (h.objs.size+1)=some {cls:=.ref C,data:=.fields #[.ref h.objs.size,.none,.none,.none,.bool false,.none]}:=Heap.get?_push_at (by rw[bN]) rfl
theorem qS(F:ExcBaseFacts B newId initId bmB)(T:OwnTail h bmB bm){mN:Str->Option Value}{rest:List Value}{fI:Addr}{oI:Obj}{Q:dB->Shared->Prop}(hC:h.get? C=some (ic nm q C N bs bm hdct sn sub ab col dd k0 k1 k2 k3 k5 newId))
  (hn:h.Ns N mN)(hi:mN "__init__"=some (.ref fI))(hf:h.get? fI=some oI)(hfc:oI.cls=.type "function")(hrest:rest.length<=sizeLine)
  (hq:wpAny (model prog w) A (call (.ref fI) (.ref (h.objs.size+1)::rest)) (fun r s'=>r=.none/\Q (.done (.ret (.ref (h.objs.size+1)))) s') E ⟨x6 h C rest,g,d,t,os⟩):
  wpAny (model prog w) A (Builtin.«type.__call__» ⟨.ref C::rest,[]⟩) Q E ⟨h,g,d,t,os⟩:=by
 repeat(first
  |with_reducible refine iN hC ?_
  |with_reducible refine wpAny_madeBy_exc hC ?_
  |wp_step)
 refine codeAny_call_builtin_code (qo _ F.quiet) (wpAny_check_new_subT F T hC ?_);refine codeAny_exc_new_subT F T hC ?_ hrest;show wpAny _ _ _ _ _ (⟨x6 h C rest,g,d,t,os⟩:Shared);have c1:=i0 (C:=C) (rest:=rest) hC;have n1:(x6 h C rest).Ns N mN:=hn.keeps fun b o e=>i0 e;have T1:=T.keeps (h':=x6 h C rest) fun b o e=>i0 e;have cc:(aX C::bm).contains (.ref C)=true:=by simp
 have ea:=vX (h:=h) (C:=C) (rest:=rest);unfold tK;repeat(first
  |with_reducible refine iN ea ?_
  | (with_reducible refine wpAny_isSubtype_exc c1 ?_;rw[cc])
  |wp_step)
 show wpAny _ _ (typeLookup (.ref C) _) _ _ _;refine wpAny_typeLookup_tail c1 n1 T1 F.mroIs F.init.lookup ?_;rw[hi];refine bz (aa ?_);unfold bindSpecial;refine aa (wR (T:="function") ⟨_,i0 hf,hfc⟩ ?_);rw[if_pos (by decide)];refine ai (aa (cH hq (fun r s' z=>?_) fun _ _ z=>z));obtain⟨rfl,z⟩:=z
 wp_walk
 exact z
theorem Di(F:ExcBaseFacts B newId initId bmB)(T:OwnTail h bmB bm){mN:Str->Option Value}{rest:List Value}{fI:Addr}{oI:Obj}{Q:Value->Shared->Prop}(hC:h.get? C=some (ic nm q C N bs bm hdct sn sub ab col dd k0 k1 k2 k3 k5 newId))
  (hn:h.Ns N mN)(hi:mN "__init__"=some (.ref fI))(hf:h.get? fI=some oI)(hfc:oI.cls=.type "function")(hrest:rest.length<=sizeLine)
  (hq:wpAny (model prog w) (A.under (.builtin "type.__call__" ⟨.ref C::rest,[]⟩)) (call (.ref fI) (.ref (h.objs.size+1)::rest)) (fun r s'=>r=.none/\Q (.ref (h.objs.size+1)) s') E ⟨x6 h C rest,g,d,t,os⟩):
  wpAny (model prog w) A (call (.ref C) rest) Q E ⟨h,g,d,t,os⟩:=by
 have f1:=tc_lookup;have f2:=tc_bind (.ref C);have hT:(⟨h,g,d,t,os⟩:Shared).TypeIs (.ref C) "type":=⟨_,hC,rfl⟩;refine fH (AG ?_);show wpAny _ _ (callAny (.ref C) _) _ _ _;repeat(any_goals (first
  |assumption
  |with_reducible refine iN hC ?_
  |wp_step))
 refine⟨rfl,?_⟩;exact codeAny_call_builtin_at (qo _ (by decide+kernel)) entry_typeCall (wpAny_check_type_call_sub hC (qS F T hC hn hi hf hfc hrest hq))
theorem Dp(F:ExcBaseFacts B newId initId bmB)(T:OwnTail h bmB bm){rest:List Value}{e x0:Addr}{Q:Value->Shared->Prop}(hC:h.get? C=some (ic nm q C N bs bm hdct sn sub ab col dd k0 k1 k2 k3 k5 newId))
  (he:h.get? e=some {cls:=.ref C,data:=.fields #[.ref x0,.none,.none,.none,.bool false,.none]}) (hrest:rest.length<=sizeLine)
  (hq:∀h':Heap,(∀b o,b≠e->h.get? b=some o->h'.get? b=some o)->(∃b,h'.get? e=some {cls:=.ref C,data:=.fields #[.ref b,.none,.none,.none,.bool false,.none]})->h.objs.size<=h'.objs.size->Q .none ⟨h',g,d,t,os⟩):
  wpAny (model prog w) A (call (.builtin initId) (.ref e::rest)) Q E ⟨h,g,d,t,os⟩:=by
 refine fH (gF F.init.plain F.initEntry (wpAny_check_init_subT F T hC he rfl ?_))
 wp_walk
 have hlt:=ax he;refine hq _ (fun b o hb e1=>?_) ⟨h.objs.size,?_⟩ ?_
 ·rw[aD _ _ (bK hb)]
  exact af _ e1
 ·rw[bF _ (af _ he) rfl]
  rfl
 ·rw[lr,bN]
  exact dv _
end
noncomputable def exO(e C:Addr)(d:Option Addr):HO:=.ext fun h=>∃x0,h.get? e=some {cls:=.ref C,dict:=d,data:=.fields #[.ref x0,.none,.none,.none,.bool false,.none]}
noncomputable def xdO(d:Addr)(fs:List (Str×V)):HO:=.ext fun h=>∃mA,h.Ns1 d mA/\(∀f,la (fs.lookup f) (mA f))/\gZ mA (fs.map (·.1))
noncomputable def ng(K:ae)(C f:Addr)(bmB:List Value)(newId:String):Bool:=match K.lookup C with
 |some ⟨.type "type",_,.cls cd,sl⟩=>(match cd.mro,sl.toList with
  |.ref C'::bm,[_,_,_,_,some (.builtin n),_]=>C'==C&&n==newId&& !cd.hasDel&&tailIn K bmB bm&&nsOkIn K cd.ns&&nsIn K cd.ns "__init__"==some (some (.ref f))
  |_,_=>false)
 |_=>false
theorem ns_some{K:ae}{h:Heap}{N:Addr}{mg:Str->Option Value}{n:Str}{v:Value}(X:K.In h)(G:h.Ns N mg)(e:nsIn K N n=some (some v)):mg n=some v:=by
 obtain⟨o,es,ep,ho,hd,_,hf⟩:=G;unfold nsIn at e;split at e
 ·rename_i q
  have z:=X _ _ q;rw[ho]at z;cases z;cases hd;split at e
  ·rename_i en he
   rw[<-hf];unfold nsFind findBy;rw[<-pT,he];simpa using e
  ·split at e<;>cases e
 ·cases e
theorem sg{K:ae}{h:Heap}{C f:Addr}{bmB:List Value}{newId:String}(kin:K.In h)(q:ng K C f bmB newId=true):
  ∃nm qn N bs bm hd sn sub ab col dd k0 k1 k2 k3 k5 mN,h.get? C=some (ic nm qn C N bs bm hd sn sub ab col dd k0 k1 k2 k3 k5 newId)/\h.Ns N mN/\mN "__init__"=some (.ref f)/\OwnTail h bmB bm:=by
 unfold ng at q;split at q
 case h_2=>cases q
 rename_i od cd sl ho;split at q
 case h_2=>cases q
 rename_i C' bm j0 j1 j2 j3 n j5 hm hs;rw[ag,ag,ag,ag,ag,beq_iff_eq,beq_iff_eq,beq_iff_eq]at q;obtain⟨⟨⟨⟨⟨e1,e2⟩,e3⟩,e4⟩,e5⟩,e6⟩:=q;subst e1;subst e2;obtain⟨c1,c2,c3,c4,c5,c6,c7,c8,c9,c10,c11⟩:=cd;have e7:c3=.ref C'::bm:=hm;have e8:c11=false:=by simpa using e3
 have e9:sl= #[j0,j1,j2,j3,some (.builtin n),j5]:=by
  apply xk
  exact hs
 subst e7;subst e8;subst e9;exact⟨_,_,_,_,_,_,_,_,_,_,_,_,_,_,_,_,_,kin _ _ ho,.of_isNs (isNs_of_in kin e5),ns_some kin (.of_isNs (isNs_of_in kin e5)) e6,tail_of_in kin e4⟩
structure MkX(K:ae)(C f:Addr):Prop where
 ex:ng K C f bmV "ValueError.__new__"=true
 fn:∃o,K.lookup f=some o/\o.cls=.type "function"
 kp:keepIn K (.ref C)=true
section
variable {X:Cx}{CX:CXT}{C f:Addr}{k:Nat}{fd:dI}{ps:List Str}{sp:Sp}{ds:List Value}{dvs:List V}{E:XK}
theorem Cb{pins:List (Addr×Obj)}{σ:St}{H:Hp}{s:Shared}{Q:VK}{us:List Value}{vs:List V}(M:MkX X.K C f)(F:fX X.prog X.w X.K X.mg X.base CX k f fd ps sp)(hr:gC (k+1) X.A)(hb:Binds X.K fd ps ds)(hd:bM dvs ds)
  (hx:∀(H':Hp)(s1:Shared)(e:Value)(s':Shared),Inv X pins σ H' s1->CX X.stack H' s1 E e s'->X.xe e s')(I:Inv X pins σ H s)(r:bM vs us)(hl0:vs.length<=sizeLine)
  (h:∀x,s.heap.objs.size<=x->H x=none->sp (.ref x::(vs++dvs)) (upd H x (exO x C none)) (fun v H2=>v=.non/\Q (.ref x) H2) E):
  wpAny (model X.prog X.w) X.A (call (.ref C) us) (EP X pins σ Q) X.xe s:=by
 have hq:=h (s.heap.objs.size+1) (dv _) (I.hok.fresh (dv _));obtain⟨nm,qn,N,bs,bm,hd',sn,sub,ab,col,dd,k0,k1,k2,k3,k5,mN,hC,hN,hi,T⟩:=sg (bmB:=bmV) I.kIn M.ex;obtain⟨oI,hf,hfc⟩:=M.fn;have I2:Inv X pins σ (upd H (s.heap.objs.size+1) (exO (s.heap.objs.size+1) C none)) {s with heap:=x6 s.heap C us}:=by
  refine I.laid (t':=s.toks) (fun b o e=>i0 e) (dv _) ?_;exact⟨⟨_,vX⟩,⟨_,vX⟩,fun h1 h2 ⟨x0,z⟩ k=>⟨x0,k _ z⟩⟩
 have r2:bM (V.ref (s.heap.objs.size+1)::(vs++dvs)) (aX (s.heap.objs.size+1)::(us++ds)):=.cons rfl (r.append hd);have hl:(aX (s.heap.objs.size+1)::us++ds).length=ps.length:=by
  have e:=r2.length;rw[F.len _ _ _ _ hq]at e;exact e.symm
 obtain⟨hh,gg,dr,tk,os⟩:=s;refine Di (fI:=f) jl T hC hN hi (I.kIn _ _ hf) hfc (by rw[<-r.length];exact hl0) ?_;refine fH (gM (F.run _ X.stack _ _ ⟨aX (hh.objs.size+1)::us,[]⟩ (aX (hh.objs.size+1)::(us++ds)) _ _ E (hr.make C us []) (I2.env0.make C us []) (hb _ (aX (hh.objs.size+1)::us) I2.kIn hl) r2 hq) fun r s' hq'=>?_);cases r with
 |error e=>exact hx _ _ e s' I2 hq'
 |ok fl=>
  cases fl with
  |ret u=>
   obtain⟨v,H',I3,rv,ev,q3⟩:=I2.after hq';subst ev;exact⟨rv,⟨V.ref (hh.objs.size+1),H',I3,rfl,q3⟩⟩
  |next =>exact d8 hq'
  |brk=>exact d8 hq'
  |cont=>exact d8 hq'
end
end L2
namespace L2
open PySem PySem.Spec PySem.W PyProof.Rows PySem.Builtin PySem.Builtin.ObjectAttr
noncomputable def xS:List Value->Bool
 |.ref _::r=>xS r
 |l=>l==bmV
theorem refuseV(self:Value):refuseLoop self "__setattr__" bmV=pure ():=by kernel_rfl
theorem AU(self:Value):∀{l:List Value},xS l=true->refuseLoop self "__setattr__" l=pure ()
 |.ref c::r,e=>by
  rw[refuseLoop_ref];exact AU self e
 | [],e=>by cases e
 |.type n::r,e=>by rw[show(.type n::r:List Value)=bmV from beq_iff_eq.mp e];exact refuseV self
 |.none::r,e=>by cases e
 |.ellipsis::r,e=>by cases e
 |.notImplemented::r,e=>by cases e
 |.bool _::r,e=>by cases e
 |.int _ _::r,e=>by cases e
 |.float _ _::r,e=>by cases e
 |.str _ _::r,e=>by cases e
 |.bytes _ _::r,e=>by cases e
 |.builtin _::r,e=>by cases e
theorem ub:∀{l:List Value},xS l=true->l.contains (.type "object")=true
 |.ref c::r,e=>by rw[List.contains_cons,ub (l:=r) e,Bool.or_true]
 | [],e=>by cases e
 |.type n::r,e=>by rw[show(.type n::r:List Value)=bmV from beq_iff_eq.mp e];decide
 |.none::r,e=>by cases e
 |.ellipsis::r,e=>by cases e
 |.notImplemented::r,e=>by cases e
 |.bool _::r,e=>by cases e
 |.int _ _::r,e=>by cases e
 |.float _ _::r,e=>by cases e
 |.str _ _::r,e=>by cases e
 |.bytes _ _::r,e=>by cases e
 |.builtin _::r,e=>by cases e
section
variable {prog:Program}{w:World}{K:ae}{A:Around}{R:Result->Shared->Prop}{s:Shared}{x C:Addr}
theorem xT{ox:Obj}{od:Option Obj}{name:Str}{tk:Tok}{v:Value}(X:K.In s.heap)(I:InstAt s.heap x ox C od)(hp:(clsIn K C).any (fun cd=>xS cd.mro)=true)(ht:takerIn K C name=some none)
  (h:∀b,wpAny (model prog w) A.in1 (storeInOwnDict (.ref x) (.ref C) (.str name tk) name v b)
   (fun fin s'=>match fin with |.done f=>R (.ok f) s'|.again c'=>c'.quiet=true/\eE (model prog w) A c' R s') (fun e s'=>R (.error e) s') s):
  eE (model prog w) A (.call (.builtin "object.__setattr__") ⟨[.ref x,.str name tk,v],[]⟩) R s:=by
 have SF:=PySem.F.store_object;obtain⟨cd,hc,ho⟩:=any_some hp;have ne:cd.mro.isEmpty=false:=by cases q:cd.mro with |nil=>rw[q]at ho;cases ho|cons _ _=>rfl
 have sub:Looks (model prog w) s.heap (tK (.ref x) (.type "object")) true:=I.type.andThen (looks_mroIn X (by unfold mroIn;rw[hc,eM,if_neg (by rw[ne];decide),ub ho]));refine gF SF.slot.plain SF.entry (@check_slot (model prog w) _ _ s "object.__setattr__" "object" "__setattr__" (.ref x) [.str name tk,v] [] _ SF.kind SF.split sub (SF.args (.ref x) (.str name tk) v) ?_);obtain⟨attr,ha,hr⟩:=Option.bind_eq_some_iff.mp ht;have hm:Looks (model prog w) s.heap (mroOf (.ref C)) cd.mro:=(looks_clsIn X hc).andThen .now;have L3:Looks (model prog w) s.heap (storeTaker? attr) none:=by
  cases attr with
  |none=>exact .now
  |some a=>
   obtain⟨b,hb,q⟩:=lq.mp hr;refine(looks_takesIn X hb).andThen ?_;cases b
   ·exact .now
   ·cases q
 rw[osa_eq,refuse_eq];refine aa (aa (I.type.here (aa (hm.here ?_))));rw[AU _ ho];refine ai (aa (I.type.here (aa ((oX X ha).here (aa (L3.here ?_))))));exact h _
end
section
variable {prog:Program}{w:World}{K:ae}{A:Around}{E:Value->Shared->Prop}{s:Shared}{e C:Addr}{name:Str}{v:Value}{vs:Array Value}{Q:Unit->Shared->Prop}
structure StX(K:ae)(C:Addr)(name:Str):Prop where
 hs:findIn K (.ref C) "__setattr__"=some (some (.builtin "object.__setattr__"))
 hp:(clsIn K C).any (fun cd=>xS cd.mro)=true
 ht:takerIn K C name=some none
 hd:(clsIn K C).any (·.hasDict)=true
noncomputable abbrev kQ(C:Addr)(d:Option Addr)(vs:Array Value):Obj:={cls:=.ref C,dict:=d,data:=.fields vs}
theorem Gq{h:Heap}(he:h.get? e=some (kQ C none vs)):InstAt h e (kQ C none vs) C none:=⟨he,rfl,rfl,trivial⟩
theorem Gp{h:Heap}{d:Addr}{o:Obj}(he:h.get? e=some (kQ C (some d) vs))(hd:h.get? d=some o):InstAt h e (kQ C (some d) vs) C (some o):=⟨he,rfl,rfl,hd⟩
theorem zJ(X:K.In s.heap)(S:StX K C name)(he:s.heap.get? e=some (kQ C none vs))
  (h:∀h',h'.get? e=some (kQ C (some s.heap.objs.size) vs)->h'.Ns1 s.heap.objs.size (fun y=>if y=name then some v else none)->(∀b o,b≠e->s.heap.get? b=some o->h'.get? b=some o)->Q () {s with heap:=h',toks:=s.toks+2}):
  wpAny (model prog w) A (BC (.ref e) name v) Q E s:=by
 have I:=Gq he;refine set_plain X I S.hs (xT (s:={s with toks:=s.toks+1}) X I S.hp S.ht fun b=>?_);obtain⟨cd,hc,hd'⟩:=any_some S.hd;refine aa (ai (aa (aa (qx he (aa (ma (s:={s with toks:=s.toks+1}) (nC X hc) ?_))))));rw[hd'];show wpAny _ _ (alloc {cls:=.type "dict",data:=.dict #[]}>>=_) _ _ _;have he1:(s.heap.push {cls:=.type "dict",data:=.dict #[]}).get? e=some (kQ C none vs):=af _ he;have hlt:=ax he;refine aa (wpAny_alloc (aa (wpAny_update he1 ?_)));show wpAny _ _ (pure (some s.heap.objs.size)) _ _ _;refine ai ?_;show wpAny _ _ (pure ()>>=_) _ _ _;refine aa (ai (aa ?_));have hne:s.heap.objs.size≠e:=cS hlt;have hd0:((s.heap.push {cls:=.type "dict",data:=.dict #[]}).update e fun o=>{o with dict:=some s.heap.objs.size}).get? s.heap.objs.size=some {cls:=.type "dict",data:=.dict #[]}:=by
  rw[aD _ _ (bK hne)];exact au _ rfl
 have hn0:((s.heap.push {cls:=.type "dict",data:=.dict #[]}).update e fun o=>{o with dict:=some s.heap.objs.size}).Ns1 s.heap.objs.size (fun _=>none):=
  ⟨_,#[],_,hd0,rfl,fun x hx=>by simp at hx,iV,fun y=>rfl⟩
 have hw:gZ (fun _=>none:Str->Option Value) []:=gZ.nil;refine wpAny_nsSet1 hn0 fun h' hn2 hs2=>?_;obtain⟨oD,esD,epD,hoD,hdD,hcD⟩:=hn2.count (mW name v hw);refine aa (yW hoD (by rw[hdD];exact yY (aF hcD (by show 1<=sizeLine+1;decide))) ?_);refine ai (h _ ?_ hn2 fun b o hb q=>?_)
 ·rw[hs2.2 _ (bK hne),bF _ he1 rfl]
 ·have hbs:b≠s.heap.objs.size:=aE (ax q)
  rw[hs2.2 _ hbs,aD _ _ (bK hb)];exact af _ q
theorem B5{d:Addr}{mA:Str->Option Value}{ns:List Str}(X:K.In s.heap)(S:StX K C name)(he:s.heap.get? e=some (kQ C (some d) vs))(hn:s.heap.Ns1 d mA)(hw:gZ mA ns)(hsz:ns.length<sizeLine)
  (h:∀h',h'.Ns1 d (fun y=>if y=name then some v else mA y)->cR d s.heap h'->Q () {s with heap:=h',toks:=s.toks+2}):
  wpAny (model prog w) A (BC (.ref e) name v) Q E s:=by
 obtain⟨o,es,ep,ho,hn'⟩:=id hn;have I:=Gp he ho;refine set_plain X I S.hs (xT (s:={s with toks:=s.toks+1}) X I S.hp S.ht fun b=>?_);obtain⟨cd,hc,hd'⟩:=any_some S.hd;refine aa (ai (aa (aa (qx he (aa (ma (s:={s with toks:=s.toks+1}) (nC X hc) ?_))))));rw[hd'];show wpAny _ _ (pure (some d)) _ _ _;refine ai ?_;show wpAny _ _ (pure ()>>=_) _ _ _;refine aa (ai (aa ?_));refine wpAny_nsSet1 (s:={s with toks:=s.toks+1}) hn fun h' hn2 hs2=>?_;obtain⟨oD,esD,epD,hoD,hdD,hcD⟩:=hn2.count (mW name v hw);refine aa (yW hoD (by rw[hdD];exact yY (aF hcD (by rw[bo];omega))) ?_);exact ai (h _ hn2 hs2)
end
end L2
namespace L2
open PySem PySem.Spec PySem.W PyProof.Rows
section
variable {X:Cx}{pins:List (Addr×Obj)}{σ:St}{H:Hp}{s:Shared}{A:Around}{E:Value->Shared->Prop}{a C:Addr}{f:Str}
theorem xd_ok{P:Program}{w:World}{h:Heap}{d:Addr}{fs:List (Str×V)}(H:Hp){mA:Str->Option Value}(n:h.Ns1 d mA)(r:∀f,la (fs.lookup f) (mA f))(wi:gZ mA (fs.map (·.1))):cZ P w H h d (xdO d fs):=
 ⟨⟨mA,n,r,wi⟩,let⟨o,_,_,e,_⟩:=n;⟨o,e⟩,fun h1 h2 ⟨m,n,r⟩ k=>⟨m,n.at k,r⟩⟩
theorem ex_ok{P:Program}{w:World}{h:Heap}{e:Addr}{d:Option Addr}{x0:Addr}(H:Hp)(q:h.get? e=some (kQ C d #[.ref x0,.none,.none,.none,.bool false,.none])):cZ P w H h e (exO e C d):=
 ⟨⟨x0,q⟩,⟨_,q⟩,fun h1 h2 ⟨x,z⟩ k=>⟨x,k _ z⟩⟩
theorem Eo{y:V}{u:Value}{Q:Unit->Shared->Prop}(I:Inv X pins σ H s)(e:H a=some (exO a C none))(S:StX X.K C f)(ry:RelV y u)
  (h:∀s' dd,H dd=none->Inv X pins σ (upd (upd H dd (xdO dd [(f,y)])) a (exO a C (some dd))) s'->Q () s'):wpAny (model X.prog X.w) A (BC (.ref a) f u) Q E s:=by
 obtain⟨⟨x0,he⟩,_⟩:=I.hok a _ e;refine zJ I.kIn S he fun h' h1 h2 kp=>h _ s.heap.objs.size (I.hok.fresh (aw _)) ?_;obtain⟨od,es,ep,ed,r⟩:=id h2;have hfr:H s.heap.objs.size=none:=I.hok.fresh (aw _);have hne:s.heap.objs.size≠a:=cS (ax he);have ep1:(s.heap.push od).get? s.heap.objs.size=some od:=au _ (Obj.isFreed_of_dict r.1);have n1:(s.heap.push od).Ns1 s.heap.objs.size (fun y=>if y=f then some u else none):=⟨od,es,ep,ep1,r⟩;have I1:Inv X pins σ (upd H s.heap.objs.size (xdO s.heap.objs.size [(f,y)])) {s with heap:=s.heap.push od,toks:=s.toks}:=by
  refine I.laid (t':=s.toks) (fun b o q=>af _ q) (aw _) (xd_ok _ n1 (fun g=>?_) fun g hg=>?_)
  ·by_cases q:g=f
   ·subst q
    simp[cg];exact ry
   ·have :(g==f)=false:=by simpa using q
    simp[cg,this,q];exact True.intro
  ·by_cases q:g=f
   ·simp[q]
   ·exact absurd (if_neg q) hg
 have e1:upd H s.heap.objs.size (xdO s.heap.objs.size [(f,y)]) a=some (exO a C none):=by rw[aN (bK hne)];exact e
 refine I1.write (x:=a) (e:=a) (t':=s.toks+2) (by rw[e1];exact True.intro) (.inl rfl) (fun b o hb q=>?_) ⟨_,h1⟩ (ex_ok _ h1);by_cases hbs:b=s.heap.objs.size
 ·subst hbs
  have q:(s.heap.push od).get? s.heap.objs.size=some o:=q;rw[ep1]at q;cases q;exact ed
 ·refine kp b o hb ?_
  have q:(s.heap.push od).get? b=some o:=q;rw[Heap.get?_push_ne _ _ _ hbs]at q;exact q
theorem En{y:V}{u:Value}{dd:Addr}{fs:List (Str×V)}{Q:Unit->Shared->Prop}(I:Inv X pins σ H s)(e:H a=some (exO a C (some dd)))(ed:H dd=some (xdO dd fs))(hl:fs.length<1000)(S:StX X.K C f)(ry:RelV y u)
  (h:∀s',Inv X pins σ (upd H dd (xdO dd (gR f y fs))) s'->Q () s'):wpAny (model X.prog X.w) A (BC (.ref a) f u) Q E s:=by
 obtain⟨⟨x0,he⟩,_⟩:=I.hok a _ e;obtain⟨⟨mA,hn,r,wi⟩,_⟩:=I.hok dd _ ed;refine B5 I.kIn S he hn wi (by rw[av,jQ];omega) fun h' n2 sb=>h _ ?_;have hd:∃o,h'.get? dd=some o:=let⟨o,_,_,e',_⟩:=n2;⟨o,e'⟩;refine I.write (x:=dd) (e:=dd) (t':=s.toks+2) (by rw[ed];exact True.intro) (.inl rfl) (fun b o hb q=>(sb.2 b hb).trans q) hd (xd_ok _ n2 (fun g=>?_) fun g hg=>?_)
 ·show la ((gR f y fs).lookup g) (if g=f then some u else mA g)
  rw[lH];by_cases q:g=f
  ·rw[if_pos q,if_pos q];exact ry
  ·rw[if_neg q,if_neg q];exact r g
 ·by_cases q:g=f
  ·rw[q];exact(j6 f y fs).1
  ·refine(j6 f y fs).2 g (wi g fun z=>hg ?_)
   show(if g=f then some u else mA g)=none;rw[if_neg q];exact z
end
noncomputable def sFldX(K:ae)(ta tv:TE)(f:Str):TS:=fun D σ H=>tv σ H fun y H1=>ta σ H1 fun x H2=>∃a C,x=.ref a/\StX K C f/\
 ((H2 a=some (exO a C none)/\∀dd,H2 dd=none->D.nx σ (upd (upd H2 dd (xdO dd [(f,y)])) a (exO a C (some dd))))\/
  ∃dd fs,H2 a=some (exO a C (some dd))/\H2 dd=some (xdO dd fs)/\fs.length<1000/\D.nx σ (upd H2 dd (xdO dd (gR f y fs))))
section
variable {X:Cx}{o value:Expr}{f:Str}{pos pos':Pos}{ta tv:TE}
theorem ps_fldX(ha:PE X o ta)(hv:PE X value tv)(hs:kT value (some (.Attribute o f pos')) pos.line X.env=pure false):PS X (.Assign [.Attribute o f pos'] value pos) (sFldX X.K ta tv f):=by
 intro pins s σ H D I h;refine xl (thn (hv pins s σ H _ I h) fun u s1 ⟨y,H1,I1,ry,q⟩=>thn (ha pins s1 σ H1 _ I1 q) fun ov s2 ⟨x,H2,I2,rx,a,C,ex,S,q2⟩=>?_) hs;subst ex;obtain rfl:ov=aX a:=rx;rcases q2 with⟨e,k⟩ |⟨dd,fs,e,ed,hl,k⟩
 ·exact Eo I2 e S ry fun s3 dd hdd I3=>⟨σ,_,I3,k dd hdd⟩
 ·exact En I2 e ed hl S ry fun s3 I3=>⟨σ,_,I3,k⟩
end
structure BsX(K:ae)(B:Addr):Prop where
 ga:specialIn K (.ref B) "__getattribute__"=some (some (.builtin "type.__getattribute__"))
 rd:readsIn K B (.type "type")=true
 fd:findCls K (.ref B) (.type "type") "__init__"=some (.val (.builtin "ValueError.__init__"))
noncomputable def tBase(K:ae)(B:Addr)(t:TA):TE:=fun σ H Q=>BsX K B/\t σ H fun vs H1=>∃a C f us,vs=.ref a::us/\H1 a=some (exO a C none)/\us.length<=sizeLine/\ng K C f bmV "ValueError.__new__"=true/\Q .non H1
section
variable {X:Cx}{x:Str}{B:Addr}{e:Expr}{es:List Expr}{t:TA}{np apos pos:Pos}
theorem EF{pins:List (Addr×Obj)}{σ:St}{H:Hp}{s:Shared}{Q:VK}{a C f:Addr}{us:List Value}(I:Inv X pins σ H s)(e:H a=some (exO a C none))(hl:us.length<=sizeLine)(hx:ng X.K C f bmV "ValueError.__new__"=true)(q:Q .non H):
  wpAny (model X.prog X.w) X.A (call (.builtin "ValueError.__init__") (.ref a::us)) (EP X pins σ Q) X.xe s:=by
 obtain⟨⟨x0,he⟩,_⟩:=I.hok a _ e;obtain⟨nm,qn,N,bs,bm,hd',sn,sub,ab,col,dd,k0,k1,k2,k3,k5,mN,hC,hN,hi,T⟩:=sg (bmB:=bmV) I.kIn hx;obtain⟨hh,gg,dr,tk,os⟩:=s;refine Dp jl T hC he hl fun h' kp ⟨b,h1⟩ hsz=>?_;have hu:upd H a (exO a C none)=H:=by
  funext c
  by_cases z:c=a
  ·rw[z,aq,e]
  ·rw[aN z]
 have I2:Inv X pins σ (upd H a (exO a C none)) ⟨h',gg,dr,tk,os⟩:=I.write (x:=a) (e:=a) (t':=tk) (by rw[e];exact True.intro) (.inl rfl) (fun b o hb q=>kp b o hb q) ⟨_,h1⟩ (ex_ok _ h1);rw[hu]at I2;exact⟨.non,H,I2,rfl,q⟩
theorem rR{prog:Program}{w:World}{A:Around}{E:Value->Shared->Prop}{env:Env}{o:Expr}{name:Str}{args:List Expr}{s:Shared}{Q:Value->Shared->Prop}
  (hbase:gY o name env (eval o env)=eval o env)
  (hfew:((backTo pos (aM args env)).all (fun x=> !x.1)&&(qC pos (jR [] env)).all (fun x=>x.1.isSome)
   &&decide (args.length+([]:List Keyword).length+(if([]:List Keyword).isEmpty then 0 else 1)<30))=true)
  (hline:(apos.endLine==pos.line)=true)
  (h:wpAny (model prog w) A (eval o env) (fun ov s₁=>∀pl,wpAny (model prog w) A (getMethod ov name pl) (fun fx s₂=>wpAny (model prog w) A (callWith pos fx.1 fx.2 (backTo pos (aM args env)) (qC pos (jR [] env))) Q E s₂) E s₁) E s):
  wpAny (model prog w) A (eval (.Call (.Attribute o name apos) args [] pos) env) Q E s:=by
 rw[arm_eval_Call,hbase];refine aa (cH h (fun ov s₁ h₁=>?_) fun _ _ e=>e);refine aa (fP ?_);have hform:methodCallForm (args.length+([]:List Keyword).length) (backTo pos (aM args env)) (qC pos (jR [] env))=true:=hfew;have hpos:methodCallPos true o env apos pos=pure pos:=by unfold methodCallPos;simp[hline]
 unfold methodCall;rw[hform];refine aa (bz (cH (h₁ _) (fun fx s₂ h₂=>?_) fun _ _ e=>e));exact aa (mz hpos h₂)
theorem pe_base(hg:Gl X x)(hm:X.mg x=some (.ref B))(ha:PA X (e::es) t)(hdb:(x==("__debug__":Str))=false)(hst:aM (e::es) X.env=(false,eval e X.env)::aM es X.env)(hpl:(backTo pos (aM es X.env)).any (·.1)=false)
  (hfew:((backTo pos (aM (e::es) X.env)).all (fun x=> !x.1)&&(qC pos (jR [] X.env)).all (fun x=>x.1.isSome)
   &&decide ((e::es).length+([]:List Keyword).length+(if([]:List Keyword).isEmpty then 0 else 1)<30))=true)
  (hline:(apos.endLine==pos.line)=true):
  PE X (.Call (.Attribute (.Name x np) "__init__" apos) (e::es) [] pos) (tBase X.K B t):=by
 intro pins s σ H Q I h;obtain⟨b,h⟩:=h;refine rR rfl hfew hline (jt I hg hm (fun pl=>?_) hdb);refine PySem.W.method_cls I.kIn b.ga (PySem.W.cls_value I.kIn b.rd b.fd (by decide+kernel) ?_);refine gP (thn (ha pos pins _ σ H _ (I.tok (s.toks+1)) h) fun us s1 z=>?_) hst hpl;obtain⟨vs,H1,I1,r1,a,C,f,ws,e1,ea,hl,hx,q⟩:=z;subst e1;cases r1 with
 |cons r0 r1=>
  cases r0;exact EF I1 ea (by rw[<-r1.length];exact hl) hx q
end
noncomputable def del(H:Hp)(a:Addr):Hp:=fun b=>if b=a then none else H b
theorem j8{H:Hp}{a:Addr}:del H a a=none:=if_pos rfl
theorem ir{H:Hp}{a b:Addr}(h:b≠a):del H a b=H b:=if_neg h
section
variable {M:Model}{A:Around}{E:Value->Shared->Prop}{env:Env}{nm q:Str}{C N:Addr}{bs bm:List Value}{hdct:Bool}{sn:List Str}{sub:List Value}{ab:Bool}{col:Option Bool}{dd:Option Addr}{k0 k1 k2 k3 k5:Option Value}{newId:String}
theorem zQ{s:Shared}{x:Sem Value}{Q:Flow->Shared->Prop}(hbase:bm.contains (.type "BaseException")=true)(hh:A.handled=none)
  (h:wpAny M A x (fun v s₁=>∃e t dx,v=.ref e/\s₁.heap.get? C=some (ic nm q C N bs bm hdct sn sub ab col dd k0 k1 k2 k3 k5 newId)/\
   s₁.heap.get? e=some (kQ C dx #[.ref t,.none,.none,.none,.bool false,.none])/\E (.ref e) s₁) E s):
  wpAny M A (raiseStmt env (some x) none) Q E s:=by
 have hcB:(aX C::bm).contains (.type "BaseException")=true:=by rw[List.contains_cons,hbase,Bool.or_true]
 unfold raiseStmt;refine aa (cH h (fun v s₁ h₁=>?_) fun _ _ x=>x);obtain⟨e,t,dx,rfl,hC,he,hE⟩:=h₁;obtain⟨hp,g,d,tk,os⟩:=s₁;repeat(first |with_reducible refine iN he ?_ |with_reducible refine iN hC ?_ | (with_reducible refine wpAny_isSubtype_exc hC ?_;rw[hcB]) |wp_step)
 exact wpAny_raiseNew_none hh hE
end
section
variable {X:Cx}{pins:List (Addr×Obj)}{σ:St}{H:Hp}{s:Shared}
theorem Inv.del{a:Addr}{φ:Heap->Prop}(I:Inv X pins σ H s)(e:H a=some (.ext φ)):Inv X pins σ (L2.del H a) s:=by
 have ne:∀{b:Addr}{o:HO},H b=some o->(∀ψ,o≠.ext ψ)->b≠a:=fun{b o} q n z=>by rw[z,e]at q;exact n φ (aP q).symm
 refine⟨I.ok,I.os,I.bare,⟨I.base.keep,I.base.slot,fun b o q n hb=>?_,I.base.there,fun b xs q=>?_,fun b o u q=>?_,fun b ps q=>?_⟩,I.loc,I.cell,?_,fun x c' q=>?_,fun p q=>?_,fun b u q=>?_,I.len⟩
 ·by_cases z:b=a
  ·rw[z];exact j8
  ·rw[ir z];exact I.base.free b o q n hb
 ·have r:=I.base.tups b xs q
  rw[ir (ne r fun _ z=>by cases z)];exact r
 ·have r:=I.base.frzs b o u q
  rw[ir (ne r fun _ z=>by cases z)];exact r
 ·obtain⟨more,r⟩:=I.base.tbls b ps q
  exact⟨more,by rw[ir (ne r fun _ z=>by cases z)];exact r⟩
 ·by_cases z:X.env.locals=a
  ·rw[z];exact j8
  ·rw[ir z];exact I.free
 ·by_cases z:c'=a
  ·rw[z];exact j8
  ·rw[ir z];exact I.freeC x c' q
 ·obtain⟨q1,n,r⟩:=I.pin p q
  refine⟨q1,?_,r⟩;by_cases z:p.1=a
  ·rw[z];exact j8
  ·rw[ir z];exact n
 ·by_cases hb:b=a
  ·rw[hb,j8]at q
   cases q
  ·rw[ir hb]at q
   exact(I.hok b u q).pb (fun _ _ _ r=>r) (fun c' r=>by rw[ir (ne r fun _ z=>by cases z)];exact r) fun c' xs r=>by rw[ir (ne r fun _ z=>by cases z)];exact r
structure NewX(X:Cx)(pins:List (Addr×Obj))(H:Hp)(s:Shared)(a C:Addr)(d:Option Addr):Prop where
 at_:∃x0,s.heap.get? a=some (kQ C d #[.ref x0,.none,.none,.none,.bool false,.none])
 new:X.s₀.heap.get? a=none
 un:H a=none
 pins:∀p∈X.pn++pins,p.1≠a
theorem uf{M:Model}{E:Value->Shared->Prop}{Q:Unit->Shared->Prop}{a C:Addr}{d:Option Addr}(I:Inv X pins σ H s)(stk:X.stack=X.env::X.outer)(hf:X.env.frame=some X.env.locals)(n:NewX X pins H s a C d)
  (h:∀s2,Inv X pins σ H s2->Fly X.s₀.heap s2.heap H (X.pn++pins) a (.ref C) d->Q () s2):
  wpAny M X.A (kU (.ref a) X.env) (fun _ s'=>wpAny M X.A (yX (.ref a) none) Q E s') E s:=by
 obtain⟨x0,ht⟩:=n.at_;unfold kU;simp only[hf];refine aa (gD (x:=.none) ht rfl (by rfl) ?_);rw[if_neg (show ¬(bI != bI)=true by simp)];exact enter I stk hf ht rfl (by simp) n.new n.un n.pins h
noncomputable def AD(X:Cx)(E:XS):Prop:=∀(pins:List (Addr×Obj))(σ:St)(H:Hp)(s:Shared)(a C:Addr)(d:Option Addr),Inv X pins σ H s->NewX X pins H s a C d->E σ (.ref C) d H->X.xe (.ref a) s
theorem sE{P:Program}{w:World}{K:ae}{mg:Str->Option Value}{base:Heap}{N:List Str}{qual:Str}{scope:Scope}{f:Addr}{cd:Value}{A:Around}{outer:List Env}{s:Shared}{H:Hp}{E:XK}:
  AD (tF (CXx P w) P w K mg base N qual scope f cd A outer s H E) (fun _=>E):=by
 intro pins σ H1 s1 a C d I n q;show wpAny _ _ (leaving _ _) _ _ _;unfold leaving;refine aa (uf I rfl rfl n fun s2 I2 F2=>?_);obtain⟨⟨T,oe,vs,oT,ts,h1,h2,h3,h4,h5,h6,h7,h8,h9,h10,h11,_⟩,b1,b2,_⟩:=F2;exact⟨a,.ref C,d,H1,rfl,I2.os,I2.bare,I2.base,I2.hok,⟨⟨T,oe,vs,oT,ts,h1,h2,h3,h4,h5,h6,h7,h8,h9,h10,h11,fun _ z=>nomatch z⟩,b1,b2,fun _ z=>nomatch z⟩,q⟩
theorem BU{x n:Str}{C:Addr}{i:Nat}{b₀:Stmt}{suite:List Stmt}{np hpos:Pos}{ts:TS}{D:Ends}(O:yU X x n C i (b₀::suite) ts){pins':List (Addr×Obj)}{a Cx':Addr}{d:Option Addr}(ok:X.Ok)
  (I:Inv (X.re X.A X.calm (X.pn++pins) (iW X pins D [.ExceptHandler (some (.Name x np)) (some n) (b₀::suite) hpos])) pins' σ H s)(m:NewX (X.re X.A X.calm (X.pn++pins) (iW X pins D [.ExceptHandler (some (.Name x np)) (some n) (b₀::suite) hpos])) pins' H s a Cx' d)(h:pE X.K C i ts D σ (.ref Cx') d H):
  iW X pins D [.ExceptHandler (some (.Name x np)) (some n) (b₀::suite) hpos] (.ref a) s:=by
 have J:Inv X pins σ H s:=I.DV ok fun p z=>dM _ z;exact uf J O.stk O.fr ⟨m.at_,m.new,m.un,fun p hp=>m.pins p (dM _ hp)⟩ fun s2 I2 F2=>pF O I2 F2 h
noncomputable def Ew(C:Addr)(sp:Sp)(dvs:List V)(E:XS)(t:TA):TS:=fun _ σ H=>t σ H fun vs H1=>vs.length<=sizeLine/\∀a,H1 a=none->
 sp (.ref a::(vs++dvs)) (upd H1 a (exO a C none)) (fun v H2=>v=.non/\∃d,H2 a=some (exO a C d)/\E σ (.ref C) d (del H2 a)) (E σ)
theorem Ce{CX:CXT}{C f:Addr}{k:Nat}{fd:dI}{ps:List Str}{sp:Sp}{ds:List Value}{dvs:List V}{E:XS}{x:Str}{e:Expr}{es:List Expr}{t:TA}{np cpos pos:Pos}(Mk:MkX X.K C f)(F:fX X.prog X.w X.K X.mg X.base CX k f fd ps sp)(hr:gC (k+1) X.A)(hb:Binds X.K fd ps ds)(hd:bM dvs ds)
  (hx:mV CX X E)(hg:Gl X x)(hm:X.mg x=some (.ref C))(ha:PA X (e::es) t)(hc:X.calm=true)(hdb:(x==("__debug__":Str))=false)
  (hst:aM (e::es) X.env=(false,eval e X.env)::aM es X.env)(hpl:(backTo cpos (aM es X.env)).any (·.1)=false)(made:AD X E):
  PS X (.Raise (some (.Call (.Name x np) (e::es) [] cpos)) none pos) (Ew C sp dvs E t):=by
 intro pins s σ H D I h;obtain⟨nm,qn,N,bs,bm,hd',sn,sub,ab,col,dd,k0,k1,k2,k3,k5,mN,hC,hN,hi,T⟩:=sg (bmB:=bmV) I.mod.kin Mk.ex;have hbase:bm.contains (.type "BaseException")=true:=T.hasType (by decide+kernel);rw[arm_exec_Raise];show wpAny _ _ (do wU pos;raiseStmt X.env (some (do let v<-eval (.Call (.Name x np) (e::es) [] cpos) X.env;wU pos;pure v)) none) _ _ s;refine aa (fP (zQ (C:=C) (nm:=nm) (q:=qn) (N:=N) (bs:=bs) (bm:=bm) (hdct:=hd') (sn:=sn) (sub:=sub) (ab:=ab) (col:=col) (dd:=dd) (k0:=k0) (k1:=k1) (k2:=k2) (k3:=k3) (k5:=k5) (newId:="ValueError.__new__") hbase (I.ok.hd hc) (aa (cH (Q:=fun v s1=>∃a u dx,v=.ref a/\s1.heap.get? C=some (ic nm qn C N bs bm hd' sn sub ab col dd k0 k1 k2 k3 k5 "ValueError.__new__")/\s1.heap.get? a=some (kQ C dx #[.ref u,.none,.none,.none,.bool false,.none])/\X.xe (.ref a) s1) (E:=X.xe) ?_ (fun v s1 z=>aa (fP (ai z))) fun _ _ z=>z))));refine dN (jt I hg hm ?_ hdb);refine jk (h₀:=X.base) I.ok.mod.kin Mk.kp (thn (ha cpos pins s σ H _ I h) fun us s1 ⟨vs,H1,I1,r,hlen,q⟩=>⟨I1.kIn,?_⟩) hst hpl;refine cH (Cb (E:=E σ) (Q:=fun v H2=>∃a d,s1.heap.objs.size<=a/\v=.ref a/\H2 a=some (exO a C d)/\E σ (.ref C) d (del H2 a)) Mk F hr hb hd (fun H' s' e s'' I' z=>hx pins σ H' s' e s'' I' z) I1 r hlen (fun a hsz ha'=>?_)) (fun v s2 z=>?_) fun _ _ z=>z
 ·have e:(fun(v:V)(H2:Hp)=>v=.non/\∃d,H2 a=some (exO a C d)/\E σ (.ref C) d (del H2 a))=fun v H2=>v=.non/\∃a_1 d,s1.heap.objs.size<=a_1/\V.ref a=V.ref a_1/\H2 a_1=some (exO a_1 C d)/\E σ (.ref C) d (del H2 a_1):=by
   funext v H2
   apply propext
   constructor
   ·rintro⟨h1,d,h2,h3⟩
    exact⟨h1,a,d,hsz,rfl,h2,h3⟩
   ·rintro⟨h1,b,d,_,h4,h2,h3⟩
    cases h4;exact⟨h1,d,h2,h3⟩
  rw[<-e];exact q a ha'
 ·obtain⟨w',H2,I2,rw',a,d,hsz,rfl,ea,hE⟩:=z
  cases rw';obtain⟨⟨x0,he⟩,_⟩:=I2.hok a _ ea;refine⟨a,x0,d,rfl,I2.bk _ _ hC,he,made pins σ (del H2 a) s2 a C d (I2.del ea) ⟨⟨x0,he⟩,nL (aF I1.sz hsz),j8,fun p hp=>?_⟩ hE⟩;exact aE (aZ (ax (I1.pin p hp).1) hsz)
end
noncomputable def yw(K:ae)(C:Addr)(f:Str):Bool:=
 lO K C&&findIn K (.ref C) f==some none&&(match clsIn K C with |some cd=>cd.hasDict|none=>false)
theorem An{v:V}{u:Value}(r:RelV v u):handedIn u=true:=by
 cases v with
 |non=>cases r;rfl
 |bl b=>cases r;rfl
 |int i=>obtain⟨t,rfl⟩:=r;rfl
 |str x=>obtain⟨t,rfl⟩:=r;rfl
 |byt b=>obtain⟨t,rfl⟩:=r;rfl
 |flt b=>obtain⟨t,rfl⟩:=r;rfl
 |ref a=>cases r;rfl
 |ty n=>cases r;rfl
theorem FG{h:Heap}{d:Addr}{m:Str->Option Value}{f:Str}{u:Value}(N:h.Ns1 d m)(e:m f=some u):∃o,h.get? d=some o/\lookIn f o=some (some u):=by
 obtain⟨o,es,ep,ho,hd,_,_,hf⟩:=N;refine⟨o,ho,?_⟩;have q:=(hf f).trans e;unfold nsFind findBy at q;rw[<-pT]at q;unfold lookIn;rw[hd];dsimp only;cases hz:es.toList.find? (·.key.isStr f)with
 |none=>rw[hz]at q;cases q
 |some en=>rw[hz]at q;simpa using q
theorem yx{K:ae}{C:Addr}{f:Str}{o:Obj}{u:Value}(F:yw K C f=true)(e:lookIn f o=some (some u)):qM K C (some o) f=some (.value u):=by
 unfold yw at F;rw[ag,ag,beq_iff_eq]at F;obtain⟨⟨_,h1⟩,h2⟩:=F;cases hc:clsIn K C with
 |none=>rw[hc]at h2;cases h2
 |some cd=>
  rw[hc]at h2;unfold qM;rw[hc,eM,h1,eM];have h3:PySem.W.ownOf cd (some o) f=some (some u):=by
   unfold PySem.W.ownOf;rw[if_pos h2];exact e
  simp[h3]
section
variable {prog:Program}{w:World}{A:Around}{E:Value->Shared->Prop}{s:Shared}{K:ae}{a C:Addr}{o:Obj}{od:Option Obj}{f:Str}{u:Value}
theorem GO{tk:Tok}{R:Result->Shared->Prop}(kin:K.In s.heap)(J:InstAt s.heap a o C od)(F:sN K C)(hf:qM K C od f=some (.value u))(h:R (.ok (.ret u)) s):
  eE (model prog w) A (.call (.builtin "BaseException.__getattribute__") ⟨[.ref a,.str f tk],[]⟩) R s:=by
 obtain⟨hh,g,d,t,os⟩:=s;have L0:=J.type (M:=model prog w);have L3:=looks_find (M:=model prog w) kin J hf;refine gF fk.ga.plain zk (sF kin J F ?_);unfold Builtin.«object.__getattribute__»;repeat(first |with_reducible refine fH ?_ |lk|wp_step)
 exact h
theorem exc_fld{b:Bool}{Q:Value->Shared->Prop}(kin:K.In s.heap)(J:InstAt s.heap a o C od)(F:sN K C)(hf:qM K C od f=some (.value u))(hu:handedIn u=true)(h:Q u {s with toks:=s.toks+1}):
  wpAny (model prog w) A (BD (.ref a) f b) Q E s:=by
 obtain⟨hh,g,d,t,os⟩:=s;have L0:=J.type (M:=model prog w);have L1:=oX (M:=model prog w) kin F.ga;have L2:=oX (M:=model prog w) kin F.hook;unfold BD getAttrBy;refine aa (wpAny_mkText (bz (aa (L0.at (aa (L1.at ?_))))));show wpAny _ _ (if(yZ (.ref C)&&(gH "BaseException.__getattribute__"==gH "object.__getattribute__"))=true then _ else _) _ _ _;rw[ga_ne,ee,if_neg aB];unfold getAttrByItsOwn hookBefore;rw[if_pos (show yZ (.ref C)=true from rfl)];refine aa (L2.at ?_);unfold callGetattribute boundAndCalled;rw[show yZ (gH "BaseException.__getattribute__")=false from rfl,ee,if_neg aB];refine aa (gX (bz (aa ?_)));rw[fk.ga.bind (.ref a)];refine ai (fH (GO (s:=⟨hh,g,d,t+1,os⟩) kin J F hf ?_));show wpAny _ _ (handedOut u) _ _ _;rw[handedOut_of hu];exact ai h
end
noncomputable def rFld(K:ae)(f:Str):V->Hp->VK->Prop:=fun x H Q=>∃a C dd fs v,x=.ref a/\H a=some (qb a (.ref C) (some dd))/\H dd=some (xdO dd fs)/\yw K C f=true/\fs.lookup f=some v/\Q v H
section
variable {X:Cx}{pins:List (Addr×Obj)}{σ:St}{H:Hp}{s:Shared}
theorem get_fld{x:V}{u:Value}{f:Str}{b:Bool}{Q:VK}(I:Inv X pins σ H s)(r:RelV x u)(h:rFld X.K f x H Q):wpAny (model X.prog X.w) X.A (BD u f b) (EP X pins σ Q) X.xe s:=by
 obtain⟨a,C,dd,fs,v,rfl,ea,ed,F,hl,q⟩:=h;obtain rfl:u=.ref a:=r;obtain⟨⟨o,e1,e2,e3,e4⟩,_⟩:=I.hok a _ ea;obtain⟨⟨mA,N,rf,_⟩,_⟩:=I.hok dd _ ed;have rv:=rf f;rw[hl]at rv;cases hm:mA f with
 |none=>rw[hm]at rv;exact rv.elim
 |some y=>
  rw[hm]at rv;obtain⟨od,ho,hk⟩:=FG N hm;have F':lO X.K C=true:=by
   unfold yw at F;rw[ag,ag]at F;exact F.1.1
  exact exc_fld I.kIn (od:=some od) ⟨e1,e2,e4,by rw[e3];exact ho⟩ (yy F') (yx F hk) (An rv) ⟨v,H,I.tok _,rv,q⟩
theorem A5{n f:Str}{np pos:Pos}{t:TE}(hn:PE X (.Name n np) t):PE X (.Attribute (.Name n np) f pos) (fun σ H Q=>t σ H fun x H1=>rFld X.K f x H1 Q):=by
 intro pins s σ H Q I h;refine Attribute_name (thn (hn pins s σ H _ I h) fun u s1 ⟨x,H1,I1,r,q⟩=>?_);exact get_fld I1 r q
theorem oA:eL X (.builtin "isinstance") (fun xs H Q=>∃a C d y cv b,xs=[.ref a,y]/\H a=some (qb a (.ref C) d)/\(∀dd,d=some dd->∃fs,H dd=some (xdO dd fs))/\lO X.K C=true/\((∃T,y=.ty T/\cv=fN T)\/(∃D,y=.ref D/\cv=aX D))/\kitOne X.K (.ref C) cv=some b/\Q (.bl b) H):=by
 intro pins s σ H xs us Q I rv h;obtain⟨a,C,d,y,cv,b,rfl,ea,hd,ok,hy,e,q⟩:=h;obtain⟨u,c,rfl,ru,rc⟩:=rv.two;obtain rfl:u=aX a:=ru;have hc:c=cv:=by
  rcases hy with⟨T,rfl,rfl⟩ |⟨D,rfl,rfl⟩
  ·cases rc;rfl
  ·cases rc;rfl
 subst hc;exact kia_one (FT (yy ok)) I.kIn (Ap I.hok ea fun dd z=>by obtain⟨fs,k⟩:=hd dd z;exact⟨_,k⟩) e (fun z=>nomatch z) fun tk=>⟨.bl b,H,I.tok tk,rfl,q⟩
end
noncomputable def tRepl(ta tb:TE)(i:Nat)(c d:Str)(tr:TA):TA:=fun σ H Q=>ta σ H fun x H1=>tb σ H1 fun y H2=>∃u v z:Str,x=.str u/\y=.str v/\(1<=u.length/\1<=v.length/\u.length+v.length<=sizeLine/\z.length<=1000)/\σ[i]? =some (some (.str z))/\
 tr σ H2 fun xs H3=>Q (.str (u++v)::.str (Txt.replace z c d)::xs) H3
section
variable {X:Cx}{a b:Expr}{es:List Expr}{ta tb:TE}{tr:TA}{i:Nat}{x c d:Str}{p1 np apos cpos p2 p3:Pos}{j1 j2:Nat}
noncomputable def tMkf(K:ae)(C:Addr)(sp:Sp)(dvs:List V)(E:XS)(fl:Str)(t:TA):TE:=fun σ H Q=>t σ H fun vs H1=>vs.length<=sizeLine/\∀a,H1 a=none->
 sp (.ref a::(vs++dvs)) (upd H1 a (exO a C none)) (fun v H2=>v=.non/\∃b dd fs w,V.ref a=.ref b/\H2 b=some (exO b C (some dd))/\H2 dd=some (xdO dd fs)/\yw K C fl=true/\fs.lookup fl=some w/\Q w H2) (E σ)
end
noncomputable def rSlW(K:ae):V->Option Int->Option Int->Hp->VK->Prop:=fun x lo hi H Q=>∃a xs,x=.ref a/\SqT K H a xs/\HT.sIx xs.length 0 lo=0/\HT.sIx xs.length xs.length hi=xs.length/\Q (.ref a) H
noncomputable def zA(C:Addr)(sp:Sp)(dvs:List V)(E:XS)(t:TA):TE:=fun σ H Q=>tMake C sp dvs (E σ) t σ H Q
noncomputable def gK(C:Addr)(m:Str)(sp:Sp)(dvs:List V)(E:XS)(ta:TE)(t:TA):TE:=fun σ H Q=>kL C m sp dvs (E σ) ta t σ H Q
section
variable {X:Cx}{CX:CXT}{k:Nat}{f C:Addr}{fd:dI}{ps:List Str}{sp:Sp}{dvs:List V}{ds:List Value}{E:XS}{x m:Str}{p pos apos:Pos}{e o:Expr}{es:List Expr}{ta:TE}{t:TA}
theorem Cc{pins:List (Addr×Obj)}{σ:St}{H:Hp}{s:Shared}{Q:VK}{us:List Value}{vs:List V}(M:Mk X.K C f)(F:fX X.prog X.w X.K X.mg X.base CX k f fd ps sp)(hr:gC (k+1) X.A)(hb:Binds X.K fd ps ds)(hd:bM dvs ds)
  (hx:mV CX X E)(I:Inv X pins σ H s)(r:bM vs us)
  (h:∀x dx,H x=none->H dx=none->dx≠x->sp (.ref x::(vs++dvs)) (upd (upd H dx (.own x)) x (.ins C dx [])) (fun v H2=>v=.non/\Q (.ref x) H2) (E σ)):
  wpAny (model X.prog X.w) X.A (call (.ref C) us) (EP X pins σ Q) X.xe s:=by
 have hq:=h (s.heap.objs.size+1) s.heap.objs.size (I.hok.fresh (dv _)) (I.hok.fresh (aw _)) (aE (bT _));have I2:=Inv.made (C:=C) I;have r2:bM (V.ref (s.heap.objs.size+1)::(vs++dvs)) (aX (s.heap.objs.size+1)::(us++ds)):=.cons rfl (r.append hd);have hl:(aX (s.heap.objs.size+1)::us++ds).length=ps.length:=by
  have e:=r2.length;rw[F.len _ _ _ _ hq]at e;exact e.symm
 refine fH (FF (f:=f) I.kIn M.makes M.init (beq_iff_eq.mp M.fn) (gM (F.run _ X.stack _ _ ⟨aX (s.heap.objs.size+1)::us,[]⟩ (aX (s.heap.objs.size+1)::(us++ds)) _ _ (E σ) (hr.make C us [])
  (I2.env0.make C us []) (hb _ (aX (s.heap.objs.size+1)::us) I2.kIn hl) r2 hq) fun r s' hq'=>?_))
 cases r with
 |error e=>exact hx pins σ _ _ e s' I2 hq'
 |ok fl=>
  cases fl with
  |ret u=>
   obtain⟨v,H',I3,rv,ev,q3⟩:=I2.after hq';subst ev;exact⟨rv,⟨V.ref (s.heap.objs.size+1),H',I3,rfl,q3⟩⟩
  |next =>exact d8 hq'
  |brk=>exact d8 hq'
  |cont=>exact d8 hq'
theorem Ck(M:Mk X.K C f)(F:fX X.prog X.w X.K X.mg X.base CX k f fd ps sp)(hr:gC (k+1) X.A)(hg:Gl X x)(hm:X.mg x=some (.ref C))(hb:Binds X.K fd ps ds)(hd:bM dvs ds)(hx:mV CX X E)
  (hdb:(x==("__debug__":Str))=false):PE X (.Call (.Name x p) [] [] pos) (zA C sp dvs E iG):=by
 intro pins s σ H Q I h;refine dN (jt I hg hm ?_ hdb);exact nF I.kIn M.kp (Cc (us:=[]) M F hr hb hd hx I .nil h)
theorem E7(he:PE X o ta)(c:Cls X.K C)(hm:Dt X.K C m f)(F:fX X.prog X.w X.K X.mg X.base CX k f fd ps sp)(hr:gC k X.A)(hb:Binds X.K fd ps ds)(hd:bM dvs ds)(hx:mV CX X E)(ha:PA X (e::es) t)
  (hbase:gY o m X.env (eval o X.env)=eval o X.env)(hst:aM (e::es) X.env=(false,eval e X.env)::aM es X.env)(hpl:(backTo pos (aM es X.env)).any (·.1)=false)
  (hfew:((backTo pos (aM (e::es) X.env)).all (fun x=> !x.1)&&(qC pos (jR [] X.env)).all (fun x=>x.1.isSome)
   &&decide ((e::es).length+([]:List Keyword).length+(if([]:List Keyword).isEmpty then 0 else 1)<30))=true)
  (hline:(apos.endLine==pos.line)=true):
  PE X (.Call (.Attribute o m apos) (e::es) [] pos) (gK C m sp dvs E ta t):=by
 intro pins s σ H Q I h;refine rR hbase hfew hline (thn (he pins s σ H _ I h) fun u s1 ⟨x,H1,I1,rx,a,dx,fs,ex,ea,l,q⟩=>?_);subst ex;obtain rfl:u=aX a:=rx;intro pl;refine r8 I1 ea c hm l ?_;refine jk (first :=[.ref a]) (h₀:=X.base) I.ok.mod.kin hm.kp (thn (ha pos pins s1 σ H1 _ I1 q) fun us s2 ⟨vs,H2,I2,r,q2⟩=>⟨I2.kIn,?_⟩) hst hpl;exact qE (us:=.ref a::us) (vs:=.ref a::vs) F hr hb hd hx I2 (.cons rfl r) q2
theorem Cj(he:PE X o ta)(c:Cls X.K C)(hm:Dt X.K C m f)(F:fX X.prog X.w X.K X.mg X.base CX k f fd ps sp)(hr:gC k X.A)(hb:Binds X.K fd ps ds)(hd:bM dvs ds)(hx:mV CX X E)
  (hbase:gY o m X.env (eval o X.env)=eval o X.env)(hline:(apos.endLine==pos.line)=true):
  PE X (.Call (.Attribute o m apos) [] [] pos) (gK C m sp dvs E ta iG):=by
 intro pins s σ H Q I h;refine rR hbase rfl hline (thn (he pins s σ H _ I h) fun u s1 ⟨x,H1,I1,rx,a,dx,fs,ex,ea,l,q⟩=>?_);subst ex;obtain rfl:u=aX a:=rx;intro pl;refine r8 I1 ea c hm l ?_;exact nF (first :=[.ref a]) I1.kIn hm.kp (qE (us:=[.ref a]) (vs:=[.ref a]) F hr hb hd hx I1 (.cons rfl .nil) q)
end
end L2
namespace Q
open PySem
noncomputable def pL(xs:Array Nat):Prop:=xs.toList.Pairwise (·<·)
structure Parts(xs:Array Nat)(j p:Nat):Prop where
 le:p<=xs.size
 lo:∀i x,i<p->xs[i]? =some x->x<j
 hi:∀i x,p<=i->xs[i]? =some x->j<=x
theorem qF{xs:Array Nat}(h:pL xs){i k x y:Nat}(hik:i<k)(hx:xs[i]? =some x)(hy:xs[k]? =some y):x<y:=by
 have hx':xs.toList[i]? =some x:=by simpa using hx
 have hy':xs.toList[k]? =some y:=by simpa using hy
 obtain⟨h1,e1⟩:=aY.mp hx';obtain⟨h2,e2⟩:=aY.mp hy';have :=kl.mp h i k h1 h2 hik;rw[e1,e2]at this;exact this
theorem r6{xs:Array Nat}(h:pL xs)(j:Nat):∀(fuel lo hi:Nat),hi-lo<=fuel->lo<=hi->hi<=xs.size->(∀i x,i<lo->xs[i]? =some x->x<j)->(∀i x,hi<=i->xs[i]? =some x->j<=x)->Parts xs j (wY xs j fuel lo hi)
 | 0,lo,hi,hf,hl,hs,a,b=>by
  have e:lo=hi:=by omega
  subst e;exact⟨hs,a,b⟩
 |fuel+1,lo,hi,hf,hl,hs,a,b=>by
  unfold wY;by_cases c:lo<hi
  ·rw[if_pos c]
   have hm:(lo+hi)/2<xs.size:=by omega
   have em:xs[(lo+hi)/2]? =some xs[(lo+hi)/2]:=by simp[hm]
   have eg:xs.getD ((lo+hi)/2) j=xs[(lo+hi)/2]:=by simp[hm]
   simp only[eg];by_cases d:xs[(lo+hi)/2]<j
   ·rw[if_pos d]
    refine r6 h j fuel _ hi (by omega) (by omega) hs (fun i x hi' e=>?_) b;by_cases k:i=(lo+hi)/2
    ·subst k
     rw[em]at e;cases e;exact d
    ·exact fj (qF h (by omega) e em) d
   ·rw[if_neg d]
    refine r6 h j fuel lo _ (by omega) (by omega) (by omega) a fun i x hi' e=>?_;by_cases k:i=(lo+hi)/2
    ·subst k
     rw[em]at e;cases e;omega
    ·have :=qF h (by omega:(lo+hi)/2<i) em e
     omega
  ·rw[if_neg c]
   have e:lo=hi:=by omega
   subst e;exact⟨hs,a,b⟩
theorem jz{xs:Array Nat}(h:pL xs)(j:Nat):Parts xs j (cz xs j):=
 r6 h j xs.size 0 xs.size (by omega) (bp _) (aw _) (fun i x hi _=>absurd hi (gQ _)) fun i x hi e=>by
  have :=(cu.mp e).1
  omega
theorem yj{α:Type}(xs:Array α)(p:Nat)(x:α):(o4 xs p x).toList=xs.toList.take p++x::xs.toList.drop p:=by
 unfold o4;simp;exact BJ (by simp)
theorem xJ{xs:Array Nat}{j:Nat}(h:pL xs)(hj:∀i:Nat,xs[i]? ≠some j):pL (o4 xs (cz xs j) j):=by
 have P:=jz h j;unfold pL;rw[yj];have sub:=h;unfold pL at sub;rw[List.pairwise_append];refine⟨sub.sublist (kG _ _),List.pairwise_cons.mpr ⟨fun y hy=>?_,sub.sublist (List.drop_sublist _ _)⟩,fun x hx y hy=>?_⟩
 ·obtain⟨i,hi⟩:=iz.mp hy
  rw[jU]at hi;have e:xs[cz xs j+i]? =some y:=by simpa using hi
  have :=P.hi _ _ (da _ _) e
  have ne:y≠j:=fun z=>hj _ (z▸e);omega
 ·obtain⟨i,hi⟩:=iz.mp hx
  have hip:i<cz xs j:=by
   have :=(aY.mp hi).1
   rw[dD]at this;omega
  rw[zl hip]at hi;have e:xs[i]? =some x:=by simpa using hi
  have lx:=P.lo _ _ hip e;rcases aA.mp hy with rfl|hy
  ·exact lx
  ·obtain⟨k,hk⟩:=iz.mp hy
   rw[jU]at hk;have e2:xs[cz xs j+k]? =some y:=by simpa using hk
   have :=P.hi _ _ (da _ _) e2
   omega
theorem Aw{xs:Array Nat}(h:pL xs){i x:Nat}(e:xs[i]? =some x):cz xs (x+1)=i+1:=by
 have P:=jz h (x+1);have hi:=(cu.mp e).1;apply w6
 ·apply gv
  intro c;have hs:i+1<xs.size:=aZ c P.le;have e2:xs[i+1]? =some xs[i+1]:=by simp[hs]
  have a:=P.lo _ _ c e2;have b:=qF h (bT i) e e2;omega
 ·apply gv
  intro c;have :=P.hi i x (by omega) e;omega
theorem Av{xs:Array Nat}(h:pL xs):cz xs 0=0:=by
 have P:=jz h 0;apply w6 _ (bp _);apply gv;intro c;have hs:0<xs.size:=aZ c P.le;have :=P.lo 0 xs[0] c (by simp[hs]);omega
theorem Dm{xs:Array Nat}(h:pL xs){i x:Nat}(e:xs[i]? =some x):cz xs x=i:=by
 have P:=jz h x;apply w6
 ·apply gv
  intro c;exact d5 _ (P.lo i x c e)
 ·apply gv
  intro c;have hs:cz xs x<xs.size:=fj c (cu.mp e).1;have e2:xs[cz xs x]? =some xs[cz xs x]:=by simp[hs]
  have a:=P.hi _ _ (aw _) e2;have b:=qF h c e2 e;omega
theorem zP(n:Nat):pL (Array.range n):=by
 unfold pL;rw[Array.toList_range];exact BK
structure je(t:bJ):Prop where
 up:pL t.place
 no:t.dummies= #[]
theorem slot_no{t:bJ}(T:je t)(j:Nat):t.slot j≠.dummy:=by
 unfold bJ.slot;simp only[T.no];split
 ·simp
 ·split
  ·rename_i h
   exact absurd h (by simp[xm])
  ·simp
theorem B2{t:bJ}(T:je t){j:Nat}(h:t.slot j=.empty):∀i:Nat,t.place[i]? ≠some j:=fun i e=>by
 have :=Dm T.up e
 unfold bJ.slot at h;simp only[this,e,beq_self_eq_true,if_true]at h;cases h
theorem tJ(t:bJ)(p:bJ.Probe):(t.advance p).dummy=p.dummy:=by
 unfold bJ.advance;split <;>rfl
theorem rD{t:bJ}(T:je t){f:Nat->Int}{h:Int}{j:Nat}{d:Option Nat}:∀(fuel:Nat)(p:bJ.Probe),p.dummy=none->mD t f h fuel p=some (.empty j d)->t.slot j=.empty/\d=none
 | 0,p,_,e=>by simp[mD]at e
 |fuel+1,p,hp,e=>by
  unfold mD at e;cases hs:t.slot p.j with
  |empty=>
   rw[hs]at e;simp only[bx,bJ.Met.empty.injEq]at e;exact⟨by rw[<-e.1];exact hs,by rw[<-e.2];exact hp⟩
  |dummy=>exact absurd hs (slot_no T _)
  |live i=>
   rw[hs]at e;simp only at e;split at e
   ·cases e
   ·exact rD T fuel _ (by rw[tJ];exact hp) e
theorem tD{t:bJ}(T:je t){h:Int}{j:Nat}{b:Bool}(e:t.freeSlot h=some (j,b)):(∀i:Nat,t.place[i]? ≠some j)/\b=false:=by
 unfold bJ.freeSlot at e;split at e
 ·rename_i j' d hm
  unfold bJ.probe at hm;obtain⟨h1,h2⟩:=rD T _ _ (by rfl) hm;subst h2;simp only[qN,DL,bx,Prod.mk.injEq]at e;obtain⟨rfl,rfl⟩:=e;exact⟨B2 T h1,rfl⟩
 ·cases e
theorem iH(t:bJ)(n:Nat):je (t.standIn n):=⟨zP n,rfl⟩
theorem EO{t:bJ}(T:je t){j:Nat}(hj:∀i:Nat,t.place[i]? ≠some j):je (t.put j).1:=by
 refine⟨xJ T.up hj,?_⟩;show(if xm t.dummies j=true then _ else t.dummies)= #[];rw[T.no];simp[xm]
theorem rJ{t:bJ}(T:je t)(n:Nat):je (t.orStandIn n):=by
 unfold BG;split
 ·exact T
 ·exact iH t n
theorem yh{t:bJ}(T:je t)(es:Array (Int×Value))(h:Int)(x:Value):je (layNew t es h x).2.1/\(layNew t es h x).2.2.1=false:=by
 unfold layNew;split
 ·rename_i j b e
  obtain⟨h1,h2⟩:=tD T e;subst h2;exact⟨rJ (EO T h1) _,rfl⟩
 ·exact⟨iH t _,rfl⟩
theorem uv{mask finger moves:Nat}{led plain:Bool}{hashes:Array Int}{t:bJ}{order:Array Nat}(h:bJ.laid mask finger moves led plain hashes=some (t,order)):je t/\t.led=led/\t.plain=plain:=by
 unfold bJ.laid at h;cases e:bJ.layClean mask hashes with
 |none=>rw[e]at h;cases h
 |some owner=>
  rw[e]at h;have h':some (({mask,place:=(((aI (mask+1)).filterMap fun j=>(owner.getD j none).map (j,·)).map (·.1)).toArray,dummies:= #[],finger,led,moves,plain}:bJ),(((aI (mask+1)).filterMap fun j=>(owner.getD j none).map (j,·)).map (·.2)).toArray)=some (t,order):=h;have h2:=(Prod.mk.inj (aP h')).1;subst h2;refine⟨⟨?_,rfl⟩,rfl,rfl⟩;show((((aI (mask+1)).filterMap fun j=>(owner.getD j none).map (j,·)).map (·.1)).toArray).toList.Pairwise (·<·);rw[Ha,qO,List.pairwise_filterMap];refine BK.imp fun{a b} hab x hx y hy=>?_;cases ha:owner.getD a none with
  |none=>rw[ha]at hx;cases hx
  |some u=>
   cases hb:owner.getD b none with
   |none=>rw[hb]at hy;cases hy
   |some v=>
    rw[ha]at hx;rw[hb]at hy;cases hx;cases hy;exact hab
theorem tm(t:bJ)(es:Array (Int×Value))(wanted:Nat):je (nv t es wanted).2.1:=by
 unfold nv;split
 ·rename_i t' order e
  simp only;split
  ·unfold G3 at e
   exact(uv e).1
  ·exact iH t _
 ·exact iH t _
theorem put_led(t:bJ)(j:Nat):(t.put j).1.led=t.led:=rfl
theorem tB(t:bJ)(n:Nat):(t.orStandIn n).led=t.led:=by
 unfold BG;split <;>rfl
theorem Af(t:bJ)(es:Array (Int×Value))(h:Int)(x:Value):(layNew t es h x).2.1.led=t.led:=by
 unfold layNew;split
 ·exact(tB _ _).trans (put_led _ _)
 ·rfl
theorem vD(t:bJ)(es:Array (Int×Value))(wanted:Nat):(nv t es wanted).2.1.led=t.led:=by
 unfold nv;split
 ·rename_i t' order e
  simp only;split
  ·unfold G3 at e
   exact(uv e).2.1
  ·rfl
 ·rfl
section
variable {prog:Program}{w:World}{K:Type}[DecidableEq K]{knd:KeyKind prog w K}{A:Around}{E:Value->Shared->Prop}{s:Shared}
noncomputable def oU(knd:KeyKind prog w K)(h:Heap)(a:Addr)(S:K->Bool)(n:Nat)(led:Bool):Prop:=
 ∃o es ep t,h.get? a=some o/\o.ExactSet/\o.data=.set es ep t/\ElemsOf knd es.toList/\(∀k,S k=true↔∃e∈es.toList,knd.is k e.2=true)/\es.size<fh/\t.fits es.size=true/\es.size=n/\je t/\t.led=led
theorem oU.of{h:Heap}{a:Addr}{S:K->Bool}{n:Nat}{led:Bool}(x:oU knd h a S n led):h.SetOf knd a S n:=by
 obtain⟨o,es,ep,t,e1,e2,e3,e4,e5,e6,e7,e8,_⟩:=x;exact⟨o,es,ep,t,e1,e2,e3,e4,e5,e6,e7,e8⟩
theorem rm{h:Heap}{a:Addr}{o:Obj}{es:Array (Int×Value)}{ep:Nat}{t:bJ}(ho:h.get? a=some o)(hx:o.ExactSet)(hd:o.data=.set es ep t){es':Array (Int×Value)}{t':bJ}{S':K->Bool}(hl:ElemsOf knd es'.toList)(hm:∀k,S' k=true↔∃e∈es'.toList,knd.is k e.2=true)(hb:es'.size<fh)(hf:t'.fits es'.size=true)(ht:je t'):
  oU knd (h.update a (Obj.putSet es' t')) a S' es'.size t'.led:=by
 have g:=(SetOf_store (knd:=knd) ho hx hd hl hm hb hf).1;exact⟨_,es',ep+1,t',g,hx,rfl,hl,hm,hb,hf,rfl,ht,rfl⟩
theorem yT{g:Bool->Sem Unit}(hg:∀(b:Bool)(s₁:Shared)(Q':Unit->Shared->Prop),Q' () s₁->wpAny (model prog w) A (g b) Q' E s₁){a:Addr}{o:Obj}{es:Array (Int×Value)}{ep:Nat}{t:bJ}(ho:s.heap.get? a=some o)(hx:o.ExactSet)(hd:o.data=.set es ep t)
  {es1:Array (Int×Value)}{t2:bJ}{S':K->Bool}(hl:ElemsOf knd es1.toList)(hm:∀k',S' k'=true↔∃e∈es1.toList,knd.is k' e.2=true)(hb:es1.size<fh)(hf:t2.fits es1.size=true)(ht:je t2){wasDummy:Bool}{R:Option Bool->Shared->Prop}
  (h:∀h',cR a s.heap h'->oU knd h' a S' es1.size t2.led->R (some true) {s with heap:=h'}):
  wpAny (model prog w) A (do
    storeSet a es1 t2
    if(!wasDummy&&t2.tooFull)=true then do
      g (nv t2 es1 (eI es1.size)).2.2
      storeSet a (nv t2 es1 (eI es1.size)).1 (nv t2 es1 (eI es1.size)).2.1
      pure (some true)
     else pure (some true)) R E s:=by
 refine aa (wpAny_storeSet_of ho hd ?_ (mB hb));have ho1:=(SetOf_store (knd:=knd) ho hx hd hl hm hb hf).1;have x1:=rm (knd:=knd) ho hx hd hl hm hb hf ht;have sb:=bO s.heap a (Obj.putSet es1 t2);split
 ·have hp:=relayAll_perm t2 es1 (eI es1.size)
  have hr:=relayAll_fits t2 es1 (eI es1.size);have hT:=tm t2 es1 (eI es1.size);have hL:=vD t2 es1 (eI es1.size);generalize nv t2 es1 (eI es1.size)=Rl at hp hr hT hL⊢;obtain⟨es2,t3,gave⟩:=Rl;dsimp only at hp hr hT hL⊢;have hz:es2.size=es1.size:=by rw[<-cq,hp.length_eq,cq]
  refine aa (hg _ _ _ (aa (wpAny_storeSet_of ho1 rfl ?_ (mB (by rw[hz];exact hb)))));have x2:=rm (knd:=knd) ho1 hx rfl (hl.perm hp) (fun k'=>(hm k').trans ⟨fun⟨e,he,q⟩=>⟨e,hp.mem_iff.mpr he,q⟩,fun⟨e,he,q⟩=>⟨e,hp.mem_iff.mp he,q⟩⟩) (by rw[hz];exact hb) hr hT;rw[hz,hL]at x2;exact ai (h _ (sb.trans (bO _ a _)) x2)
 ·exact ai (h _ sb x1)
theorem zT{t:bJ}(T:je t):je {t with plain:=false}:=⟨T.up,T.no⟩
theorem addX{a:Addr}{S:K->Bool}{n:Nat}{led:Bool}{k:K}{x:Value}{Q:Bool->Shared->Prop}(hk:knd.is k x=true)(hsc:x.scannable=true)(hS:oU knd s.heap a S n led)(hroom:n+1<fh)
  (h:∀h',cR a s.heap h'->oU knd h' a (fun k'=>S k'||decide (k'=k)) (if S k then n else n+1) led->Q (!S k) {s with heap:=h'}):
  wpAny (model prog w) A (setAddHashed a x (knd.hash k)) Q E s:=by
 obtain⟨o,es,ep,t,ho,hx,hd,hl,hm,hb,hf,hn,ht,he⟩:=hS;have hb1:es.size+1<fh:=by rw[hn];exact hroom
 unfold setAddHashed setAddHashedIn;refine bz (aa (dy ho hd hf ?_));dsimp only;rw[byScan_of hsc hb hl];simp only[↓reduceIte];unfold setAddByScan;refine aa ?_;refine aa (fF (aa (wpAny_setScan_of hk ho hd hf hl ?_)));cases hr:List.findIdx? (fun e=>knd.is k e.2) es.toList with
 |some j=>
  dsimp only;obtain⟨hj,hp,_⟩:=List.findIdx?_eq_some_iff_getElem.mp hr;have hSk:S k=true:=(hm k).mpr ⟨es.toList[j],bQ hj,hp⟩;refine ai (ai ?_);have :=h s.heap (cR.refl a s.heap) ⟨o,es,ep,t,ho,hx,hd,hl,fun k'=>by
   rw[cC,decide_eq_true_eq,<-hm k'];exact⟨fun q=>q.elim id (fun e=>e▸hSk),.inl⟩,hb,hf,by rw[hSk];exact hn,ht,he⟩
  rw[hSk]at this;exact this
 |none=>
  dsimp only;have hSk:S k=false:=by
   cases q:S k with
   |false=>rfl
   |true=>
    obtain⟨e,m1,m2⟩:=(hm k).mp q;have :=List.findIdx?_eq_none_iff.mp hr e m1;rw[m2]at this;cases this
  have hw:∀(b:Bool){s₁:Shared}{Q':Unit->Shared->Prop},Q' () s₁->wpAny (model prog w) A (match b with |true=>rule "set.scan.the-table-gave-way" |false=>pure ()) Q' E s₁:=fun b s₁ Q' q=>by cases b<;>first |exact ai q|exact fF q
  have hp:=layNew_perm t es (knd.hash k) x;have hfit:=layNew_fits t es (knd.hash k) x;have hT:=(yh ht es (knd.hash k) x).1;have hL:=Af t es (knd.hash k) x;generalize layNew t es (knd.hash k) x=L at hp hfit hT hL⊢;obtain⟨es1,t1,wd,gave⟩:=L;dsimp only at hp hfit hT hL⊢;rw[Array.toList_push]at hp;have l1:ElemsOf knd es1.toList:=(hl.push hk hsc).perm hp;have m1:∀k',(S k'||decide (k'=k))=true↔∃e∈es1.toList,knd.is k' e.2=true:=mem_push_iff hk hm hp;have z1:es1.size=n+1:=by rw[<-cq,hp.length_eq,cm,cq,hn];rfl
  have b1:es1.size<fh:=by rw[z1];exact hroom
  refine aa (hw _ ?_);have fin:∀h',cR a s.heap h'->oU knd h' a (fun k'=>S k'||decide (k'=k)) es1.size led->Q true {s with heap:=h'}:=fun h' sb x=>by
   have :=h h' sb
   rw[hSk]at this;rw[z1]at x;exact this x
  split
  ·refine aa ?_
   rw[hashByValue_scannable 8 hsc];refine ai (yT ?_ ho hx hd l1 m1 b1 ?_ ?_ ?_)
   ·intro b s₁ Q' q;cases b<;>first |exact ai q|exact fF q
   ·split
    ·exact hfit
    ·exact bJ.fits_plain_off hfit
   ·split
    ·exact hT
    ·exact zT hT
   ·intro h' sb x
    refine ai (fin h' sb ?_);split at x
    ·rw[hL,he]at x;exact x
    ·have e2:({t1 with plain:=false}:bJ).led=led:=hL.trans he
     rw[e2]at x;exact x
  ·refine aa (ai ?_)
   simp only[↓reduceIte];refine yT ?_ ho hx hd l1 m1 b1 hfit hT ?_
   ·intro b s₁ Q' q;cases b<;>first |exact ai q|exact fF q
   ·intro h' sb x
    rw[hL,he]at x;exact ai (fin h' sb x)
end
end Q
set_option maxHeartbeats 3200000
namespace Q
open PySem PySem.Spec PySem.W PyProof.Rows L2
section
variable {prog:Program}{w:World}{A:Around}{R:Result->Shared->Prop}{I:Addr}{fp wr:List Addr}{G:Array nH->Array nH->Prop}{n:Nat}{P:Nat->Value->Prop}{St:Nat->Shared->Prop}
theorem tW{led:Bool}(W:WalksS prog w A.in1 I fp wr G n P St)(S:Addr)(hSf:S∉fp)(ks:List Key)(hn:ks.length=n)(hv:∀i v,P i v->∃k,ks[i]? =some k/\RelV (kV k) v)(hb:n+1<fh):
  ∀(m i:Nat)(s:Shared),n-i=m->i<=n->St i s->oU (bV prog w) s.heap S (has (met (ks.take i))) (met (ks.take i)).length led->
   (∀s',Moved (S::wr) G s s'->oU (bV prog w) s'.heap S (has (met ks)) (met ks).length led->R (.ok (.ret .none)) s')->
   eE (model prog w) A (.builtin "set.update.loop" ⟨[.ref S,.ref I],[]⟩) R s
 | 0,i,s,hm,hi,st,hS,hR=>by
  obtain rfl:i=n:=by omega
  rw[<-hn,eS]at hS;refine cT kW ?_;rw[cb fm _];show wpAny _ A.in1 (pyNext (.ref I)>>=_) _ _ s;refine aa (W.done s _ _ st fun s' mv=>?_);obtain⟨o,es,ep,t,ho,rest⟩:=hS;exact ai (hR s' (mv.mono fun b hb=>aJ _ hb) ⟨o,es,ep,t,mv.heap S _ (fun z=>hSf (W.sub _ z)) ho,rest⟩)
 |m+1,i,s,hm,hi,st,hS,hR=>by
  have hlt:i<n:=by omega
  refine cT kW ?_;rw[cb fm _];show wpAny _ A.in1 (pyNext (.ref I)>>=_) _ _ s;refine aa (W.item i s _ _ hlt st fun v s' hP st' mv=>?_);obtain⟨k,hk,rv⟩:=hv i v hP;have hS1:oU (bV prog w) s'.heap S (has (met (ks.take i))) (met (ks.take i)).length led:=by
   obtain⟨o,es,ep,t,ho,rest⟩:=hS;exact⟨o,es,ep,t,mv.heap S _ (fun z=>hSf (W.sub _ z)) ho,rest⟩
  have hsc:v.scannable=true:=by
   cases k with
   |inl j=>obtain⟨t,rfl⟩:=rv;rfl
   |inr x=>obtain⟨t,rfl⟩:=rv;rfl
  show wpAny _ A.in1 (holding [v] (setAdd S v)>>=_) _ _ s';refine aa (bz ?_);unfold setAdd;refine bz (aa ((bV prog w).pyHash (k:=k) (Bi rv) ?_));have hle:=FD (ks.take i);rw[dD]at hle;refine addX (knd:=bV prog w) (led:=led) (s:={s' with toks:=s'.toks+1}) (Bi rv) hsc hS1 (by omega) fun h' hsb hS2=>?_;have et:ks.take (i+1)=ks.take i++[k]:=by rw[dQ,hk];rfl
  have hS3:oU (bV prog w) h' S (has (met (ks.take (i+1)))) (met (ks.take (i+1))).length led:=by
   rw[et,FA];obtain⟨o,es,ep,t,ho,hex,hd,hel,hmem,hbb,hf,hnn,htt⟩:=hS2;refine⟨o,es,ep,t,ho,hex,hd,hel,fun j=>?_,hbb,hf,by rw[oj];exact hnn,htt⟩;rw[<-hmem j,gc,ya,cC,gc,decide_eq_true_eq]
  refine ai ⟨du fm _,tW W S hSf ks hn hv hb m (i+1) _ (by omega) hlt (W.frame _ s' _ _ st' (dv _) fun b hq o e=>?_) hS3 fun s'' mv2 hS4=>?_⟩
  ·rw[hsb.2 b (fun z:b=S=>hSf (by rw[<-z];exact hq))]
   exact e
  ·refine hR s'' (nG W.gtrans ((mv.mono fun b hb=>aJ _ hb).then_heap (dv _) fun b o hq e=>?_) mv2) hS4
   rw[hsb.2 b (fun z:b=S=>hq (by rw[z];exact aH))];exact e
end
section
variable {prog:Program}{w:World}{A:Around}{E:Value->Shared->Prop}{s:Shared}
theorem C8(a:Value){Q₁:Value->Shared->Prop}(h:Q₁ (.ref s.heap.objs.size) {s with heap:=s.heap.push (pq (!w.params.followText "set-order"))}):eE (model prog w) A (.call (.builtin "set.__new__") ⟨[.type "set",a],[]⟩) (wants Q₁ E) s:=by
 refine AG ?_;show wpAny _ A.in1 (do y8 "set.__new__" ⟨[.type "set",a],[]⟩;again (.builtin "set.__new__" ⟨[.type "set",a],[]⟩)) _ _ s;refine aa (mz (F.newCall_set_1 a) (ai ⟨du F.plain_set_new _,cT F.entry_set_new ?_⟩));rw[cb F.plain_set_new _];unfold Builtin.«set.__new__» Builtin.Frozenset.newClass;have hsub:=sub_set_self;obtain⟨hp,g,d,tk,os⟩:=s;dsimp only;wp_walk;refine dg (ai ?_);dsimp only;simp only[newObj];exact aa (wpAny_alloc (ai (ai h)))
theorem tX{l:Addr}{items:Array Value}{ks:List Key}{Q:Value->Shared->Prop}(hh:A.handled=none)(hl:s.heap.IsList l items)(hk:ks.length=items.size)
  (hv:∀(i:Nat)(v:Value),items[i]? =some v->∃k,ks[i]? =some k/\RelV (kV k) v)(hb:items.size+1<fh)
  (h:∀(h':Heap)(tk:Nat),oU (bV prog w) h' s.heap.objs.size (has (met ks)) (met ks).length (!w.params.followText "set-order")->(∀b o,b<s.heap.objs.size->s.heap.get? b=some o->h'.get? b=some o)->Q (.ref s.heap.objs.size) {s with heap:=h',toks:=tk}):
  wpAny (model prog w) A (call (.type "set") [.ref l]) Q E s:=by
 have c0:=F.called_set;obtain⟨c,tl,hmro⟩:=c0.mro;have f1:=c0.made;have f2:=c0.sub;have f3:=c0.notType;have f4:=c0.canCreate;have f5:=F.typeCall_set_1 (.ref l);refine fH (AG ?_);show wpAny _ _ (callAny (.type "set") _) _ _ _;refine ai ⟨qo _ (by decide+kernel),cT F.entry_type_call ?_⟩;rw[Around.under_plain (weight_type_call_type "set" [.ref l] []) rfl];repeat(any_goals (first |assumption|wp_step))
 refine gM (C8 (.ref l) (E:=E) (Q₁:=fun obj s1=>∃led:Bool,led=(!w.params.followText "set-order")/\obj=.ref s.heap.objs.size/\s1={s with heap:=s.heap.push (pq led)}) ⟨_,rfl,rfl,rfl⟩) fun r s1 hr=>?_;rcases r with e|fl
 ·exact hr
 rcases fl with _|_|_|obj
 ·exact hr.elim
 ·exact hr.elim
 ·exact hr.elim
 obtain⟨led,hled,rfl,rfl⟩:=hr;rw[<-hled]at h;have hS:(s.heap.push (pq led)).get? s.heap.objs.size=some (pq led):=au _ rfl;have hT:Shared.TypeIs {s with heap:=s.heap.push (pq led)} (.ref s.heap.objs.size) "set":=⟨_,hS,rfl⟩;have f6:=c0.init.lookup;have f7:=c0.init.bind (.ref s.heap.objs.size);repeat(any_goals (first |assumption|wp_step))
 refine gM (gF (R:=wants (fun r s2=>r=.none/\∃h' tk,s2={s with heap:=h',toks:=tk}/\oU (bV prog w) h' s.heap.objs.size (has (met ks)) (met ks).length led/\
  (∀b o,b<s.heap.objs.size->s.heap.get? b=some o->h'.get? b=some o)) E) c0.init.plain F.entry_set_init (check_set_init_1 hT ?_)) fun r2 s2 hr2=>?_
 ·obtain⟨ol,hol,hcl,nl,hdl⟩:=hl
  obtain⟨oc,od,odt,osl⟩:=ol;obtain rfl:oc=.type "list":=hcl;obtain rfl:odt=.seq items nl:=hdl;have hol':(s.heap.push (pq led)).get? l=some {cls:=.type "list",dict:=od,data:=.seq items nl,slots:=osl}:=af _ hol;have g1:=F.sub_list_set;have g2:=F.sub_list_frozenset;have g3:(fN "list"==fN "dict")=false:=by decide
  have hl1:(s.heap.push (pq led)).IsList l items:=⟨_,hol',rfl,nl,rfl⟩;unfold Builtin.«set.__init__» noKeywords Builtin.Frozenset.updateFrom;generalize hPI:pyIter=PI
  wp_walk
  subst hPI;refine iM hl1 (aa (wpAny_runValue ?_));have hlt:l<s.heap.objs.size:=ax hol;have h3:A.in1.in1.in1.handled=none:=by simp[hh]
  have hz:(s.heap.push (pq led)).objs.size=s.heap.objs.size+1:=bN _ _;have hne:l≠(s.heap.push (pq led)).objs.size:=by rw[hz];exact aE (bB hlt)
  have hnf:s.heap.objs.size∉[(s.heap.push (pq led)).objs.size,l]:=by
   rw[hz];intro z;rcases aA.mp z with z|z
   ·exact aE (bT _) z
   ·exact cS hlt (aO.mp z)
  refine tW (led:=led) ((G2 h3 _ l hne items).toS) s.heap.objs.size hnf ks hk hv hb (items.size-0) 0 _ (by omega) (bp _) ⟨⟨_,au _ rfl,rfl,rfl⟩,hl1.push _⟩ ?_ fun s' mv hS'=>?_
  ·have hg:((s.heap.push (pq led)).push {cls:=.type "list_iterator",data:=.fields #[.ref l,.int 0 0]}).get? s.heap.objs.size=some (pq led):=af _ hS
   exact⟨pq led,#[],0,_,hg,⟨rfl,rfl,rfl⟩,rfl,fun e he=>by simp at he,fun k=>by simp[met,has],by decide,by rfl,rfl,⟨iV,rfl⟩,rfl⟩
  ·obtain⟨h',g',d',tk',os'⟩:=s'
   obtain rfl:g'=s.gens:=mv.gens;obtain rfl:d'=s.drawn:=mv.drawn;obtain rfl:os'=s.os:=mv.os;show wpAny _ _ _ _ _ _;refine ai ?_;show wpAny _ _ (ret bI) _ _ _;refine ai ⟨rfl,h',tk',rfl,hS',fun b o hq e=>mv.heap b o (fun z=>?_) (af _ (af _ e))⟩;rcases aA.mp z with z|z
   ·exact aE hq z
   ·exact aE (bB hq) ((aO.mp z).trans hz)
 ·rcases r2 with e|fl2
  ·exact hr2
  rcases fl2 with _|_|_|v
  ·exact hr2.elim
  ·exact hr2.elim
  ·exact hr2.elim
  obtain⟨rfl,h',tk,rfl,hS',hk'⟩:=hr2;repeat(any_goals (first |assumption|wp_step))
  exact h _ _ hS' hk'
end
theorem Dd{X:Cx}(hc:X.calm=true):eL X (.type "set") (rSet X.K):=by
 intro pins s σ H xs us Q I r h;obtain⟨p,ks,rfl,hq,hz,q⟩:=h;obtain⟨u,rfl,rx⟩:=vals1 r;cases rx;obtain⟨its,r',pl,_⟩:=I.list hq;have hlen:=r'.length;rw[av]at hlen;refine tX (ks:=ks) (I.ok.hd hc) pl.isList (by rw[ay];exact hlen) (fun i v e=>we r' i v (by simpa using e)) (by rw[ay,<-hlen];unfold fh;omega) fun h' tk hS kp=>?_;refine⟨.ref s.heap.objs.size,_,I.laid (t':=tk) (fun b o e=>kp b o (ax e) e) (aw _) (show cZ X.prog X.w _ _ _ (zL _ (met ks).length)from ?_),rfl,q _ (I.hok.fresh (aw _))⟩;obtain⟨o,es,ep,t,ho,hex,hd,hel,hmem,hbb,hf,hn⟩:=hS.of;refine⟨⟨o,es,ep,t,ho,hex,hd,hbb,hf,hn⟩,⟨o,ho⟩,fun h1 h2 z k=>?_⟩;obtain⟨o,es,ep,t,ho,rest⟩:=z;exact⟨o,es,ep,t,k o ho,rest⟩
end Q
set_option maxHeartbeats 1000000
namespace Q
open PySem
theorem nh{α:Type}:∀{l:List α}{i:Nat}(h:i<l.length),(l[i]::l.eraseIdx i).Perm l
 |a::l,0,_=>eH _
 |a::l,i+1,h=>by
  have hi:i<l.length:=by simpa using h
  have ih:=nh hi;show(l[i]::a::l.eraseIdx i).Perm (a::l);exact(Hf _ _ _).trans (ih.cons a)
theorem A4{α:Type}(next :Nat->Nat):∀(fuel k:Nat)(left:List α)(out:Array α),left.length<=fuel->(wV next fuel k left out).toList.Perm (out.toList++left)
 | 0,k,left,out,h=>by
  have e:left=[]:=b8.mp (by omega);subst e;simp[wV]
 |fuel+1,k,left,out,h=>by
  unfold wV;cases left with
  |nil=>simp
  |cons a l=>
   have hi:next k%(a::l).length<(a::l).length:=Nat.mod_lt _ (by simp)
   rw[ah hi];dsimp only;refine(A4 next fuel (k+1) _ _ (by rw[xp hi];simp at h⊢;omega)).trans ?_;rw[Array.toList_push,kK];exact List.Perm.append_left _ (nh hi)
theorem mf{α:Type}(next :Nat->Nat)(xs:Array α):(gL next xs).toList.Perm xs.toList:=by
 unfold gL;exact(A4 next xs.size 0 xs.toList #[] (by simp)).trans (by simp)
section
variable {M:Model}{A:Around}{E:Value->Shared->Prop}
theorem sZ{s:Shared}{src:Source}{n:Nat}{Q:Nat->Shared->Prop}(h:n≠0)(q:∀i d,i<n->Q i {s with drawn:=d}):wpAny M A (choose src n) Q E s:=fun Γ p hΓ=>by
 unfold choose;rw[Sem.wp_choose];exact⟨h,q _ _ (Nat.mod_lt _ (Nat.pos_of_ne_zero h))⟩
theorem uE{α:Type}:∀(n:Nat)(xs:List α)(s:Shared)(Q:List α->Shared->Prop),xs.length<=n->(∀ys d,ys.Perm xs->Q ys {s with drawn:=d})->wpAny M A (drawOrder n xs) Q E s
 | 0,xs,s,Q,h,q=>by
  have e:xs=[]:=b8.mp (by omega);subst e;unfold drawOrder;exact ai (q [] s.drawn (eH _))
 |n+1,[],s,Q,h,q=>by
  unfold drawOrder;exact ai (q [] s.drawn (eH _))
 |n+1,a::l,s,Q,h,q=>by
  unfold drawOrder;refine aa (sZ (by simp) fun i d hi=>?_);rw[ah hi];dsimp only;refine aa (uE n _ _ _ (by rw[xp hi];simp at h⊢;omega) fun ys d' hy=>ai ?_);exact q _ d' ((hy.cons _).trans (nh hi))
end
end Q
set_option maxHeartbeats 3200000
namespace Q
open PySem PySem.Spec PySem.W PyProof.Rows L2
theorem eN:Slot "set_iterator" "__next__" "set_iterator.__next__":=
 .of (owner:="set_iterator") (n:="__next__") (by rw[typeLookup_type,builtinLookup_eq_fast];kernel_rfl) (by decide+kernel) (by decide+kernel) (by decide+kernel) (by first |exact .inl (by decide+kernel) |exact .inr (by decide+kernel)) (by rw[DA];kernel_rfl)
theorem mM:entryFor table "set_iterator.__next__"=some Builtin.«set_iterator.__next__»:=entryFor_of_tree (by kernel_rfl)
theorem oR(a:Value):argsOk "set_iterator.__next__" ⟨[a],[]⟩:=by unfold argsOk;kernel_rfl
theorem qv:entryFor table "set.__iter__"=some Builtin.«frozenset.__iter__»:=entryFor_alias (id':="frozenset.__iter__") (by kernel_rfl) rfl (by decide+kernel) (by kernel_rfl)
noncomputable abbrev siO(S:Addr)(first :Value)(i n ep:Nat):Obj:={cls:=.type "set_iterator",dict:=none,data:=.fields #[first,.int i 0,.ref S,.int n 0,.int ep 0],slots:= #[]}
section
variable {prog:Program}{w:World}{A:Around}{E:Value->Shared->Prop}{s:Shared}
noncomputable def hO(es:Array (Int×Value))(t:bJ):Bool:= !t.plain&&es.size>1
theorem nP{a:Addr}{o:Obj}{es:Array (Int×Value)}{ep:Nat}{t:bJ}{Q:Bool->Shared->Prop}(ho:s.heap.get? a=some o)(hd:o.data=.set es ep t)(hf:t.fits es.size=true)(h:Q (!w.params.followText "set-order"&&hO es t) s):
  wpAny (model prog w) A (setDrawn a) Q E s:=by
 unfold setDrawn lb;refine aa (dy ho hd hf ?_);dsimp only;refine aa (aa (dg (ai (ai ?_))));exact h
theorem FZ{S:Addr}{o:Obj}{es:Array (Int×Value)}{ep:Nat}{t:bJ}{Q:Value->Shared->Prop}(ho:s.heap.get? S=some o)(hc:o.cls=.type "set")(hd:o.data=.set es ep t)(hf:t.fits es.size=true)(hsb:es.size<fh)
  (h1:(!w.params.followText "set-order"&&hO es t)=false->Q (.ref s.heap.objs.size) {s with heap:=s.heap.push (siO S (.int 0 0) 0 es.size ep)})
  (h2:(!w.params.followText "set-order"&&hO es t)=true->∀(ps:List Nat)(d:Drawn),ps.Perm (aI es.size)->Q (.ref (s.heap.objs.size+1)) {s with drawn:=d,heap:=(s.heap.push {cls:=.type "tuple",data:=.seq (ps.map fun(i:Nat)=>rawInt i).toArray}).push (siO S (.ref s.heap.objs.size) 0 es.size ep)}):
  wpAny (model prog w) A (pyIter (.ref S)) Q E s:=by
 have hT:s.TypeIs (.ref S) "set":=⟨o,ho,hc⟩;refine wpAny_pyIter_slot hT F.slot_set_iter (cF F.slot_set_iter hT qv ?_ (F.args_set_iter_1 _));unfold Builtin.«frozenset.__iter__» Builtin.Frozenset.slot0 Builtin.Frozenset.sizeOf
 wp_walk
 have hfc:(t.place.size != es.size||decide (t.fill>t.mask))=false:=by
  simp only[bJ.fits,ag,beq_iff_eq,decide_eq_true_eq]at hf;simp[hf.1,fZ.mpr hf.2]
 rw[hd];dsimp only;rw[if_neg (by rw[hfc];decide)];refine ai (ai (ai ?_));refine aa (nP ho hd hf ?_);dsimp only;cases hb:(!w.params.followText "set-order"&&hO es t)with
 |false=>
  rw[if_neg (by decide)];refine aa (ai (aa (wpAny_setEpoch_of ho hd hf ?_)));refine aa (bY (ai ⟨_,rfl,"set_iterator",_,⟨_,au _ rfl,rfl⟩,eN.lookup,h1 hb⟩))
 |true=>
  rw[if_pos rfl];refine aa (uE _ _ _ _ (by simp) fun ps d hp=>?_);refine aa (bY ?_ (by show(ps.map fun(i:Nat)=>rawInt i).toArray.size<=sizeLine;rw[ay,av,hp.length_eq,dR];exact mB hsb));have ho1:(s.heap.push {cls:=.type "tuple",data:=.seq (ps.map fun(i:Nat)=>rawInt i).toArray}).get? S=some o:=af _ ho;refine aa (wpAny_setEpoch_of (s:={s with drawn:=d,heap:=s.heap.push {cls:=.type "tuple",data:=.seq (ps.map fun(i:Nat)=>rawInt i).toArray}}) ho1 hd hf ?_);have hz:(s.heap.push {cls:=.type "tuple",data:=.seq (ps.map fun(i:Nat)=>rawInt i).toArray}).objs.size=s.heap.objs.size+1:=bN ..;refine aa (bY (ai ⟨_,rfl,"set_iterator",_,⟨_,au _ rfl,rfl⟩,eN.lookup,?_⟩));have :=h2 hb ps d hp;rw[<-hz]at this;exact this
end
section
variable {prog:Program}{w:World}{A:Around}{E:Value->Shared->Prop}{s:Shared}
structure jA(h:Heap)(S:Addr)(es:Array (Int×Value))(ep:Nat)(t:bJ):Prop where
 ob:∃o,h.get? S=some o/\o.cls=.type "set"/\o.data=.set es ep t
 fit:t.fits es.size=true
theorem iT{I S:Addr}{first :Value}{i ep:Nat}{es:Array (Int×Value)}{t:bJ}{Q:dB->Shared->Prop}(hi:s.heap.get? I=some (siO S first i es.size ep))(hs:jA s.heap S es ep t)
  (h:wpAny (model prog w) A (match first with
   |.int slot _=>do
    match<-setNext S slot.toNat i ep with
    |some (x,next)=>do
     qz (.ref I) 0 (rawInt next)
     qz (.ref I) 1 (rawInt ((i:Int)+1))
     ret x
    |none=>do
     qz (.ref I) 2 .none
     Dz (<-newExc (.type "StopIteration") [])
   |_=>do
    let some places<-ji first |unsupported "internal:set_iterator"
    match places[i]? with
    |some (.int place _)=>do
     let x<-setNextDrawn S place.toNat ep
     qz (.ref I) 1 (rawInt ((i:Int)+1))
     ret x
    |some _=>unsupported "internal:set_iterator"
    |none=>do
     qz (.ref I) 0 (rawInt 0)
     qz (.ref I) 2 .none
     Dz (<-newExc (.type "StopIteration") [])) Q E s):
  wpAny (model prog w) A (Builtin.«set_iterator.__next__» ⟨[.ref I],[]⟩) Q E s:=by
 obtain⟨⟨o,ho,hc,hd⟩,hf⟩:=hs;unfold Builtin.«set_iterator.__next__»;show wpAny _ _ (fieldsOf (.ref I)>>=_) _ _ _;refine aa (wpAny_fieldsOf hi rfl ?_);dsimp only;refine aa (wpAny_setEntries_of ho hd hf ?_);rw[if_neg (by simp)];exact h
theorem nextA{I S:Addr}{k i ep:Nat}{es:Array (Int×Value)}{t:bJ}{x:Int×Value}{Q:dB->Shared->Prop}(hw:w.params.followText "set-order"=true)(hi:s.heap.get? I=some (siO S (.int k 0) i es.size ep))(hs:jA s.heap S es ep t)
  (hx:(gL (w.params.setOrder S ep) es)[i]? =some x)(h:∀h',h'.get? I=some (siO S (.int k 0) (i+1) es.size ep)->cR I s.heap h'->Q (.done (.ret x.2)) {s with heap:=h'}):
  wpAny (model prog w) A (Builtin.«set_iterator.__next__» ⟨[.ref I],[]⟩) Q E s:=by
 refine iT hi hs ?_;obtain⟨⟨o,ho,hc,hd⟩,hf⟩:=hs;dsimp only;refine aa ?_;unfold setNext lb;refine aa (dy ho hd hf ?_);dsimp only;refine aa (aa (dg (ai ?_)));dsimp only;rw[show(model prog w).w.params.followText "set-order"=true from hw];simp only[if_true,bne_self_eq_false,aL,if_false];refine aa ?_;unfold setWalk lb;refine aa (dy ho hd hf ?_);dsimp only;refine aa (aa (dg (ai ?_)));dsimp only;rw[show(model prog w).w.params.followText "set-order"=true from hw];simp only[if_true];refine aa (dg (ai (ai ?_)));rw[show(gL ({program:=(model prog w).prog,params:=(model prog w).w.params:Setting}.params.setOrder S ep) es)[i]? =some x from hx];simp only[iU,bw];refine aa (dc hi (by simp) fun h1 e1 s1=>?_);have e1:h1.get? I=some (siO S (.int k 0) i es.size ep):=e1;refine aa (dc e1 (by simp) fun h2 e2 s2=>?_);have e2:h2.get? I=some (siO S (.int k 0) (i+1) es.size ep):=e2;exact ai (h h2 e2 (s1.trans s2))
theorem nextB{I S:Addr}{k i ep:Nat}{es:Array (Int×Value)}{t:bJ}{x:Int×Value}{Q:dB->Shared->Prop}(hw:w.params.followText "set-order"=false)(hdr:hO es t=false)(hled:t.led=true)(hi:s.heap.get? I=some (siO S (.int k 0) i es.size ep))(hs:jA s.heap S es ep t)
  (hk:cz t.place k=i)(hx:es[i]? =some x)(h:∀h' j,t.place[i]? =some j->h'.get? I=some (siO S (.int (j+1:Nat) 0) (i+1) es.size ep)->cR I s.heap h'->Q (.done (.ret x.2)) {s with heap:=h'}):
  wpAny (model prog w) A (Builtin.«set_iterator.__next__» ⟨[.ref I],[]⟩) Q E s:=by
 refine iT hi hs ?_;obtain⟨⟨o,ho,hc,hd⟩,hf⟩:=hs;dsimp only;refine aa ?_;unfold setNext lb;refine aa (dy ho hd hf ?_);dsimp only;refine aa (aa (dg (ai ?_)));dsimp only;rw[show(model prog w).w.params.followText "set-order"=false from hw];simp only[aL,if_false];have hsz:t.place.size=es.size:=by
  simp only[bJ.fits,ag,beq_iff_eq]at hf;exact hf.1
 have hil:i<es.size:=(cu.mp hx).1;have hj:t.place[i]? =some (t.place[i]'(by omega)):=by simp[show i<t.place.size by omega]
 rw[if_neg (fun z=>by have z':hO es t=true:=z;rw[hdr]at z';cases z')];refine aa (show wpAny _ _ (if(!t.led&& !es.isEmpty)=true then unsupported "set:maker-not-led" else pure ()) _ _ _ from ?_);rw[if_neg (by rw[hled];simp)];refine ai (ai ?_);simp only[bw,hk,hx,hj];refine aa (dc hi (by simp) fun h1 e1 s1=>?_);have e1:h1.get? I=some (siO S (.int (t.place[i]'(by omega)+1:Nat) 0) i es.size ep):=e1;refine aa (dc e1 (by simp) fun h2 e2 s2=>?_);have e2:h2.get? I=some (siO S (.int (t.place[i]'(by omega)+1:Nat) 0) (i+1) es.size ep):=e2;exact ai (h h2 _ hj e2 (s1.trans s2))
theorem nextC{I S T:Addr}{i ep p:Nat}{tk:Tok}{es:Array (Int×Value)}{t:bJ}{ps:Array Value}{m:Nat}{oT:Obj}{x:Int×Value}{Q:dB->Shared->Prop}(hi:s.heap.get? I=some (siO S (.ref T) i es.size ep))(hs:jA s.heap S es ep t)
  (hT:s.heap.get? T=some oT)(hTd:oT.data=.seq ps m)(hp:ps[i]? =some (.int p tk))(hx:es[p]? =some x)(h:∀h',h'.get? I=some (siO S (.ref T) (i+1) es.size ep)->cR I s.heap h'->Q (.done (.ret x.2)) {s with heap:=h'}):
  wpAny (model prog w) A (Builtin.«set_iterator.__next__» ⟨[.ref I],[]⟩) Q E s:=by
 refine iT hi hs ?_;obtain⟨⟨o,ho,hc,hd⟩,hf⟩:=hs;dsimp only;refine aa (dW hT hTd ?_);simp only[hp,bw];refine aa ?_;unfold setNextDrawn;refine aa (dy ho hd hf ?_);simp only[bne_self_eq_false,aL,if_false,hx];refine ai ?_;refine aa (dc hi (by simp) fun h2 e2 s2=>?_);have e2:h2.get? I=some (siO S (.ref T) (i+1) es.size ep):=e2;exact ai (h h2 e2 s2)
end
section
variable {prog:Program}{w:World}{A:Around}{E:Value->Shared->Prop}{s:Shared}
theorem m3{α:Type}{Q:α->Shared->Prop}(hh:A.handled=none)(h:∀h' e,(∀c o,s.heap.get? c=some o->h'.get? c=some o)->(∃o,h'.get? e=some o/\o.cls=.type "StopIteration")->E (.ref e) {s with heap:=h'}):
  wpAny (model prog w) A (newExc (.type "StopIteration") []>>=fun x=>Dz x) Q E s:=by
 refine aa ?_;simp only[newExc,newTuple];refine aa (bY ?_ (by size_fits));refine aa (m:=qB _ _) (mz (a:=bI) (by first |rfl| (simp only[qB];rfl)) ?_);refine bY ?_ (by size_fits);simp only[Dz];refine aa (wpAny_handled ?_);rw[hh];refine aa (ai (wpAny_throw ?_));exact h _ _ (fun c o e=>af _ (af _ e)) ⟨_,au _ rfl,rfl⟩
noncomputable def Ends(E:Value->Shared->Prop)(I:Addr)(s:Shared):Prop:=∀h' e,(∀c o,c≠I->s.heap.get? c=some o->h'.get? c=some o)->(∃o,h'.get? e=some o/\o.cls=.type "StopIteration")->E (.ref e) {s with heap:=h'}
theorem endA{I S:Addr}{k ep:Nat}{es:Array (Int×Value)}{t:bJ}{Q:dB->Shared->Prop}(hh:A.handled=none)(hw:w.params.followText "set-order"=true)(hi:s.heap.get? I=some (siO S (.int k 0) es.size es.size ep))(hs:jA s.heap S es ep t)(h:Ends E I s):
  wpAny (model prog w) A (Builtin.«set_iterator.__next__» ⟨[.ref I],[]⟩) Q E s:=by
 have hx:(gL (w.params.setOrder S ep) es)[es.size]? =none:=by
  have :=(mf (w.params.setOrder S ep) es).length_eq
  simp at this⊢;omega
 refine iT hi hs ?_;obtain⟨⟨o,ho,hc,hd⟩,hf⟩:=hs;dsimp only;refine aa ?_;unfold setNext lb;refine aa (dy ho hd hf ?_);dsimp only;refine aa (aa (dg (ai ?_)));dsimp only;rw[show(model prog w).w.params.followText "set-order"=true from hw];simp only[if_true,bne_self_eq_false,aL,if_false];refine aa ?_;unfold setWalk lb;refine aa (dy ho hd hf ?_);dsimp only;refine aa (aa (dg (ai ?_)));dsimp only;rw[show(model prog w).w.params.followText "set-order"=true from hw];simp only[if_true];refine aa (dg (ai (ai ?_)));rw[show(gL ({program:=(model prog w).prog,params:=(model prog w).w.params:Setting}.params.setOrder S ep) es)[es.size]? =none from hx];simp only[Option.map_none];refine aa (dc hi (by simp) fun h1 e1 s1=>?_);exact m3 (s:={s with heap:=h1}) hh fun h' e kp he=>h h' e (fun c o c1 q=>kp c o (s1.extBut c o c1 q)) he
theorem endB{I S:Addr}{k ep:Nat}{es:Array (Int×Value)}{t:bJ}{Q:dB->Shared->Prop}(hh:A.handled=none)(hw:w.params.followText "set-order"=false)(hdr:hO es t=false)(hled:t.led=true)(hi:s.heap.get? I=some (siO S (.int k 0) es.size es.size ep))(hs:jA s.heap S es ep t)
  (hk:cz t.place k=es.size)(h:Ends E I s):wpAny (model prog w) A (Builtin.«set_iterator.__next__» ⟨[.ref I],[]⟩) Q E s:=by
 refine iT hi hs ?_;obtain⟨⟨o,ho,hc,hd⟩,hf⟩:=hs;dsimp only;refine aa ?_;unfold setNext lb;refine aa (dy ho hd hf ?_);dsimp only;refine aa (aa (dg (ai ?_)));dsimp only;rw[show(model prog w).w.params.followText "set-order"=false from hw];simp only[aL,if_false];rw[if_neg (fun z=>by have z':hO es t=true:=z;rw[hdr]at z';cases z')];refine aa (show wpAny _ _ (if(!t.led&& !es.isEmpty)=true then unsupported "set:maker-not-led" else pure ()) _ _ _ from ?_);rw[if_neg (by rw[hled];simp)];refine ai (ai ?_);have hn:es[es.size]? =none:=by simp
 simp only[bw,hk,hn];refine aa (dc hi (by simp) fun h1 e1 s1=>?_);exact m3 (s:={s with heap:=h1}) hh fun h' e kp he=>h h' e (fun c o c1 q=>kp c o (s1.extBut c o c1 q)) he
theorem endC{I S T:Addr}{ep:Nat}{es:Array (Int×Value)}{t:bJ}{ps:Array Value}{m:Nat}{oT:Obj}{Q:dB->Shared->Prop}(hh:A.handled=none)(hi:s.heap.get? I=some (siO S (.ref T) es.size es.size ep))(hs:jA s.heap S es ep t)(hT:s.heap.get? T=some oT)(hTd:oT.data=.seq ps m)(hp:ps.size=es.size)(h:Ends E I s):
  wpAny (model prog w) A (Builtin.«set_iterator.__next__» ⟨[.ref I],[]⟩) Q E s:=by
 refine iT hi hs ?_;dsimp only;refine aa (dW hT hTd ?_);have hn:ps[es.size]? =none:=by simp;omega
 simp only[hn];refine aa (dc hi (by simp) fun h1 e1 s1=>?_);have e1:h1.get? I=some (siO S (.int 0 0) es.size es.size ep):=e1;refine aa (dc e1 (by simp) fun h2 e2 s2=>?_);exact m3 (s:={s with heap:=h2}) hh fun h' e kp he=>h h' e (fun c o c1 q=>kp c o (s2.extBut c o c1 (s1.extBut c o c1 q))) he
end
theorem nT:Slot "set_iterator" "__iter__" "set_iterator.__iter__":=
 .of (owner:="set_iterator") (n:="__iter__") (by rw[typeLookup_type,builtinLookup_eq_fast];kernel_rfl) (by decide+kernel) (by decide+kernel) (by decide+kernel) (by first |exact .inl (by decide+kernel) |exact .inr (by decide+kernel)) (by rw[DA];kernel_rfl)
theorem tE:entryFor table "set_iterator.__iter__"=some Builtin.«dict_keyiterator.__iter__»:=
 entryFor_alias (id':="dict_keyiterator.__iter__") (by kernel_rfl) (by first |rfl|decide+kernel) (by decide+kernel) (by kernel_rfl)
theorem wN(a:Value):argsOk "set_iterator.__iter__" ⟨[a],[]⟩:=by unfold argsOk;kernel_rfl
section
variable {prog:Program}{w:World}{A:Around}{E:Value->Shared->Prop}{s:Shared}
theorem vv{I:Addr}{Q:Option Value->Shared->Prop}(hT:s.TypeIs (.ref I) "set_iterator")(h:∀(Q':dB->Shared->Prop)(E':Value->Shared->Prop),(∀v h',Q (some v) {s with heap:=h'}->Q' (.done (.ret v)) {s with heap:=h'})->wpAny (model prog w) A.in1 (Builtin.«set_iterator.__next__» ⟨[.ref I],[]⟩) Q' E' s):
  wpAny (model prog w) A (pyNext (.ref I)) Q E s:=by
 unfold pyNext;exact aa (gX (d3 (name:=ao "__next__") hT eN (cF eN hT mM (h _ _ fun v h' q=>⟨_,rfl,ai q⟩) (oR _))))
theorem vx{I:Addr}{Q:Option Value->Shared->Prop}(hT:s.TypeIs (.ref I) "set_iterator")(h:∀(Q':dB->Shared->Prop)(E':Value->Shared->Prop),(∀h' e,(∀c o,c≠I->s.heap.get? c=some o->h'.get? c=some o)->(∃o,h'.get? e=some o/\o.cls=.type "StopIteration")->E' (.ref e) {s with heap:=h'})->wpAny (model prog w) A.in1 (Builtin.«set_iterator.__next__» ⟨[.ref I],[]⟩) Q' E' s)
  (q:∀h',(∀c o,c≠I->s.heap.get? c=some o->h'.get? c=some o)->Q none {s with heap:=h'}):wpAny (model prog w) A (pyNext (.ref I)) Q E s:=by
 unfold pyNext;refine aa (gX (d3 (name:=ao "__next__") hT eN (cF eN hT mM (h _ _ fun h' e kp he=>?_) (oR _))));obtain⟨o,e1,e2⟩:=he;exact aa (jg (T:="StopIteration") (b:=true) ⟨o,e1,e2⟩ isSubtype_stop (ai (q _ kp)))
theorem vt{I:Addr}{Q:Value->Shared->Prop}(hT:s.TypeIs (.ref I) "set_iterator")(h:Q (.ref I) s):wpAny (model prog w) A (pyIter (.ref I)) Q E s:=by
 refine wpAny_pyIter_slot hT nT (cF nT hT tE ?_ (wN _));show wpAny _ _ (ret (.ref I)) _ _ s;exact ai ⟨_,rfl,"set_iterator",_,hT,eN.lookup,h⟩
end
theorem jA.at{h h':Heap}{S:Addr}{es:Array (Int×Value)}{ep:Nat}{t:bJ}(x:jA h S es ep t)(k:∀o,h.get? S=some o->h'.get? S=some o):jA h' S es ep t:=let⟨⟨o,a,b,c⟩,f⟩:=x;⟨⟨o,k o a,b,c⟩,f⟩
variable {prog:Program}{w:World}{A:Around}
theorem walkA(hh:A.handled=none)(hw:w.params.followText "set-order"=true){I S:Addr}(ne:S≠I)(es:Array (Int×Value))(ep:Nat)(t:bJ):
  Walks prog w A I [I,S] [I] es.size (fun i v=>((gL (w.params.setOrder S ep) es).toList.map (·.2))[i]? =some v) (fun i h=>jA h S es ep t/\∃k:Nat,h.get? I=some (siO S (.int k 0) i es.size ep)) where
 sub:=fun b hb=>by simp at hb⊢;exact .inl hb
 frame:=fun i h h' ⟨x,k,e⟩ kp=>⟨x.at fun o q=>kp S (by simp) o q,k,kp I (by simp) _ e⟩
 item:=fun i s Q E hi ⟨x,k,e⟩ hQ=>by
  have hl:=(mf (w.params.setOrder S ep) es).length_eq;simp only[cq]at hl;have hx:(gL (w.params.setOrder S ep) es)[i]? =some ((gL (w.params.setOrder S ep) es)[i]'(by omega)):=by simp[show i<(gL (w.params.setOrder S ep) es).size by omega]
  refine vv ⟨_,e,rfl⟩ fun Q' E' q=>nextA hw e x hx fun h' e' sb=>q _ h' ?_;exact hQ _ h' s.toks (by simp[hx]) ⟨x.at fun o z=>sb.extBut S o ne z,k,e'⟩ fun b o hb z=>sb.extBut b o (by simpa using hb) z
 done:=fun s Q E ⟨x,k,e⟩ hQ=>vx ⟨_,e,rfl⟩ (fun Q' E' q=>endA (by simp[hh]) hw e x q) fun h' kp=>hQ h' s.toks fun b o hb z=>kp b o (by simpa using hb) z
 self:=fun i s Q E ⟨x,k,e⟩ q=>vt ⟨_,e,rfl⟩ q
theorem walkB(hh:A.handled=none)(hw:w.params.followText "set-order"=false){I S:Addr}(ne:S≠I)(es:Array (Int×Value))(ep:Nat)(t:bJ)(hd:hO es t=false)(hl:t.led=true)(hT:je t):
  Walks prog w A I [I,S] [I] es.size (fun i v=>(es.toList.map (·.2))[i]? =some v) (fun i h=>jA h S es ep t/\∃k:Nat,cz t.place k=i/\h.get? I=some (siO S (.int k 0) i es.size ep)) where
 sub:=fun b hb=>by simp at hb⊢;exact .inl hb
 frame:=fun i h h' ⟨x,k,hk,e⟩ kp=>⟨x.at fun o q=>kp S (by simp) o q,k,hk,kp I (by simp) _ e⟩
 item:=fun i s Q E hi ⟨x,k,hk,e⟩ hQ=>by
  have hx:es[i]? =some es[i]:=by simp[hi]
  refine vv ⟨_,e,rfl⟩ fun Q' E' q=>nextB hw hd hl e x hk hx fun h' j hj e' sb=>q _ h' ?_;exact hQ _ h' s.toks (by simp[hx]) ⟨x.at fun o z=>sb.extBut S o ne z,j+1,Aw hT.up hj,e'⟩ fun b o hb z=>sb.extBut b o (by simpa using hb) z
 done:=fun s Q E ⟨x,k,hk,e⟩ hQ=>vx ⟨_,e,rfl⟩ (fun Q' E' q=>endB (by simp[hh]) hw hd hl e x hk q) fun h' kp=>hQ h' s.toks fun b o hb z=>kp b o (by simpa using hb) z
 self:=fun i s Q E ⟨x,k,hk,e⟩ q=>vt ⟨_,e,rfl⟩ q
theorem walkC(hh:A.handled=none){I S T:Addr}(ne:S≠I)(neT:T≠I)(es:Array (Int×Value))(ep:Nat)(t:bJ)(ps:List Nat)(hp:ps.Perm (aI es.size)):
  Walks prog w A I [I,S,T] [I] es.size (fun i v=>(ps.map fun p=>(es.getD p (0,.none)).2)[i]? =some v) (fun i h=>jA h S es ep t/\h.get? T=some {cls:=.type "tuple",data:=.seq (ps.map fun(i:Nat)=>rawInt i).toArray}/\h.get? I=some (siO S (.ref T) i es.size ep)) where
 sub:=fun b hb=>by simp at hb⊢;exact .inl hb
 frame:=fun i h h' ⟨x,z,e⟩ kp=>⟨x.at fun o q=>kp S (by simp) o q,kp T (by simp) _ z,kp I (by simp) _ e⟩
 item:=fun i s Q E hi ⟨x,z,e⟩ hQ=>by
  have hl:ps.length=es.size:=by rw[hp.length_eq,dR]
  have hil:i<ps.length:=by omega
  have hm:ps[i]<es.size:=cw.mp (hp.mem_iff.mp (bQ hil));have hx:es[ps[i]]? =some es[ps[i]]:=by simp[hm]
  refine vv ⟨_,e,rfl⟩ fun Q' E' q=>nextC (p:=ps[i]) (tk:=0) e x z rfl (by simp[hil,rawInt]) hx fun h' e' sb=>q _ h' ?_;exact hQ _ h' s.toks (by simp[hil,hm]) ⟨x.at fun o y=>sb.extBut S o ne y,sb.extBut T _ neT z,e'⟩ fun b o hb y=>sb.extBut b o (by simpa using hb) y
 done:=fun s Q E ⟨x,z,e⟩ hQ=>vx ⟨_,e,rfl⟩ (fun Q' E' q=>endC (by simp[hh]) e x z rfl (by simp[hp.length_eq]) q) fun h' kp=>hQ h' s.toks fun b o hb y=>kp b o (by simpa using hb) y
 self:=fun i s Q E ⟨x,z,e⟩ q=>vt ⟨_,e,rfl⟩ q
end Q
namespace Q
open PySem PySem.Spec PySem.W PyProof.Rows L2
section
variable {prog:Program}{w:World}{A:Around}{E:Value->Shared->Prop}{s:Shared}
theorem ite_yes{α:Type}{M:Model}{b:Bool}{x y:Sem α}{Q:α->Shared->Prop}(hb:b=true)(h:wpAny M A x Q E s):wpAny M A (if b=true then x else y) Q E s:=by rw[if_pos hb];exact h
theorem yk{S:Addr}{Q:Bool->Shared->Prop}(hT:s.TypeIs (.ref S) "set")(h:Q false s):wpAny (model prog w) A (pR (.ref S)) Q E s:=by
 unfold pR;refine aa (wpAny_specialOf hT F.slot_set_len.lookup ?_);generalize hid:("set.__len__":String)=id0
 (fail_if_success (clear hid id0))
 wp_delta
 rw[show splitId id0=some ("set","__len__")from by subst hid;decide+kernel];subst hid;refine aa (jg (b:=true) hT (by rw[DA];kernel_rfl) ?_);rw[if_neg (by decide)];refine ite_yes (by decide+kernel) (aa (wR hT ?_));exact ai h
noncomputable abbrev ip(acc:Array Value)(c:Nat):Obj:={cls:=.type "list",dict:=none,data:=.seq acc c,slots:= #[]}
theorem touch{L:Addr}{acc:Array Value}{c:Nat}{Q:Unit->Shared->Prop}(hL:s.heap.get? L=some (ip acc c))(hz:acc.size<=5000)(h:∀h' c',h'.get? L=some (ip acc c')->cR L s.heap h'->Q () {s with heap:=h'}):wpAny (model prog w) A (jW (.ref L)) Q E s:=by
 have hz1:acc.size<=sizeLine:=aF hz (by decide);unfold jW;refine aa (eU hL rfl ?_ hz1 (by simp;omega));have e1:∃c1,(s.heap.update L (aW fun x=>x.push bI)).get? L=some (ip (acc.push .none) c1):=⟨_,by rw[bF _ hL rfl];rfl⟩;obtain⟨c1,e1⟩:=e1;refine eU (s:={s with heap:=s.heap.update L (aW fun x=>x.push bI)}) e1 rfl ?_ (by simp;exact aF (by omega:acc.size+1<=5001) (by decide)) (by simp;omega);have e2:∃c2,((s.heap.update L (aW fun x=>x.push bI)).update L (aW fun x=>x.pop)).get? L=some (ip acc c2):=⟨_,by rw[bF _ e1 rfl];simp[aW];rfl⟩;obtain⟨c2,e2⟩:=e2;exact h _ c2 e2 ((bO ..).trans (bO ..))
theorem rV{L I:Addr}{fp wr:List Addr}{n:Nat}{P:Nat->Value->Prop}{St:Nat->Heap->Prop}{res:Value}{c:Nat}{R:Result->Shared->Prop}{Qf:dB->Shared->Prop}(hq:∀c' s',c'.quiet=true/\eE (model prog w) A c' R s'->Qf (.again c') s')(W:Walks prog w A.in1 I fp wr n P St)(hn:n<=sizeLine)(hLf:L∉fp)(hL:s.heap.get? L=some (ip #[] c))(st:St 0 s.heap)
  (h:∀s' acc c',(∀b o,b∉L::wr->s.heap.get? b=some o->s'.heap.get? b=some o)->s'.gens=s.gens->s'.drawn=s.drawn->s'.os=s.os->s'.heap.get? L=some (ip acc c')->ItemsOf P acc n->R (.ok (.ret res)) s'):
  wpAny (model prog w) A.in1 (do
   rule "list.extend.makes-room"
   let __r<-jW (.ref L)
   (fun(__r:Unit)=>again (Code.builtin "list.extend.loop" {pos:=[aX L,aX I,res]})) __r) Qf E s:=by
 refine aa (fF (aa (touch hL (by simp) fun h1 c1 e1 sb=>?_)));have st1:=W.frame 0 s.heap h1 st fun b hb o e=>sb.extBut b o (fun z=>hLf (z▸hb)) e;refine ai (hq _ _ ⟨du F.plain_extend_loop _,codeAny_extend_loopS W.toS hn _ hLf _ n 0 _ _ _ rfl (bp _) st1 e1 (ItemsOf.nil P) fun s' acc' c' hm hS' hacc=>?_⟩);exact h s' acc' c' (fun b o hb e=>hm.heap b o hb (sb.extBut b o (fun z=>hb (by rw[z];exact aH)) e)) hm.gens hm.drawn hm.os hS' hacc
end
theorem Ah{vs:List Value}{acc:Array Value}(h:ItemsOf (fun i v=>vs[i]? =some v) acc vs.length):acc.toList=vs:=by
 obtain⟨h1,h2⟩:=h;apply cE
 ·simpa using h1
 ·intro i a b
  have :vs[i]? =some acc[i]:=h2 i acc[i] (by simp);rw[ah b]at this;simpa using(aP this).symm
theorem es_map(es:Array (Int×Value)):((aI es.size).map fun p=>(es.getD p (0,.none)).2)=es.toList.map (·.2):=by
 apply cE
 ·simp
 ·intro i a b
  have hi:i<es.size:=by simpa using a
  simp[hi]
section
variable {prog:Program}{w:World}{A:Around}{E:Value->Shared->Prop}{s:Shared}
theorem yC{S:Addr}{o:Obj}{es:Array (Int×Value)}{ep:Nat}{t:bJ}{Q:List Value->Shared->Prop}(hh:A.handled=none)(ho:s.heap.get? S=some o)(hc:o.cls=.type "set")(hd:o.data=.set es ep t)(hf:t.fits es.size=true)(hsb:es.size<fh)(hT:je t)(hled:w.params.followText "set-order"=false->t.led=true)
  (hQ:∀(vs:List Value) s',vs.Perm (es.toList.map (·.2))->(∀b o,s.heap.get? b=some o->s'.heap.get? b=some o)->s'.gens=s.gens->s'.os=s.os->s.heap.objs.size<s'.heap.objs.size->Q vs s'):wpAny (model prog w) A (collect (.ref S)) Q E s:=by
 have hSl:S<s.heap.objs.size:=ax ho;have hn:es.size<=sizeLine:=mB hsb;unfold collect;refine aa (wpAny_runValue (cT F.entry_proto_collect ?_));rw[cb F.plain_proto_collect _];show wpAny _ A.in1 (newList []>>=fun l=>again (.builtin "list.__iadd__" ⟨[l,.ref S],[]⟩)) _ _ s;refine aa (bY ?_);refine ai ⟨du F.plain_list_iadd _,cT F.entry_list_iadd ?_⟩;rw[cb F.plain_list_iadd _];have hL:(s.heap.push (ip #[] 0)).get? s.heap.objs.size=some (ip #[] 0):=au _ rfl;have ho1:(s.heap.push (ip #[] 0)).get? S=some o:=af _ ho;have hz:(s.heap.push (ip #[] 0)).objs.size=s.heap.objs.size+1:=bN ..;have hT1:Shared.TypeIs {s with heap:=s.heap.push (ip #[] 0)} (.ref S) "set":=⟨o,ho1,hc⟩;show wpAny _ A.in1 (pS (.ref s.heap.objs.size) (.ref S) (.ref s.heap.objs.size)) _ _ {s with heap:=s.heap.push (ip #[] 0)};unfold pS;refine aa (wR hT1 ?_);rw[if_neg (by simp[Builtin.List.listSameRef];exact cS hSl)];have fin:∀(vs:List Value)(s':Shared)(acc:Array Value)(c':Nat),vs.length=es.size->vs.Perm (es.toList.map (·.2))->(∀b o,s.heap.get? b=some o->s'.heap.get? b=some o)->s'.gens=s.gens->s'.os=s.os->s'.heap.get? s.heap.objs.size=some (ip acc c')->ItemsOf (fun i v=>vs[i]? =some v) acc es.size->
   wpAny (model prog w) A (load s.heap.objs.size>>=fun x=>match x.data with |.seq xs _=>pure xs.toList|_=>unsupported "internal:collect") Q E s':=fun vs s' acc c' hl hp k1 k2 k3 e it=>by
  refine aa (wpAny_load e ?_);rw[<-hl]at it;have :=Ah it;exact ai (by rw[this];exact hQ vs s' hp k1 k2 k3 (ax e))
 refine aa (FZ ho1 hc hd hf hsb (fun hm=>?_) fun hm ps d hp=>?_)
 ·rw[hz]
  refine aa (bz (yk ⟨o,af _ ho1,hc⟩ ?_));refine ite_yes (by decide+kernel) ?_;have hI:((s.heap.push (ip #[] 0)).push (siO S (.int 0 0) 0 es.size ep)).get? (s.heap.objs.size+1)=some (siO S (.int 0 0) 0 es.size ep):=by rw[<-hz];exact au _ rfl
  have hSA:jA ((s.heap.push (ip #[] 0)).push (siO S (.int 0 0) 0 es.size ep)) S es ep t:=⟨⟨o,af _ ho1,hc,hd⟩,hf⟩;have nfp:s.heap.objs.size∉[s.heap.objs.size+1,S]:=by
   simp only[aA,bP,or_false,not_or];exact⟨aE (bT _),cS hSl⟩
  have kp:∀(s':Shared),(∀b o,b∉s.heap.objs.size::[s.heap.objs.size+1]->((s.heap.push (ip #[] 0)).push (siO S (.int 0 0) 0 es.size ep)).get? b=some o->s'.heap.get? b=some o)->∀b o,s.heap.get? b=some o->s'.heap.get? b=some o:=fun s' k b o e=>by
   have hb:=ax e;refine k b o ?_ (af _ (af _ e));simp only[aA,bP,or_false,not_or];exact⟨aE hb,aE (bB hb)⟩
  cases hw:w.params.followText "set-order" with
  |true=>
   have hl:((gL (w.params.setOrder S ep) es).toList.map (·.2)).length=es.size:=by
    have :=(mf (w.params.setOrder S ep) es).length_eq
    simpa using this
   refine rV (s:={s with heap:=(s.heap.push (ip #[] 0)).push (siO S (.int 0 0) 0 es.size ep)}) (fun c' s' h=>h) (walkA (A:=A.in1) (by simp[hh]) hw (aE (bB hSl)) es ep t) hn nfp (af _ hL) ⟨hSA,0,hI⟩ fun s' acc c' k1 k2 k3 k4 e it=>?_;exact fin _ s' acc c' hl ((mf (w.params.setOrder S ep) es).map _) (kp s' k1) k2 k4 e it
  |false=>
   have hdr:hO es t=false:=by rw[hw]at hm;simpa using hm
   refine rV (s:={s with heap:=(s.heap.push (ip #[] 0)).push (siO S (.int 0 0) 0 es.size ep)}) (fun c' s' h=>h) (walkB (A:=A.in1) (by simp[hh]) hw (aE (bB hSl)) es ep t hdr (hled hw) hT) hn nfp (af _ hL) ⟨hSA,0,Av hT.up,hI⟩ fun s' acc c' k1 k2 k3 k4 e it=>?_;exact fin _ s' acc c' (by simp) (eH _) (kp s' k1) k2 k4 e it
 ·rw[hz]
  have hz2:((s.heap.push (ip #[] 0)).push {cls:=.type "tuple",data:=.seq (ps.map fun(i:Nat)=>rawInt i).toArray}).objs.size=s.heap.objs.size+1+1:=by rw[bN,hz]
  have hT2:((s.heap.push (ip #[] 0)).push {cls:=.type "tuple",data:=.seq (ps.map fun(i:Nat)=>rawInt i).toArray}).get? (s.heap.objs.size+1)=some {cls:=.type "tuple",data:=.seq (ps.map fun(i:Nat)=>rawInt i).toArray}:=by rw[<-hz];exact au _ rfl
  have ho2:((s.heap.push (ip #[] 0)).push {cls:=.type "tuple",data:=.seq (ps.map fun(i:Nat)=>rawInt i).toArray}).get? S=some o:=af _ ho1;have hL2:((s.heap.push (ip #[] 0)).push {cls:=.type "tuple",data:=.seq (ps.map fun(i:Nat)=>rawInt i).toArray}).get? s.heap.objs.size=some (ip #[] 0):=af _ hL;have kp2:∀b o,s.heap.get? b=some o->((s.heap.push (ip #[] 0)).push {cls:=.type "tuple",data:=.seq (ps.map fun(i:Nat)=>rawInt i).toArray}).get? b=some o:=fun b o e=>af _ (af _ e);generalize(s.heap.push (ip #[] 0)).push {cls:=.type "tuple",data:=.seq (ps.map fun(i:Nat)=>rawInt i).toArray}=h2 at *;refine aa (bz (yk ⟨o,af _ ho2,hc⟩ ?_));refine ite_yes (by decide+kernel) ?_;have hI:(h2.push (siO S (.ref (s.heap.objs.size+1)) 0 es.size ep)).get? (s.heap.objs.size+1+1)=some (siO S (.ref (s.heap.objs.size+1)) 0 es.size ep):=by rw[<-hz2];exact au _ rfl
  have nfp:s.heap.objs.size∉[s.heap.objs.size+1+1,S,s.heap.objs.size+1]:=by
   simp only[aA,bP,or_false,not_or];exact⟨aE (bB (bT _)),cS hSl,aE (bT _)⟩
  have hl:(ps.map fun p=>(es.getD p (0,.none)).2).length=es.size:=by rw[av,hp.length_eq,dR]
  refine rV (s:={s with drawn:=d,heap:=h2.push (siO S (.ref (s.heap.objs.size+1)) 0 es.size ep)}) (fun c' s' h=>h) (walkC (A:=A.in1) (by simp[hh]) (aE (bB (bB hSl))) (aE (bT _)) es ep t ps hp) hn nfp (af _ hL2)
   ⟨⟨⟨o,af _ ho2,hc,hd⟩,hf⟩,af _ hT2,hI⟩ fun s' acc c' k1 k2 k3 k4 e it=>?_
  refine fin _ s' acc c' hl ((hp.map _).trans (by rw[es_map])) (fun b o q=>?_) k2 k4 e it;have hb:=ax q;refine k1 b o ?_ (af _ (kp2 b o q));simp only[aA,bP,or_false,not_or];exact⟨aE hb,aE (bB (bB hb))⟩
end
theorem CW{vs xs:List Value}(p:vs.Perm xs):∀{ks:List Int},b7 xs ks->∃ms:List Int,ms.Perm ks/\b7 vs ms:=by
 induction p with
 |nil=>intro ks h;exact⟨ks,eH _,h⟩
 |cons x p ih=>
  intro ks h;cases h with
  |cons k t h=>
   obtain⟨ms,a,b⟩:=ih h;exact⟨k::ms,a.cons k,.cons k t b⟩
 |swap x y l=>
  intro ks h;cases h with
  |cons k t h=>cases h with
   |cons k' t' h=>exact⟨k'::k::_,Hf _ _ _,.cons k' t' (.cons k t h)⟩
 |trans p q ih1 ih2=>
  intro ks h;obtain⟨ms,a,b⟩:=ih2 h;obtain⟨ms',a',b'⟩:=ih1 b;exact⟨ms',a'.trans a,b'⟩
section
variable {prog:Program}{w:World}{A:Around}{E:Value->Shared->Prop}{s:Shared}
theorem zG{S:Addr}{o:Obj}{es:Array (Int×Value)}{ep:Nat}{t:bJ}{ks:List Int}{Q:Value->Shared->Prop}(hh:A.handled=none)(ho:s.heap.get? S=some o)(hc:o.cls=.type "set")(hd:o.data=.set es ep t)(hf:t.fits es.size=true)(h64:es.size<64)(hT:je t)(hled:w.params.followText "set-order"=false->t.led=true)
  (hk:b7 (es.toList.map (·.2)) ks)(nd:ks.Nodup)
  (h:∀(ms:List Int)(vs:List Value)(s':Shared)(l:Addr)(c:Nat),ms.Perm ks->b7 vs ms->(∀b o,s.heap.get? b=some o->s'.heap.get? b=some o)->s'.gens=s.gens->s'.os=s.os->s.heap.objs.size<=l->s'.heap.get? l=some (seqObj "list" (fK (ltI ms) vs).toArray c)->Q (.ref l) s'):
  wpAny (model prog w) A (call (.builtin "sorted") [.ref S]) Q E s:=by
 refine kj kind_sorted plain_sorted entry_sorted (args_sorted1 _) ?_;unfold Builtin.«sorted»;refine aa (m:=checkCount "sorted" 1 1 _) (ai (aa (yC (by simp[hh]) ho hc hd hf (fj h64 (by decide)) hT hled fun vs s' hp kp k2 k3 k4=>aa (mG ?_ ?_))))
 ·obtain⟨ms,m1,m2⟩:=CW hp hk
  have hl:vs.length=ms.length:=m2.length;have hv:vs.length<64:=by
   have :=hp.length_eq
   simp at this;omega
  have hg:(s'.heap.push (seqObj "list" vs.toArray 0)).get? s'.heap.objs.size=some (seqObj "list" vs.toArray 0):=au _ rfl;have ndm:ms.Nodup:=m1.nodup_iff.mpr nd;show wpAny _ _ _ _ _ {s' with heap:=s'.heap.push (seqObj "list" vs.toArray 0)};refine aa (bz (cF Dx ⟨_,hg,rfl⟩ AF (AK (lt:=ltI ms) (h0:=s'.heap) (by rw[hl];exact totI ndm) hg (fun b o e=>⟨af _ e,aE (ax e)⟩) hv (fun h2=>Ds m2 h2) ⟨_,rfl,?_⟩) (args_list_sort _)));refine ai ⟨_,rfl,?_⟩;obtain⟨c,hc'⟩:=sortedHeap_at (out:=(fK (ltI ms) vs).toArray) hg;refine h ms vs _ _ c m1 m2 (fun b o e=>?_) k2 k3 (jS k4) hc';have e':=kp b o e;have hb:=ax e';show(sortedHeap (s'.heap.push (seqObj "list" vs.toArray 0)) s'.heap.objs.size vs (fK (ltI ms) vs).toArray).get? b=some o;rw[sortedHeap_old (aE hb) (by rw[Dy];exact bB hb)];exact af _ e'
 ·have :=hp.length_eq
  simp at this;exact aF (by omega:vs.length<=64) (by decide)
end
theorem FC(ks:List Key):(met ks).Nodup:=by
 unfold met;have g:∀(l acc:List Key),acc.Nodup->(l.foldl more acc).Nodup:=by
  intro l
  induction l with
  |nil=>exact fun _ h=>h
  |cons k l ih=>
   intro acc h;refine ih _ ?_;unfold more;split
   ·exact h
   ·rename_i c
    refine fJ.mpr ⟨h,by simp,fun a ha b hb=>?_⟩;rw[aO]at hb;subst hb;intro z;subst z;exact c (gc.mpr ha)
 exact g ks [] hW
theorem tY{α:Type}[DecidableEq α]:∀{m l:List α},m.Nodup->(∀x∈m,x∈l)->l.length=m.length->l.Perm m
 | [],l,_,_,h=>by
  rw[jb]at h;rw[List.eq_nil_of_length_eq_zero h]
 |a::m,l,nd,hs,h=>by
  have ha:a∈l:=hs a aH;have p:=List.perm_cons_erase ha;rw[cO]at nd;have hl:=p.length_eq;rw[bo]at hl h;have q:=tY (m:=m) (l:=l.erase a) nd.2 (fun x hx=>(DM (fun z:x=a=>nd.1 (by rw[<-z];exact hx))).mpr (hs x (aJ _ hx))) (by omega);exact p.trans (q.cons a)
section
variable {prog:Program}{w:World}
theorem Bh{k:Int}{v:Value}(h:(bV prog w).is (.inl k) v=true):∃t,v=.int k t:=by
 rw[Aa]at h;exact Value.isInt_shape (k:=k) (v:=v) h
theorem qJ{l:List (Int×Value)}(h:ElemsOf (bV prog w) l)(hi:∀e∈l,∀k,(bV prog w).is k e.2=true->∃n:Int,k=.inl n):∃ms:List Int,b7 (l.map (·.2)) ms:=by
 induction l with
 |nil=>exact⟨[],.nil⟩
 |cons e l ih=>
  obtain⟨ms,r⟩:=ih h.tail fun e' he'=>hi e' (aJ _ he');obtain⟨⟨k,hk,_⟩,_⟩:=h.head;obtain⟨n,rfl⟩:=hi e aH k hk;obtain⟨t,e2⟩:=Bh hk;refine⟨n::ms,?_⟩;rw[bC,e2];exact .cons n t r
theorem F0:∀{vs:List Value}{ms:List Int},b7 vs ms->∀n,n∈ms↔∃v∈vs,(bV prog w).is (.inl n) v=true:=by
 intro vs ms r
 induction r with
 |nil=>simp
 |cons k t r ih=>
  intro n;rw[aA,ih n];constructor
  ·rintro(rfl|⟨v,hv,e⟩)
   ·exact⟨_,aH,lE _ _ _ _⟩
   ·exact⟨v,aJ _ hv,e⟩
  ·rintro⟨v,hv,e⟩
   rcases aA.mp hv with rfl|hv
   ·obtain⟨t',e'⟩:=Bh e
    cases e';exact .inl rfl
   ·exact .inr ⟨v,hv,e⟩
theorem B6{h:Heap}{a:Addr}{ns:List Int}{led:Bool}(x:oU (bV prog w) h a (has (met (ns.map .inl))) (met (ns.map .inl)).length led):
  ∃o es ep t ms,h.get? a=some o/\o.cls=.type "set"/\o.data=.set es ep t/\t.fits es.size=true/\es.size<=ns.length/\je t/\t.led=led/\b7 (es.toList.map (·.2)) ms/\ms.Nodup/\∀n,n∈ms↔n∈ns:=by
 obtain⟨o,es,ep,t,ho,hx,hd,hl,hm,hb,hf,hn,hT,hL⟩:=x;have hle:=FD (ns.map (eG:Int->Key));rw[av]at hle;have inl:∀e∈es.toList,∀k,(bV prog w).is k e.2=true->∃n:Int,n∈ns/\k=.inl n:=fun e he k hk=>by
  have :=kq.mp (gc.mp ((hm k).mpr ⟨e,he,hk⟩))
  obtain⟨n,hn,rfl⟩:=aV.mp this;exact⟨n,hn,rfl⟩
 obtain⟨ms,r⟩:=qJ hl fun e he k hk=>let⟨n,_,e⟩:=inl e he k hk;⟨n,e⟩;have mem:∀n,n∈ms↔n∈ns:=fun n=>by
  rw[F0 (prog:=prog) (w:=w) r n];constructor
  ·rintro⟨v,hv,e⟩
   obtain⟨e',he',rfl⟩:=aV.mp hv;obtain⟨n',hn',z⟩:=inl e' he' _ e;cases z;exact hn'
  ·intro h
   obtain⟨e,he,hk⟩:=(hm (.inl n)).mp (gc.mpr (kq.mpr (o6 h)));exact⟨e.2,o6 he,hk⟩
 have len:ms.length=es.size:=by
  have :=r.length
  simp at this;omega
 have p:(ms.map (eG:Int->Key)).Perm (met (ns.map .inl)):=tY (FC _) (fun x hx=>by
  obtain⟨n,hn,rfl⟩:=aV.mp (kq.mp hx);exact o6 ((mem n).mpr hn)) (by rw[av];omega)
 have nd:(ms.map (eG:Int->Key)).Nodup:=p.nodup_iff.mpr (FC _);exact⟨o,es,ep,t,ms,ho,hx.1,hd,hf,by omega,hT,hL,r,(qO.mp nd).imp fun h z=>h (congrArg _ z),mem⟩
end
end Q
namespace L2
open PySem PySem.Spec PyProof.Rows Q
section
variable {X:Cx}
theorem Inv.same{pins:List (Addr×Obj)}{σ:List (Option V)}{H:Hp}{s s':Shared}(I:Inv X pins σ H s)(h1:s'.heap=s.heap)(h2:s'.gens=s.gens)(h3:s'.os=s.os):Inv X pins σ H s':=by
 obtain⟨h,g,d,t,o⟩:=s;obtain⟨h',g',d',t',o'⟩:=s';obtain rfl:h'=h:=h1;obtain rfl:g'=g:=h2;obtain rfl:o'=o:=h3;exact⟨I.ok,I.os,I.bare,I.base,I.loc,I.cell,I.free,I.freeC,I.pin,I.hok,I.len⟩
noncomputable def xC(K:ae)(ta:TA):TE:=fun σ H Q=>ta σ H fun vs H1=>∃(p:Addr)(ns:List Int),vs=[V.ref p]/\SqL K H1 p (ns.map V.int)/\ns.length<64/\
 ∀(ms:List Int) l,ms.Nodup->(∀x,x∈ms↔x∈ns)->H1 l=none->Q (.ref l) (upd H1 l (.lst (sortI ms)))
theorem wJ:eQ "sorted"=some (.builtin "sorted"):=by decide+kernel
theorem Dk:eQ "set"=some (.type "set"):=by decide+kernel
theorem zV{a:Expr}{ta:TA}{p p' pos pos':Pos}(hc:X.calm=true)(hg:Gl X "sorted")(hm:X.mg "sorted"=none)(hg':Gl X "set")(hm':X.mg "set"=none)(ha:PA X [a] ta)(hs:aM [a] X.env=[(false,eval a X.env)]:=by rfl):
  PE X (.Call (.Name "sorted" p) [.Call (.Name "set" p') [a] [] pos'] [] pos) (xC X.K ta):=by
 intro pins s σ H Q I h;refine Call_ (kz I hg hm wJ (gP (Hg ?_) rfl rfl));refine Call_ (kz I hg' hm' Dk (dJ (thn (ha pos' pins s σ H _ I h) fun us s1 ⟨vs,H1,I1,r1,q1⟩=>?_) hs rfl));obtain⟨pl,ns,e,hq,h64,q⟩:=q1;subst e;obtain⟨u,rfl,rx⟩:=vals1 r1;cases rx;obtain⟨its,r',plist,_⟩:=I1.list hq;have hlen:=r'.length;rw[av]at hlen;have r2:bM ((ns.map (eG:Int->Key)).map kV) its:=by
  rw[di];exact r'
 refine tX (ks:=ns.map .inl) (I1.ok.hd hc) plist.isList (by rw[ay,av];exact hlen) (fun i v e=>we r2 i v (by simpa using e)) (by rw[ay,<-hlen];unfold fh;omega) fun h' tk hS kp=>?_;obtain⟨o,es,ep,t,ms,ho,hx,hd,hf,hsz,hT,hL,r,nd,mem⟩:=B6 hS;refine ai ?_;refine zG (s:={s1 with heap:=h',toks:=tk}) (I1.ok.hd hc) ho hx hd hf (by omega) hT (fun z=>by rw[hL,z];rfl) r nd fun ms' vs s' l c hp hv kp' k2 k3 k4 k5=>?_;have nd':ms'.Nodup:=hp.nodup_iff.mpr nd;have hlm:ms'.length=es.size:=by
  have a1:=hp.length_eq;have a2:=r.length;simp at a2;omega
 have kk:∀b o,s1.heap.get? b=some o->s'.heap.get? b=some o:=fun b o e=>kp' b o (kp b o (ax e) e);have hlt:s1.heap.objs.size<h'.objs.size:=ax ho;have hle:s1.heap.objs.size<=l:=aF (jS hlt) k4;have hz2:(sortI ms').length<=sizeLine:=by
  unfold sortI;rw[av,Fk nd'];exact fb (by omega)
 exact⟨.ref l,_,(I1.laid (h':=s'.heap) (t':=s1.toks) kk hle (show cZ X.prog X.w _ _ _ (.lst (sortI ms'))from⟨hz2,_,c,outI nd' (o8 hv),k5⟩)).same rfl k2 k3,rfl,q _ _ nd' (fun x=>(hp.mem_iff).trans (mem x)) (I1.hok.fresh hle)⟩
end
end L2
set_option genInjectivity false
set_option genSizeOf false
namespace R
open PySem PySem.Spec PyProof.Rows L2
inductive Bf where
 |len|isinstance|all|any|list|tuple|set|min|int|lend|isx|sortl|minl|maxl|sortt
 deriving DecidableEq
noncomputable def Bf.name:Bf->Str
 |.len=>"len" |.isinstance=>"isinstance" |.all=>"all" |.any=>"any" |.list=>"list" |.tuple=>"tuple" |.set=>"set" |.min=>"min" |.int=>"int" |.lend=>"len" |.isx=>"isinstance" |.sortl=>"sorted" |.minl=>"min" |.maxl=>"max" |.sortt=>"sorted"
noncomputable def Bf.val:Bf->Value
 |.len=>.builtin "len" |.isinstance=>.builtin "isinstance" |.all=>.builtin "all" |.any=>.builtin "any" |.list=>.type "list" |.tuple=>.type "tuple" |.set=>.type "set" |.min=>.builtin "min" |.int=>.type "int" |.lend=>.builtin "len" |.isx=>.builtin "isinstance" |.sortl=>.builtin "sorted" |.minl=>.builtin "min" |.maxl=>.builtin "max" |.sortt=>.builtin "sorted"
theorem Bf.boot:∀b:Bf,eQ b.name=some b.val
 |.len=>PySem.boot_len|.isinstance=>boot_isinstance|.all=>boot_all|.any=>boot_any|.list=>sU|.tuple=>sQ
 |.set=>by decide+kernel|.min=>by decide+kernel|.int=>tL|.lend=>PySem.boot_len|.isx=>boot_isinstance|.sortl=>by decide+kernel|.minl=>by decide+kernel|.maxl=>by decide+kernel|.sortt=>by decide+kernel
theorem Bf.plain:∀b:Bf,b.name≠"__name__"/\(b.name==("__debug__":Str))=false:=by
 intro b;cases b<;>exact⟨by decide+kernel,by decide+kernel⟩
inductive Ty where
 |int|bool|str|list|tuple|dict|valueError
 deriving DecidableEq
noncomputable def Ty.name:Ty->Str
 |.int=>"int" |.bool=>"bool" |.str=>"str" |.list=>"list" |.tuple=>"tuple" |.dict=>"dict" |.valueError=>"ValueError"
noncomputable def Ty.t:Ty->String
 |.int=>"int" |.bool=>"bool" |.str=>"str" |.list=>"list" |.tuple=>"tuple" |.dict=>"dict" |.valueError=>"ValueError"
theorem Ty.boot:∀b:Ty,eQ b.name=some (.type b.t)
 |.int=>tL|.bool=>PyProof.Rows.boot_bool|.str=>PyProof.Rows.boot_str|.list=>sU|.tuple=>sQ|.dict=>PyProof.Rows.boot_dict|.valueError=>by decide+kernel
theorem Ty.plain:∀b:Ty,b.name≠"__name__"/\(b.name==("__debug__":Str))=false:=by
 intro b;cases b<;>exact⟨by decide+kernel,by decide+kernel⟩
noncomputable def kZ(K:ae):Operator->R2
 |.Add=>fun x y H Q=>(rI0 fun i j=>.int (i+j)) x y H Q\/(∃i j,x=.str i/\y=.str j/\i.length+j.length<=sizeLine/\Q (.str (i++j)) H)\/rCat x y H Q\/AW K x y H Q\/AX K x y H Q
 |.Sub=>rI0 fun i j=>.int (i-j)
 |.Mult=>fun x y H Q=>(rI Du fun i j=>.int (i*j)) x y H Q\/rRep x y H Q\/EK x y H Q
 |.Mod=>rI (fun _ j=>0<j) fun i j=>.int (i%j)
 |.FloorDiv=>rI CDiv fun i j=>.int (i/j)
 |.Pow=>rI CPow fun i j=>.int (i^j.toNat)
 |.RShift=>rI (fun _ j=>0<=j) fun i j=>.int (i/2^j.toNat)
 |.LShift=>rI CPow fun i j=>.int (i*2^j.toNat)
 |.BitAnd=>rI0 fun i j=>.int (gT i j)
 |.BitXor=>rI0 fun i j=>.int (jo i j)
 |_=>fun _ _ _ _=>False
noncomputable def gp(K:ae):CmpOp->R2
 |.Eq=>rEqD K
 |.NotEq=>rNeD K
 |.Lt=>rI0 fun i j=>.bl (decide (i<j))
 |.LtE=>rI0 fun i j=>.bl (decide (i<=j))
 |.Gt=>rI0 fun i j=>.bl (decide (j<i))
 |.GtE=>rI0 fun i j=>.bl (decide (j<=i))
 |.Is=>fun x y H Q=>y=.non/\Q (.bl (decide (x=.non))) H
 |.IsNot=>fun x y H Q=>y=.non/\Q (.bl (!decide (x=.non))) H
 |.In=>fun x y H Q=>((∃i j,x=.str i/\y=.str j/\Q (.bl (!(gh j i 0 j.length 1).isEmpty)) H))\/rIn K false x y H Q
 |.NotIn=>fun x y H Q=>((∃i j,x=.str i/\y=.str j/\Q (.bl (!(!(gh j i 0 j.length 1).isEmpty))) H))\/rIn K true x y H Q
noncomputable def rUn(K:ae):BF->V->Hp->VK->Prop
 |.USub=>rU fun i=>.int (-i)
 |_=>fun _ _ _=>False
noncomputable def rSlc(K:ae):V->Option Int->Option Int->Hp->VK->Prop:=fun x lo hi H Q=>rSlL K x lo hi H Q\/rSlS x lo hi H Q
noncomputable def rBf(K:ae):Bf->List V->Hp->VK->Prop
 |.len=>fun xs H Q=>(∃p ys,xs=[.ref p]/\(SqL K H p ys\/SqT K H p ys)/\Q (.int ys.length) H)\/(∃z:Str,xs=[.str z]/\z.length<=sizeLine/\Q (.int z.length) H)\/(∃a n,xs=[V.ref a]/\H a=some (_root_.Q.zL a n)/\Q (.int n) H)
 |.isinstance=>fun xs H Q=>(∃x T t b,xs=[x,.ty T]/\k9 K H x t/\cA K t (.type T)=some b/\Q (.bl b) H)\/(∃x C t b,xs=[x,.ref C]/\k9 K H x t/\cA K t (.ref C)=some b/\Q (.bl b) H)
 |.all=>fun xs H Q=>∃(p:Addr)(bs:List Bool),xs=[.ref p]/\SqL K H p (bs.map V.bl)/\Q (.bl (bs.all id)) H
 |.any=>fun xs H Q=>∃(p:Addr)(bs:List Bool),xs=[.ref p]/\SqL K H p (bs.map V.bl)/\Q (.bl (bs.any id)) H
 |.list=>fun xs H Q=>∃p ys,xs=[.ref p]/\(SqL K H p ys\/SqT K H p ys)/\∀l,H l=none->Q (.ref l) (upd H l (.lst ys))
 |.tuple=>fun xs H Q=>∃p ys,xs=[.ref p]/\((SqL K H p ys/\∀l,H l=none->Q (.ref l) (upd H l (.tup ys)))\/(SqT K H p ys/\Q (.ref p) H))
 |.set=>Q.rSet K
 |.min=>fun xs H Q=>∃i j,xs=[.int i,.int j]/\Q (.int (if j<i then j else i)) H
 |.int=>fun xs H Q=>(∃i,xs=[.int i]/\Q (.int i) H)\/∃k,xs=[.bl k]/\Q (.int (if k then 1 else 0)) H
 |.lend=>fun xs H Q=>∃a kvs,xs=[V.ref a]/\H a=some (.dT kvs)/\Q (.int kvs.length) H
 |.sortl=>Q.EJ K
 |.sortt=>Q.EI K
 |.minl=>Q.rMinL K
 |.maxl=>Q.rMaxL K
 |.isx=>fun xs H Q=>∃a C d y cv b,xs=[.ref a,y]/\H a=some (qb a (.ref C) d)/\(∀dd,d=some dd->∃fs,H dd=some (xdO dd fs))/\lO K C=true/\((∃T,y=.ty T/\cv=fN T)\/(∃D,y=.ref D/\cv=aX D))/\cA K (.ref C) cv=some b/\Q (.bl b) H
inductive Mm where
 |append|clear|reverse|pop|index
 deriving DecidableEq
noncomputable def Mm.name:Mm->Str
 |.append=>"append" |.clear=>"clear" |.reverse=>"reverse" |.pop=>"pop" |.index=>"index"
noncomputable def Mm.id:Mm->String
 |.append=>"list.append" |.clear=>"list.clear" |.reverse=>"list.reverse" |.pop=>"list.pop" |.index=>"list.index"
noncomputable def rMm:Mm->V->List V->Hp->VK->Prop
 |.append=>AZ
 |.clear=>fun _ _ _ _=>False
 |.reverse=>fun _ _ _ _=>False
 |.pop=>fun _ _ _ _=>False
 |.index=>fun _ _ _ _=>False
noncomputable def baseOk:Expr->Bool
 |.Name .. =>true|.Subscript .. =>true
 |_=>false
mutual
inductive CE where
 |var (i:Nat)
 |con (c:Const)
 |glo (x:Str)
 |ty (t:Ty)
 |bin (op:Operator) (a b:CE)
 |un (op:BF) (a:CE)
 |cmp (op:CmpOp) (a b:CE)
 |chain (op op':CmpOp) (a b c:CE)
 |not (a:CE)
 |and (a b:CE)
 |or (a b:CE)
 |ite (c a b:CE)
 |idx (a i:CE)
 |cut (a:CE) (lo hi:CO)
 |tup (es:CL)
 |lst (es:CL)
 |dic (ps:CP)
 |call (f:Str) (es:CL)
 |bfn (b:Bf) (es:CL)
 |meth1 (m:Mm) (o a:CE)
 |idxd (a i:CE)
 |dicT
 |setd (o a b:CE)
 |base (x:Str) (es:CL)
 |fld (a:CE) (f:Str)
 |sortset (a:CE)
 |mak (x:Str)
 |mth (o:CE) (m:Str) (es:CL)
 |fldI (a:CE) (f:Str)
 |comp (own:List Str) (fr:List Nat) (tg:CG) (it:CI) (cond:CO) (elt:CE)
inductive CL where
 |nil
 |cons (e:CE) (es:CL)
inductive CP where
 |nil
 |cons (k v:CE) (r:CP)
inductive CO where
 |no
 |yes (e:CE)
inductive CG where
 |name (i:Nat)
 |tup (gs:CGs)
 |sub (o i:CE)
inductive CGs where
 |nil
 |cons (g:CG) (gs:CGs)
inductive CI where
 |seq (e:CE)
 |lseq (e:CE)
 |tseq (e:CE)
 |range1 (e:CE)
 |range2 (a b:CE)
 |enumt (e:CE)
end
noncomputable def CL.len:CL->Nat
 |.nil=>0
 |.cons _ r=>r.len+1
noncomputable def CGs.len:CGs->Nat
 |.nil=>0
 |.cons _ r=>r.len+1
mutual
inductive CS where
 |asg (g:CG) (e:CE)
 |asgc (i:Nat) (e:CE)
 |expr (e:CE)
 |iff (c:CE) (a b:CB)
 |forr (g:CG) (it:CI) (b:CB)
 |ret (e:CE)
 |retN
 |pass|brk|cont
 |rais (x:Str) (es:CL)
 |raisX (x:Str) (es:CL)
 |fldX (o:CE) (f:Str) (e:CE)
 |fldI (o:CE) (f:Str) (e:CE)
 |tryc (x:Str) (i:Nat) (b su:CB)
inductive CB where
 |nil
 |hole
 |cons (s:CS) (r:CB)
end
noncomputable def rX(sc:Scope)(x:Str):Bool:=sc.names.lookup x==some .local||sc.names.lookup x==some .cell||sc.names.lookup x==some .free
noncomputable def j7(sc:Scope)(x:Str):Bool:=sc.names.lookup x==some .globalImplicit
noncomputable def kO(x:Str):Bool:=(x==("__debug__":Str))==false&&(x==("__classdict__":Str))==false
noncomputable def Fl:Const->Bool
 |.none=>true|.bool _=>true|.int _=>true|.str _=>true|_=>false
noncomputable def cv:Const->V
 |.none=>.non|.bool b=>.bl b|.int i=>.int i|.str x=>.str x|_=>.non
noncomputable def namesOf(N own:List Str)(fr:List Nat):List Str:=own++fr.map fun j=>N.getD j ""
noncomputable def md(own:List Str)(fr:List Nat)(σ:L2.St):L2.St:=own.map (fun _=>none)++fr.map fun j=>(σ[j]?).getD none
noncomputable def mn:Expr->Bool
 |.Slice .. =>true
 |_=>false
noncomputable def isSet:Expr->Bool
 |.Set .. =>true
 |_=>false
noncomputable def m9:Expr->Bool
 |.ListComp .. =>true|.SetComp .. =>true|.DictComp .. =>true
 |_=>false
noncomputable def m7:Expr->Bool
 |.Tuple .. =>true
 |_=>false
noncomputable def vR(sc sc':Scope)(N own:List Str)(fr:List Nat):Bool:=
 decide (sc'.kind=.function)&&sc'.names.all (fun y=>decide (y.2=.cell->sc'.names.lookup y.1=some .cell))&&sc'.names.all (fun y=>decide (y.2=.local->sc'.names.lookup y.1=some .local))&&
 sc'.names.all (fun y=>decide (y.2=.free->sc.names.lookup y.1=some .cell\/sc.names.lookup y.1=some .free))&&decide ((namesOf N own fr).Nodup)&&
 fr.all (fun j=>decide (j<N.length)&&sc'.names.lookup (N.getD j "")==some .free)&&own.all (fun x=>sc'.names.lookup x==some .local||sc'.names.lookup x==some .cell)
noncomputable def isStr(x:Str):Expr->Bool
 |.Constant (.str y) _ _=>decide (y=x)
 |_=>false
noncomputable def isRep(sc:Scope)(N:List Str)(i:Nat)(c d:Str):Expr->Bool
 |.Call (.Attribute (.Name x _) nm ap) [.Constant (.str c') _ _,.Constant (.str d') _ _] [] cp=>decide (nm=ao "replace")&&(ap.endLine==cp.line)&&N[i]? ==some x&&rX sc x&&kO x&&decide (c=c')&&decide (d=d')&& !(c==d)&&decide (d.length<=14)
 |_=>false
mutual
noncomputable def ba(sc:Scope)(N:List Str):CE->Expr->Bool
 |.var i,e=>match e with
  |.Name x _=>N[i]? ==some x&&rX sc x&&kO x
  |_=>false
 |.con c,e=>match e with
  |.Constant c' _ _=>Fl c&&decide (c=c')
  |_=>false
 |.glo x,e=>match e with
  |.Name y _=>decide (x=y)&&j7 sc x&&kO x
  |_=>false
 |.ty t,e=>match e with
  |.Name y _=>decide (t.name=y)&&j7 sc y
  |_=>false
 |.bin op a b,e=>match e with
  |.BinOp a' op' b' _=>decide (op=op')&&ba sc N a a'&&ba sc N b b'
  |_=>false
 |.un op a,e=>match e with
  |.UnaryOp op' a' _=>decide (op=op')&&ba sc N a a'
  |_=>false
 |.cmp op a b,e=>match e with
  |.Compare a' [op'] [b'] _=>decide (op=op')&& !isSet b'&&ba sc N a a'&&ba sc N b b'
  |_=>false
 |.chain o1 o2 a b c,e=>match e with
  |.Compare a' [o1',o2'] [b',c'] _=>decide (o1=o1')&&decide (o2=o2')&& !isSet c'&&ba sc N a a'&&ba sc N b b'&&ba sc N c c'
  |_=>false
 |.not a,e=>match e with
  |.UnaryOp .Not a' _=>ba sc N a a'
  |_=>false
 |.and a b,e=>match e with
  |.BoolOp .And [a',b'] _=>ba sc N a a'&&ba sc N b b'
  |.BoolOp .And (a'::b'::c'::r') p=>ba sc N a a'&&ba sc N b (.BoolOp .And (b'::c'::r') p)
  |_=>false
 |.or a b,e=>match e with
  |.BoolOp .Or [a',b'] _=>ba sc N a a'&&ba sc N b b'
  |.BoolOp .Or (a'::b'::c'::r') p=>ba sc N a a'&&ba sc N b (.BoolOp .Or (b'::c'::r') p)
  |_=>false
 |.ite c a b,e=>match e with
  |.IfExp c' a' b' _=>ba sc N c c'&&ba sc N a a'&&ba sc N b b'
  |_=>false
 |.idx a i,e=>match e with
  |.Subscript a' i' _=> !mn i'&&ba sc N a a'&&ba sc N i i'
  |_=>false
 |.cut a lo hi,e=>match e with
  |.Subscript a' (.Slice lo' hi' none _) _=>ba sc N a a'&&GD sc N lo lo'&&GD sc N hi hi'
  |_=>false
 |.tup es,e=>match e with
  |.Tuple es' _ _=>jJ sc N es es'
  |_=>false
 |.lst es,e=>match e with
  |.List es' _=>jJ sc N es es'
  |_=>false
 |.dic ps,e=>match e with
  |.Dict ks' vs' _=>yD sc N ps ks' vs'&&decide (ks'.length<=15)
  |_=>false
 |.call f es,e=>match e with
  |.Call (.Name f' _) es' [] _=>decide (f=f')&&j7 sc f&&kO f&&jJ sc N es es'
  |_=>false
 |.bfn b es,e=>match e with
  |.Call (.Name f' _) (e1::es') [] _=>decide (b.name=f')&&j7 sc f'&&jJ sc N es (e1::es')
  |_=>false
 |.meth1 m o a,e=>match e with
  |.Call (.Attribute o' nm ap) [a'] [] cp=>decide (m.name=nm)&&(ap.endLine==cp.line)&&baseOk o'&&ba sc N o o'&&ba sc N a a'
  |_=>false
 |.idxd a i,e=>match e with
  |.Subscript a' i' _=> !mn i'&&ba sc N a a'&&ba sc N i i'
  |_=>false
 |.dicT,e=>match e with
  |.Dict [] [] _=>true
  |_=>false
 |.setd o a b,e=>match e with
  |.Call (.Attribute o' nm ap) [a',b'] [] cp=>decide (nm=ao "setdefault")&&(ap.endLine==cp.line)&&baseOk o'&&ba sc N o o'&&ba sc N a a'&&ba sc N b b'
  |_=>false
 |.base x es,e=>match e with
  |.Call (.Attribute (.Name x' _) nm ap) (e'::es') [] cp=>decide (nm=ao "__init__")&&(ap.endLine==cp.line)&&decide (x=x')&&j7 sc x&&kO x&&decide (es.len<29)&&jJ sc N es (e'::es')
  |_=>false
 |.fld a f,e=>match e with
  |.Attribute (.Name n np) f' _=>decide (f=f')&&ba sc N a (.Name n np)
  |_=>false
 |.mak x,e=>match e with
  |.Call (.Name x' _) [] [] _=>decide (x=x')&&j7 sc x&&kO x
  |_=>false
 |.mth a m es,e=>match e with
  |.Call (.Attribute (.Name n np) m' ap) es' [] cp=>decide (m=m')&&(ap.endLine==cp.line)&&decide (es.len<29)&&ba sc N a (.Name n np)&&jJ sc N es es'
  |_=>false
 |.fldI a f,e=>match e with
  |.Attribute (.Name n np) f' _=>decide (f=f')&&ba sc N a (.Name n np)
  |_=>false
 |.sortset a,e=>match e with
  |.Call (.Name f _) [.Call (.Name g _) [a'] [] _] [] _=>decide (f="sorted")&&decide (g="set")&&j7 sc f&&j7 sc g&&ba sc N a a'
  |_=>false
 |.comp own fr tg it cond elt,e=>match e with
  |.ListComp elt' [⟨tg',it',ifs',0⟩] sc' _=>vR sc sc' N own fr&& !isSet it'&&wq sc N it it' tg'&&
   lS sc' (namesOf N own fr) false tg tg'&&chkC sc' (namesOf N own fr) cond ifs'&&ba sc' (namesOf N own fr) elt elt'
  |_=>false
noncomputable def jJ(sc:Scope)(N:List Str):CL->List Expr->Bool
 |.nil,es=>match es with
  | []=>true
  |_=>false
 |.cons e r,es=>match es with
  |e'::r'=>ba sc N e e'&&jJ sc N r r'
  |_=>false
noncomputable def yD(sc:Scope)(N:List Str):CP->List (Option Expr)->List Expr->Bool
 |.nil,ks,vs=>match ks,vs with
  | [],[]=>true
  |_,_=>false
 |.cons k v r,ks,vs=>match ks,vs with
  |some k'::ks',v'::vs'=>ba sc N k k'&&ba sc N v v'&&yD sc N r ks' vs'
  |_,_=>false
noncomputable def GD(sc:Scope)(N:List Str):CO->Option Expr->Bool
 |.no,o=>match o with
  |none=>true
  |_=>false
 |.yes e,o=>match o with
  |some e'=>ba sc N e e'
  |_=>false
noncomputable def chkC(sc:Scope)(N:List Str):CO->List Expr->Bool
 |.no,o=>match o with
  | []=>true
  |_=>false
 |.yes e,o=>match o with
  | [e']=>ba sc N e e'
  |_=>false
noncomputable def lS(sc:Scope)(N:List Str)(all:Bool):CG->Expr->Bool
 |.name i,e=>match e with
  |.Name x _=>N[i]? ==some x&&(sc.names.lookup x==some .local||sc.names.lookup x==some .cell)
  |_=>false
 |.tup gs,e=>match e with
  |.Tuple es' _ _=>mO sc N all gs es'
  |_=>false
 |.sub o i,e=>match e with
  |.Subscript o' i' _=> !mn i'&&ba sc N o o'&&ba sc N i i'
  |_=>false
noncomputable def mO(sc:Scope)(N:List Str)(all:Bool):CGs->List Expr->Bool
 |.nil,es=>match es with
  | []=>true
  |_=>false
 |.cons g gs,es=>match es with
  |e'::es'=>lS sc N all g e'&&mO sc N all gs es'
  |_=>false
noncomputable def wq(sc:Scope)(N:List Str):CI->Expr->Expr->Bool
 |.seq e,e',_=>ba sc N e e'
 |.lseq e,e',_=>ba sc N e e'
 |.tseq e,e',_=>ba sc N e e'
 |.range1 e,x,_=>match x with
  |.Call (.Name f' _) [e'] [] _=>decide (f'="range")&&j7 sc f'&&ba sc N e e'
  |_=>false
 |.range2 a b,x,_=>match x with
  |.Call (.Name f' _) [a',b'] [] _=>decide (f'="range")&&j7 sc f'&&ba sc N a a'&&ba sc N b b'
  |_=>false
 |.enumt e,x,tg'=>match x with
  |.Call (.Name f' _) [e'] [] _=>decide (f'="enumerate")&&j7 sc f'&&ba sc N e e'&&m7 tg'
  |_=>false
end
mutual
noncomputable def i3:CE->Bool
 |.var _=>true
 |.con _=>true
 |.glo _=>true
 |.ty _=>true
 |.lst es=>p6 es
 |.tup es=>p6 es
 |.bfn .isinstance es=>p6 es
 |.bfn .isx es=>p6 es
 |.fld a _=>i3 a
 |.bin _ a b=>i3 a&&i3 b
 |.meth1 _ a b=>i3 a&&i3 b
 |_=>false
noncomputable def p6:CL->Bool
 |.nil=>true
 |.cons e es=>i3 e&&p6 es
end
noncomputable def FI:CE->Bool
 |.bfn .isx es=>p6 es
 |_=>false
mutual
noncomputable def FK:CS->Bool
 |.asg (.name _) e=>i3 e
 |.ret e=>i3 e
 |.pass=>true
 |.expr e=>i3 e
 |.iff c a b=>FI c&&(p7 a&&p7 b)
 |_=>false
noncomputable def p7:CB->Bool
 |.nil=>true
 |.hole=>false
 |.cons s r=>FK s&&p7 r
end
mutual
noncomputable def iK(sc:Scope)(N:List Str):CS->Stmt->Bool
 |.asg g e,s=>match s with
  |.Assign [g'] e' _=>lS sc N true g g'&&ba sc N e e'&& !m9 e'&& !(m7 g'&&m7 e')
  |_=>false
 |.asgc i e,s=>match s with
  |.Assign [.Name x p] (.ListComp a b c d) sp=>N[i]? ==some x&&(sc.names.lookup x==some .local||sc.names.lookup x==some .cell)&&ba sc N e (.ListComp a b c d)&&
   (sc.names.lookup x==some .cell||(decide (p.line=d.line)&& !(c.names.any fun y=>decide (y.1=x)&&(decide (y.2=.local)||decide (y.2=.cell)))))
  |_=>false
 |.expr e,s=>match s with
  |.Expr e' _=>ba sc N e e'&& !m9 e'
  |_=>false
 |.iff c a b,s=>match s with
  |.If c' a' b' _=>ba sc N c c'&&jK sc N a a'&&jK sc N b b'
  |_=>false
 |.forr g it b,s=>match s with
  |.For g' it' b' [] _=>lS sc N true g g'&&wq sc N it it' g'&& !isSet it'&&jK sc N b b'
  |_=>false
 |.ret e,s=>match s with
  |.Return (some e') _=>ba sc N e e'
  |_=>false
 |.retN,s=>match s with
  |.Return none _=>true
  |_=>false
 |.rais x es,s=>match s with
  |.Raise (some (.Call (.Name x' _) (e'::es') [] _)) none _=>decide (x=x')&&j7 sc x&&kO x&&jJ sc N es (e'::es')
  |_=>false
 |.raisX x es,s=>match s with
  |.Raise (some (.Call (.Name x' _) (e'::es') [] _)) none _=>decide (x=x')&&j7 sc x&&kO x&&jJ sc N es (e'::es')
  |_=>false
 |.fldX o f e,s=>match s with
  |.Assign [.Attribute o' f' _] e' _=>decide (f=f')&&ba sc N o o'&&ba sc N e e'&& !m9 e'
  |_=>false
 |.fldI o f e,s=>match s with
  |.Assign [.Attribute o' f' _] e' _=>decide (f=f')&&ba sc N o o'&&ba sc N e e'&& !m9 e'
  |_=>false
 |.tryc x i b su,s=>match s with
  |.Try b' [.ExceptHandler (some (.Name x' _)) (some n) (s0::ss) _] [] [] _=>decide (x=x')&&j7 sc x&&kO x&&N[i]? ==some n&&sc.names.lookup n==some .local&&p7 su&&jK sc N su (s0::ss)&&jK sc N b b'
  |_=>false
 |.pass,s=>match s with
  |.Pass _=>true
  |_=>false
 |.brk,s=>match s with
  |.Break _=>true
  |_=>false
 |.cont,s=>match s with
  |.Continue _=>true
  |_=>false
noncomputable def jK(sc:Scope)(N:List Str):CB->List Stmt->Bool
 |.hole,_=>true
 |.nil,ss=>match ss with
  | []=>true
  |_=>false
 |.cons s r,ss=>match ss with
  |s'::r'=>iK sc N s s'&&jK sc N r r'
  |_=>false
end
structure Gam where
 val:Str->Option V
 fn:Str->Nat->Option (Sp×List V)
 ini:Str->Nat->Option (Addr×Sp×List V)
 dic:Addr->Option (List (Key×V))
 mak:Str->Nat->Option (Addr×Sp×List V)
 mth:Str->Nat->Option (Addr×Sp×List V)
noncomputable def CY(K:ae)(tl:TE):TI:=fun σ H R=>tl σ H fun x H1=>(∃a,x=.ref a/\(∃xs,SqL K H1 a xs)/\R (Itl K a) H1)\/(∃a,x=.ref a/\(∃xs,SqT K H1 a xs)/\R (Itt K a) H1)\/(∃z,x=.str z/\R (Its z) H1)
noncomputable def xA(K:ae)(t:TE):TT:=fun σ H Q=>t σ H fun x H1=>∃k,TruV K x H1 k/\Q k H1
mutual
noncomputable def wpE(G:Gam)(K:ae)(E:XS):CE->TE
 |.var i=>iF i
 |.con c=>tC (cv c)
 |.glo x=>fun σ H Q=>∃v,G.val x=some v/\Q v H
 |.ty t=>tC (.ty t.t)
 |.bin op a b=>tOp (kZ K op) (wpE G K E a) (wpE G K E b)
 |.un op a=>tUn (rUn K op) (wpE G K E a)
 |.cmp op a b=>tOp (gp K op) (wpE G K E a) (wpE G K E b)
 |.chain o1 o2 a b c=>qW (gp K o1) (gp K o2) (wpE G K E a) (wpE G K E b) (wpE G K E c)
 |.not a=>D7 (wpE G K E a)
 |.and a b=>Ed (wpE G K E a) (wpE G K E b)
 |.or a b=>tOrV (wpE G K E a) (wpE G K E b)
 |.ite c a b=>tIf (wpT G K E c) (wpE G K E a) (wpE G K E b)
 |.idx a i=>tOp (rIx K) (wpE G K E a) (wpE G K E i)
 |.cut a lo hi=>tSl (rSlc K) (wpE G K E a) (wpO G K E lo) (wpO G K E hi)
 |.tup es=>tTup (wpL G K E es)
 |.lst es=>tLst (wpL G K E es)
 |.dic ps=>fun σ H Q=>(ps=.nil/\Eb σ H Q)\/(ps≠.nil/\tDisp (wpP G K E ps) σ H Q)
 |.call f es=>fun σ H Q=>∃sp dvs,G.fn f es.len=some (sp,dvs)/\xE sp dvs (E σ) (wpL G K E es) σ H Q
 |.bfn b es=>tCB (rBf K b) (wpL G K E es)
 |.meth1 m o a=>tBM K "list" (rMm m) (wpE G K E o) (iB (wpE G K E a) iG)
 |.idxd a i=>tOp (rIxD K) (wpE G K E a) (wpE G K E i)
 |.dicT=>Ea
 |.setd o a b=>tBM K "dict" AV (wpE G K E o) (iB (wpE G K E a) (iB (wpE G K E b) iG))
 |.base x es=>fun σ H Q=>∃B,G.val x=some (.ref B)/\tBase K B (wpL G K E es) σ H Q
 |.fld a f=>fun σ H Q=>wpE G K E a σ H fun x H1=>rFld K f x H1 Q
 |.sortset a=>xC K (iB (wpE G K E a) iG)
 |.mak x=>fun σ H Q=>∃C sp dvs,G.mak x 0=some (C,sp,dvs)/\zA C sp dvs E iG σ H Q
 |.mth a m es=>fun σ H Q=>∃C sp dvs,G.mth m es.len=some (C,sp,dvs)/\gK C m sp dvs E (wpE G K E a) (wpL G K E es) σ H Q
 |.fldI a f=>BY K (wpE G K E a) f
 |.comp own fr tg it cond elt=>tQ (wpI G K E it) (wpG G K N0 tg) (wpC G K N0 cond) (wpE G K N0 elt) (md own fr)
noncomputable def wpT(G:Gam)(K:ae)(E:XS):CE->TT
 |.cmp op a b=>xB (tOp (gp K op) (wpE G K E a) (wpE G K E b))
 |.chain o1 o2 a b c=>xB (qW (gp K o1) (gp K o2) (wpE G K E a) (wpE G K E b) (wpE G K E c))
 |.not a=>tNot (wpT G K E a)
 |.and a b=>tAnd (wpT G K E a) (wpT G K E b)
 |.or a b=>tOr (wpT G K E a) (wpT G K E b)
 |.ite _ _ _=>fun _ _ _=>False
 |.var i=>xA K (iF i)
 |.con c=>xA K (tC (cv c))
 |.glo x=>xA K (fun σ H Q=>∃v,G.val x=some v/\Q v H)
 |.idx a i=>xA K (tOp (rIx K) (wpE G K E a) (wpE G K E i))
 |.call f es=>xA K (fun σ H Q=>∃sp dvs,G.fn f es.len=some (sp,dvs)/\xE sp dvs (E σ) (wpL G K E es) σ H Q)
 |.bfn b es=>xA K (tCB (rBf K b) (wpL G K E es))
 |_=>fun _ _ _=>False
noncomputable def wpL(G:Gam)(K:ae)(E:XS):CL->TA
 |.nil=>iG
 |.cons e es=>iB (wpE G K E e) (wpL G K E es)
noncomputable def wpP(G:Gam)(K:ae)(E:XS):CP->List (TE×TE)
 |.nil=>[]
 |.cons k v r=>(wpE G K E k,wpE G K E v)::wpP G K E r
noncomputable def wpO(G:Gam)(K:ae)(E:XS):CO->TO
 |.no=>ve
 |.yes e=>D6 (wpE G K E e)
noncomputable def wpC(G:Gam)(K:ae)(E:XS):CO->TT
 |.no=>tYes
 |.yes e=>wpT G K E e
noncomputable def wpG(G:Gam)(K:ae)(E:XS):CG->TG
 |.name i=>lL i
 |.tup gs=>gTup K gs.len (wpGs G K E gs)
 |.sub o i=>gSub (wpE G K E o) (wpE G K E i) rSetL
noncomputable def wpGs(G:Gam)(K:ae)(E:XS):CGs->TGs
 |.nil=>gNil
 |.cons g gs=>Gf (wpG G K E g) (wpGs G K E gs)
noncomputable def wpI(G:Gam)(K:ae)(E:XS):CI->TI
 |.seq e=>CY K (wpE G K E e)
 |.lseq e=>F9 K (wpE G K E e)
 |.tseq e=>iTup K (wpE G K E e)
 |.range1 e=>F8 (iB (wpE G K E e) iG)
 |.range2 a b=>F7 (iB (wpE G K E a) (iB (wpE G K E b) iG))
 |.enumt e=>Ga K (iB (wpE G K E e) iG)
end
mutual
noncomputable def wpS(G:Gam)(K:ae)(E:XS):CS->TS
 |.asg g e=>vg (wpE G K E e) (wpG G K E g)
 |.asgc i e=>vg (wpE G K E e) (lL i)
 |.expr e=>D9 (wpE G K E e)
 |.iff c a b=>tIfS (wpT G K E c) (wpB G K E a) (wpB G K E b)
 |.forr g it b=>tFor (wpI G K E it) (wpG G K E g) (wpB G K E b)
 |.ret e=>tRet (wpE G K E e)
 |.retN=>D5
 |.rais x es=>fun D σ H=>∃C,G.val x=some (.ref C)/\bA K (.ref C)=true/\PySem.W.excIn K C bmV "ValueError.__new__"=true/\wpL G K E es σ H fun vs H1=>vs.length<=sizeLine/\E σ (.ref C) none H1
 |.raisX x es=>fun D σ H=>∃C sp dvs,G.ini x es.len=some (C,sp,dvs)/\Ew C sp dvs E (wpL G K E es) D σ H
 |.fldX o f e=>sFldX K (wpE G K E o) (wpE G K E e) f
 |.fldI o f e=>EA K (wpE G K E o) (wpE G K E e) f
 |.tryc x i b su=>fun D σ H=>∃C,G.val x=some (.ref C)/\wpB G K (pE K C i (wpB G K N0 su) D) b D σ H
 |.pass=>xD
 |.brk=>Ec
 |.cont=>tCont
noncomputable def wpB(G:Gam)(K:ae)(E:XS):CB->TS
 |.nil=>xD
 |.hole=>fun _ _ _=>False
 |.cons s r=>td (wpS G K E s) (wpB G K E r)
end
noncomputable abbrev Sat(G:Gam)(K:ae)(sp:Sp)(c:CB)(N:List Str):Prop:=∀vs H Q E,sp vs H Q E->wpB G K (fun _=>E) c {nx:=fun _ H'=>Q .non H',rt:=Q} (L2.start N vs) H
noncomputable def hZ:List Str:=["len","isinstance","all","any","list","tuple","int","bool","str","dict","range","enumerate","sorted","set","min","max","ValueError","sum","zip"]
structure Ok(CX:CXT)(G:Gam)(E:XS)(sc:Scope)(N:List Str)(all:Bool)(X:Cx):Prop where
 names:X.N=N
 top:all=true->X.stack=X.env::X.outer/\X.env.frame=some X.env.locals/\X.ex=[]
 nd:N.Nodup
 loc:∀x,sc.names.lookup x=some .local->X.env.scope.names.lookup x=some .local
 cel:∀x,sc.names.lookup x=some .cell->X.env.scope.names.lookup x=some .cell
 fre:∀x,sc.names.lookup x=some .free->X.env.scope.names.lookup x=some .cell\/X.env.scope.names.lookup x=some .free
 glo:∀x,sc.names.lookup x=some .globalImplicit->X.env.scope.names.lookup x=some .globalImplicit
 all:all=true->∀x,X.fn x=true
 own:∀x,sc.names.lookup x=some .cell->X.fn x=true
 calm:X.calm=true
 hu:X.A.units+50<cLine
 val:∀x v,G.val x=some v->∃u,X.mg x=some u/\RelV v u
 fn:∀x n sp dvs,G.fn x n=some (sp,dvs)->∃f fd ps ds k,fX X.prog X.w X.K X.mg X.base CX k f fd ps sp/\gC k X.A/\X.mg x=some (.ref f)/\bA X.K (.ref f)=true/\Binds X.K fd ps ds/\bM dvs ds
 ini:∀x n C sp dvs,G.ini x n=some (C,sp,dvs)->∃f fd ps ds k,MkX X.K C f/\fX X.prog X.w X.K X.mg X.base CX k f fd ps sp/\gC (k+1) X.A/\X.mg x=some (.ref C)/\Binds X.K fd ps ds/\bM dvs ds
 dic:∀a kvs,G.dic a=some kvs->DkIn X.prog X.w X.K a kvs
 mak:∀x n C sp dvs,G.mak x n=some (C,sp,dvs)->∃f fd ps ds k,Mk X.K C f/\fX X.prog X.w X.K X.mg X.base CX k f fd ps sp/\gC (k+1) X.A/\X.mg x=some (.ref C)/\Binds X.K fd ps ds/\bM dvs ds
 mth:∀m n C sp dvs,G.mth m n=some (C,sp,dvs)->∃f fd ps ds k,Cls X.K C/\Dt X.K C m f/\fX X.prog X.w X.K X.mg X.base CX k f fd ps sp/\gC k X.A/\Binds X.K fd ps ds/\bM dvs ds
 blt:∀x∈hZ,X.mg x=none
 px:PassesOwn (model X.prog X.w) X.A X.env X.xe
 pass:mV CX X E
 made:MadeS X E
 madeX:AD X E
 cx:CX=CXx X.prog X.w
theorem Bf.mem:∀b:Bf,b.name∈hZ:=by intro b;cases b<;>decide+kernel
theorem Ty.mem:∀b:Ty,b.name∈hZ:=by intro b;cases b<;>decide+kernel
section
variable {CX:CXT}{G:Gam}{E:XS}{sc:Scope}{N:List Str}{all:Bool}{X:Cx}
theorem Ok.vis(o:Ok CX G E sc N all X){x:Str}(h:rX sc x=true):Vis X.env.scope x:=by
 unfold rX at h;rw[cC,cC,beq_iff_eq,beq_iff_eq,beq_iff_eq]at h;rcases h with(h|h) |h
 ·exact .inl (o.loc x h)
 ·exact .inr (.inl (o.cel x h))
 ·rcases o.fre x h with q|q
  ·exact .inr (.inl q)
  ·exact .inr (.inr q)
theorem Ok.gl(o:Ok CX G E sc N all X){x:Str}(h:j7 sc x=true):Gl X x:=by
 unfold j7 at h;rw[beq_iff_eq]at h;exact o.glo x h
theorem dY{x:Str}(h:kO x=true):(x==("__debug__":Str))=false/\(x==("__classdict__":Str))=false:=by
 unfold kO at h;rw[ag,beq_iff_eq,beq_iff_eq]at h;exact h
theorem AY:∀op,OpR X (dX op) (kZ X.K op)
 |.Add=>op_add.or (z8.or (op_cat.or (op_catT.or op_cat0)))
 |.Sub=>op_sub
 |.Mult=>op_mul.or (op_rep.or op_repS)
 |.Mod=>op_mod
 |.FloorDiv=>op_fdiv
 |.Pow=>op_pow
 |.RShift=>op_shr
 |.MatMult=>fun _ _ _ _ _ _ _ _ _ _ _ _ h=>h.elim
 |.Div=>fun _ _ _ _ _ _ _ _ _ _ _ _ h=>h.elim
 |.LShift=>op_shl
 |.BitOr=>fun _ _ _ _ _ _ _ _ _ _ _ _ h=>h.elim
 |.BitXor=>op_xor
 |.BitAnd=>op_and
theorem me(hu:X.A.units+50<cLine):∀op,OpR X (cV op) (gp X.K op)
 |.Eq=>op_eqD (by omega)
 |.NotEq=>op_neD (by omega)
 |.Lt=>op_lt
 |.LtE=>op_le
 |.Gt=>op_gt
 |.GtE=>op_ge
 |.Is=>op_isN
 |.IsNot=>op_notN
 |.In=>Co.or Cq
 |.NotIn=>vP.or vQ
theorem rUn_ok:∀op,UnR X (unaryOp op) (rUn X.K op)
 |.USub=>un_neg
 |.Not=>fun _ _ _ _ _ _ _ _ _ h=>h.elim
 |.UAdd=>fun _ _ _ _ _ _ _ _ _ h=>h.elim
 |.Invert=>fun _ _ _ _ _ _ _ _ _ h=>h.elim
theorem rSlc_ok:SlR X (rSlc X.K):=sl_list.or sl_str
theorem EM(hc:X.calm=true)(hu:X.A.units+50<cLine):∀b,eL X (Bf.val b) (rBf X.K b)
 |.len=>wz.or (wy.or Q.tI)
 |.isinstance=>qe.or oB
 |.all=>GK hc
 |.any=>GJ hc
 |.list=>wx
 |.tuple=>tH
 |.set=>Q.Dd hc
 |.min=>pG hc
 |.int=>Dh
 |.lend=>yI
 |.sortl=>Q.wu
 |.sortt=>Q.wt (by omega)
 |.minl=>Q.De hc (by omega)
 |.maxl=>Q.Df hc (by omega)
 |.isx=>oA
theorem Mm.slot:∀m:Mm,Slot "list" m.name m.id
 |.append=>PySem.F.slot_list_append|.clear=>PySem.F.slot_list_clear|.reverse=>PySem.F.slot_list_reverse|.pop=>PySem.F.slot_list_pop|.index=>PySem.F.slot_list_index
theorem Mm.ty:∀m:Mm,typeOf (.builtin m.id)=pure (.type "method_descriptor")
 |.append=>PySem.F.type_list_append|.clear=>PySem.F.type_list_clear|.reverse=>PySem.F.type_list_reverse|.pop=>PySem.F.type_list_pop|.index=>PySem.F.type_list_index
theorem EL:∀m:Mm,MtR X m.id (rMm m)
 |.append=>Cw|.clear=>fun _ _ _ _ _ _ _ _ _ _ _ _ h=>h.elim|.reverse=>fun _ _ _ _ _ _ _ _ _ _ _ _ h=>h.elim|.pop=>fun _ _ _ _ _ _ _ _ _ _ _ _ h=>h.elim|.index=>fun _ _ _ _ _ _ _ _ _ _ _ _ h=>h.elim
theorem wK{o:Expr}(h:baseOk o=true)(nm:Str)(env:Env)(t:Sem Value):gY o nm env t=t:=by
 cases o<;>first
  |rfl
  | (exact absurd h (by simp[baseOk]))
theorem bH{c:CE}{e:Expr}(h:ba sc N c e=true)(es:List Expr)(env:Env):aM (e::es) env=(false,eval e env)::aM es env:=by
 cases e<;>first
  |rfl
  | (cases c<;>exact absurd h (by simp[ba]))
theorem dk{c:CE}{r:CL}{es:List Expr}(h:jJ sc N (.cons c r) es=true):∃e' r',es=e'::r'/\ba sc N c e'=true/\jJ sc N r r'=true:=by
 cases es with
 |nil=>exact absurd h (by simp[jJ])
 |cons e' r'=>
  have h':(ba sc N c e'&&jJ sc N r r')=true:=h;rw[ag]at h';exact⟨e',r',rfl,h'⟩
theorem dZ{es:List Expr}(h:jJ sc N .nil es=true):es=[]:=by
 cases es with
 |nil=>rfl
 |cons e' r'=>exact absurd h (by simp[jJ])
theorem dG:∀{l:CL}{es:List Expr},jJ sc N l es=true->∀(env:Env)(pos:Pos),(backTo pos (aM es env)).any (·.1)=false
 |.nil,es,h,env,pos=>by rw[dZ h];rfl
 |.cons c r,es,h,env,pos=>by
  obtain⟨e',r',rfl,h1,h2⟩:=dk h;rw[bH h1];show(false||(backTo pos (aM r' env)).any (·.1))=false;rw[dG h2];rfl
theorem yE:∀{l:CL}{es:List Expr},jJ sc N l es=true->es.length=l.len
 |.nil,es,h=>by rw[dZ h];rfl
 |.cons c r,es,h=>by
  obtain⟨e',r',rfl,h1,h2⟩:=dk h;rw[bo,yE h2,CL.len]
theorem vT{e:Expr}(h:isSet e=false)(env:Env):∀x,iQ e env x=pure x:=by
 intro x;cases e<;>first
  |rfl
  | (exact absurd h (by simp[isSet]))
theorem mi{e:Expr}(h:isSet e=false)(op:CmpOp):G1 op e=false:=by
 cases e<;>first
  |rfl
  | (exact absurd h (by simp[isSet]))
theorem rE{e:Expr}(h:mn e=false):BA e:=by
 intro o i;cases e<;>first
  |rfl
  | (exact absurd h (by simp[mn]))
theorem mj{e:Expr}(h:m9 e=false)(t:Option Expr)(l:Nat)(env:Env):kT e t l env=pure false:=by
 cases e<;>first
  |rfl
  | (exact absurd h (by simp[m9]))
theorem vG{e:Expr}{t:TE}(h:PE X e t)(he:∀whole,isTrue e X.env whole=(do let v<-whole;wU e.pos;holding [v] (truthy v))):PT X e (xA X.K t):=nW h he
theorem pi_any{tg l:Expr}{tl:TE}(hl:PE X l tl):PI X tg l (CY X.K tl):=by
 intro pins s σ H R I h;refine thn (hl pins s σ H _ I h) fun v s1 ⟨x,H1,I1,r1,q1⟩=>?_;have key:∀{tl':TE}{wi:TI},True:=fun{_ _}=>trivial;rcases q1 with q1|q1|q1
 ·obtain⟨a,e,⟨xs,hq⟩,q⟩:=q1
  subst e;cases r1;obtain⟨its,rv,p,hz⟩:=I1.list hq;refine iM p.isList ?_;refine⟨s1.heap.objs.size,[s1.heap.objs.size],_,_,H1,rfl,I1.kept (t':=s1.toks) fun b o e=>af _ e,tN a _,⟨_,au _ rfl,rfl,rfl⟩,fun b hb=>?_,q⟩;have e:b=s1.heap.objs.size:=by simpa using hb
  subst e;exact I1.wk (aw _) (I1.hok.fresh (aw _))
 ·obtain⟨a,e,⟨xs,hq⟩,q⟩:=q1
  subst e;cases r1;obtain⟨its,rv,p,hz⟩:=I1.tuple hq;refine fG (show s1.heap.IsTuple a its.toArray from p) ?_;refine⟨s1.heap.objs.size,[s1.heap.objs.size],_,_,H1,rfl,I1.kept (t':=s1.toks) fun b o e=>af _ e,qT a _,⟨_,au _ rfl,rfl,rfl⟩,fun b hb=>?_,q⟩;have e:b=s1.heap.objs.size:=by simpa using hb
  subst e;exact I1.wk (aw _) (I1.hok.fresh (aw _))
 ·obtain⟨z,e,q⟩:=q1
  subst e;obtain⟨t,rfl⟩:=r1;refine wpAny_pyIter_strU ?_;refine⟨s1.heap.objs.size,[s1.heap.objs.size],_,_,H1,rfl,I1.kept (t':=s1.toks) fun b o e=>af _ e,DW z _ t,⟨_,au _ rfl,rfl,rfl⟩,fun b hb=>?_,q⟩;have e:b=s1.heap.objs.size:=by simpa using hb
  subst e;exact I1.wk (aw _) (I1.hok.fresh (aw _))
end
set_option maxHeartbeats 4000000
section
variable {CX:CXT}{G:Gam}
structure mw(sc sc':Scope)(N own:List Str)(fr:List Nat):Prop where
 kind:sc'.kind=.function
 cellk:∀y∈sc'.names,y.2=.cell->sc'.names.lookup y.1=some .cell
 own1:∀y∈sc'.names,y.2=.local->sc'.names.lookup y.1=some .local
 free:∀y∈sc'.names,y.2=.free->sc.names.lookup y.1=some .cell\/sc.names.lookup y.1=some .free
 nd:(namesOf N own fr).Nodup
 fr:∀j∈fr,j<N.length/\sc'.names.lookup (N.getD j "")=some .free
 own2:∀x∈own,sc'.names.lookup x=some .local\/sc'.names.lookup x=some .cell
theorem rn{sc sc':Scope}{N own:List Str}{fr:List Nat}(h:vR sc sc' N own fr=true):mw sc sc' N own fr:=by
 unfold vR at h;simp only[ag,bc,decide_eq_true_eq,beq_iff_eq,cC]at h;obtain⟨⟨⟨⟨⟨⟨h1,h2⟩,h3⟩,h4⟩,h5⟩,h6⟩,h7⟩:=h;exact⟨h1,h2,h3,h4,h5,h6,h7⟩
theorem mw.comp{E:XS}{sc sc':Scope}{N own:List Str}{fr:List Nat}{all:Bool}{X:Cx}(S:mw sc sc' N own fr)(o:Ok CX G E sc N all X):my X (namesOf N own fr) sc':=
 ⟨S.kind,S.cellk,S.own1,fun y hy hf=>by
  rcases S.free y hy hf with q|q
  ·exact .inl (o.cel _ q)
  ·exact o.fre _ q⟩
theorem mw.mkOk{E:XS}{sc sc':Scope}{N own:List Str}{fr:List Nat}{all:Bool}{X:Cx}(S:mw sc sc' N own fr)(o:Ok CX G E sc N all X):MkOk X (namesOf N own fr) sc' (md own fr):=by
 intro σ hl;refine⟨by simp[md,namesOf],fun i x v h1 h2=>?_⟩;unfold md at h2;unfold namesOf at h1;by_cases hi:i<own.length
 ·rw[km (by simpa using hi),aQ]at h2
  cases q:own[i]? with
  |none=>rw[q]at h2;cases h2
  |some z=>rw[q]at h2;cases h2
 ·rw[fR (by simpa using hi),aQ,av]at h2
  rw[fR (by simpa using hi),aQ]at h1;cases q:fr[i-own.length]? with
  |none=>rw[q]at h2;cases h2
  |some j=>
   rw[q]at h1 h2;have hx:N.getD j ""=x:=aP h1;have hv:(σ[j]?).getD none=some v:=aP h2;obtain⟨hj,hf⟩:=S.fr j (bf q);refine⟨by rw[<-hx];exact hf,j,?_,?_⟩
   ·rw[o.names,<-hx,aj,ah hj];rfl
   ·cases w:σ[j]? with
    |none=>rw[w]at hv;cases hv
    |some z=>rw[w]at hv;exact congrArg some hv
noncomputable abbrev HX(CX:CXT):Prop:=∀o H s e s',CX o H s E0 e s'->False
theorem Ok.comp{E:XS}{sc sc':Scope}{N own:List Str}{fr:List Nat}{all:Bool}{X:Cx}(hCX:HX CX)(S:mw sc sc' N own fr)(o:Ok CX G E sc N all X)(C:Addr)(s₀:Shared)(H₀:Hp)(fp:List Addr):
  Ok CX G N0 sc' (namesOf N own fr) false (dA X (namesOf N own fr) sc' C s₀ H₀ fp) where
 names:=rfl
 nd:=S.nd
 loc:=fun x h=>lookup_relabel_local (env:=X.env) h
 cel:=fun x h=>fA (env:=X.env) h (by decide)
 own:=fun x h=>bS.mpr ⟨(x,.cell),bq h,by simp⟩
 fre:=fun x h=>(fL (env:=X.env) h).symm
 glo:=fun x h=>fA (env:=X.env) h (by decide)
 all:=fun h=>absurd h (by decide)
 calm:=o.calm
 hu:=o.hu
 val:=o.val
 fn:=o.fn
 ini:=o.ini
 dic:=o.dic
 mak:=o.mak
 mth:=o.mth
 blt:=o.blt
 px:=PassesOwn.never
 pass:=fun _ _ _ _ _ _ _ h=>(hCX _ _ _ _ _ h).elim
 made:=fun _ _ _ _ _ _ _ _ _ _ h=>h.elim
 madeX:=fun _ _ _ _ _ _ _ _ _ h=>h.elim
 cx:=o.cx
 top:=fun h=>absurd h (by decide)
theorem n8{sc:Scope}{N:List Str}{all:Bool}{g:CG}{e:Expr}(h:lS sc N all g e=true)(es:List Expr)(env:Env):gG (e::es) env=(false,assign e env)::gG es env:=by
 cases e<;>first
  |rfl
  | (cases g<;>exact absurd h (by simp[lS]))
theorem sk{sc:Scope}{N:List Str}{all:Bool}{g:CG}{r:CGs}{es:List Expr}(h:mO sc N all (.cons g r) es=true):∃e' r',es=e'::r'/\lS sc N all g e'=true/\mO sc N all r r'=true:=by
 cases es with
 |nil=>exact absurd h (by simp[mO])
 |cons e' r'=>
  have h':(lS sc N all g e'&&mO sc N all r r')=true:=h;rw[ag]at h';exact⟨e',r',rfl,h'⟩
theorem uH{sc:Scope}{N:List Str}{all:Bool}{es:List Expr}(h:mO sc N all .nil es=true):es=[]:=by
 cases es with
 |nil=>rfl
 |cons e' r'=>exact absurd h (by simp[mO])
theorem qd{sc:Scope}{N:List Str}{all:Bool}:∀{gs:CGs}{es:List Expr},mO sc N all gs es=true->∀env,(gG es env).length=gs.len/\(gG es env).findIdx? (·.1)=none
 |.nil,es,h,env=>by rw[uH h];exact⟨rfl,rfl⟩
 |.cons g r,es,h,env=>by
  obtain⟨e',r',rfl,h1,h2⟩:=sk h;obtain⟨a,b⟩:=qd h2 env;rw[n8 h1];refine⟨by rw[bo,a,CGs.len],?_⟩;rw[List.findIdx?_cons];simp[b]
end
section
variable {CX:CXT}{G:Gam}
theorem fM{a b c:Bool}(h:(a&&b&&c)=true):a=true/\b=true/\c=true:=by
 simp only[ag]at h;exact⟨h.1.1,h.1.2,h.2⟩
theorem k6{a:Bool}(h:(!a)=true):a=false:=by simpa using h
noncomputable abbrev IHE(CX:CXT)(G:Gam)(c:CE):Prop:=∀(e:Expr){E:XS}{sc:Scope}{N:List Str}{all:Bool}{X:Cx},Ok CX G E sc N all X->ba sc N c e=true->PE X e (wpE G X.K E c)
noncomputable abbrev IHT(CX:CXT)(G:Gam)(c:CE):Prop:=∀(e:Expr){E:XS}{sc:Scope}{N:List Str}{all:Bool}{X:Cx},Ok CX G E sc N all X->ba sc N c e=true->PT X e (wpT G X.K E c)
noncomputable abbrev IHW(CX:CXT)(G:Gam)(c:CE):Prop:=∀(op:BoolOp)(es:List Expr)(pos:Pos){E:XS}{sc:Scope}{N:List Str}{all:Bool}{X:Cx},Ok CX G E sc N all X->ba sc N c (.BoolOp op es pos)=true->PW X (.BoolOp op es pos) (wpT G X.K E c)
noncomputable abbrev IHL(CX:CXT)(G:Gam)(c:CL):Prop:=∀(es:List Expr){E:XS}{sc:Scope}{N:List Str}{all:Bool}{X:Cx},Ok CX G E sc N all X->jJ sc N c es=true->PA X es (wpL G X.K E c)
noncomputable abbrev IHP(CX:CXT)(G:Gam)(c:CP):Prop:=∀(ks:List (Option Expr))(vs:List Expr){E:XS}{sc:Scope}{N:List Str}{all:Bool}{X:Cx},Ok CX G E sc N all X->yD sc N c ks vs=true->∀pos,
  PPs X pos ks vs (wpP G X.K E c)/\ks.all (·.isSome)=true/\ks.length=vs.length/\(c≠.nil->ks≠[])
noncomputable abbrev IHO(CX:CXT)(G:Gam)(c:CO):Prop:=∀(e:Option Expr){E:XS}{sc:Scope}{N:List Str}{all:Bool}{X:Cx},Ok CX G E sc N all X->GD sc N c e=true->PO X e (wpO G X.K E c)
noncomputable abbrev IHC(CX:CXT)(G:Gam)(c:CO):Prop:=∀(es:List Expr){E:XS}{sc:Scope}{N:List Str}{all:Bool}{X:Cx},Ok CX G E sc N all X->chkC sc N c es=true->PTs X es (wpC G X.K E c)
noncomputable abbrev IHG(CX:CXT)(G:Gam)(c:CG):Prop:=∀(e:Expr){E:XS}{sc:Scope}{N:List Str}{all:Bool}{X:Cx},Ok CX G E sc N all X->lS sc N all c e=true->PG X e (wpG G X.K E c)
noncomputable abbrev GW(CX:CXT)(G:Gam)(c:CGs):Prop:=∀(es:List Expr){E:XS}{sc:Scope}{N:List Str}{all:Bool}{X:Cx},Ok CX G E sc N all X->mO sc N all c es=true->PGs X es (wpGs G X.K E c)
noncomputable abbrev IHI(CX:CXT)(G:Gam)(c:CI):Prop:=∀(e tg:Expr){E:XS}{sc:Scope}{N:List Str}{all:Bool}{X:Cx},Ok CX G E sc N all X->wq sc N c e tg=true->PI X tg e (wpI G X.K E c)
theorem sE_var(hCX:HX CX){i:Nat}:IHE CX G (.var i):=by
  intro e E sc N all X o h;unfold ba at h;split at h
  ·obtain⟨h1,h2,h3⟩:=fM h
   obtain⟨d1,d2⟩:=dY h3;exact zU (by rw[o.names];exact beq_iff_eq.mp h1) (o.vis h2) d1 d2
  ·cases h
theorem EC(hCX:HX CX){c:Const}:IHE CX G (.con c):=by
  intro e E sc N all X o h;unfold ba at h;split at h
  ·rw[ag,decide_eq_true_eq]at h
   obtain⟨h1,rfl⟩:=h;cases c with
   |none=>exact E6
   |bool b=>exact pe_bl
   |int i=>exact Fb
   |str x=>exact E2
   |_=>exact absurd h1 (by simp[Fl])
  ·cases h
theorem sE_glo(hCX:HX CX){x:Str}:IHE CX G (.glo x):=by
  intro e E sc N all X o h;unfold ba at h;split at h
  ·obtain⟨h1,h2,h3⟩:=fM h
   rw[decide_eq_true_eq]at h1;subst h1;intro pins s σ H Q I hw;obtain⟨v,hv,q⟩:=hw;obtain⟨u,hu,r⟩:=o.val _ _ hv;exact vK (o.gl h2) hu r (dY h3).1 pins s σ H Q I q
  ·cases h
theorem sE_ty(hCX:HX CX){t:Ty}:IHE CX G (.ty t):=by
  intro e E sc N all X o h;unfold ba at h;split at h
  ·rw[ag,decide_eq_true_eq]at h
   obtain⟨h1,h2⟩:=h;subst h1;exact A6 (o.gl h2) (o.blt _ t.mem) t.boot rfl t.plain.1 t.plain.2
  ·cases h
theorem sE_bin(hCX:HX CX){op:Operator}{a:CE}{b:CE}(iE_a:IHE CX G a)(iE_b:IHE CX G b):IHE CX G (.bin op a b):=by
  intro e E sc N all X o h;unfold ba at h;split at h
  ·obtain⟨h1,h2,h3⟩:=fM h
   rw[decide_eq_true_eq]at h1;subst h1;exact pe_op (AY op) (iE_a _ o h2) (iE_b _ o h3)
  ·cases h
theorem sE_un(hCX:HX CX){op:BF}{a:CE}(iE_a:IHE CX G a):IHE CX G (.un op a):=by
  intro e E sc N all X o h;unfold ba at h;split at h
  ·rw[ag,decide_eq_true_eq]at h
   obtain⟨h1,h2⟩:=h;subst h1;exact pe_un (rUn_ok op) (iE_a _ o h2)
  ·cases h
theorem sE_cmp(hCX:HX CX){op:CmpOp}{a:CE}{b:CE}(iE_a:IHE CX G a)(iE_b:IHE CX G b):IHE CX G (.cmp op a b):=by
  intro e E sc N all X o h;unfold ba at h;split at h
  ·rw[ag]at h
   obtain⟨h,h4⟩:=h;obtain⟨h1,h2,h3⟩:=fM h;rw[decide_eq_true_eq]at h1;subst h1;exact pe_cmpR (me o.hu op) (iE_a _ o h3) (iE_b _ o h4) (mi (k6 h2) op)
  ·cases h
theorem ED(hCX:HX CX){o1:CmpOp}{o2:CmpOp}{a:CE}{b:CE}{c:CE}(iE_a:IHE CX G a)(iE_b:IHE CX G b)(iE_c:IHE CX G c):IHE CX G (.chain o1 o2 a b c):=by
  intro e E sc N all X o h;unfold ba at h;split at h
  ·simp only[ag,decide_eq_true_eq]at h
   obtain⟨⟨⟨⟨⟨h1,h2⟩,h3⟩,h4⟩,h5⟩,h6⟩:=h;subst h1 h2;exact Ff (me o.hu o1) (me o.hu o2) (iE_a _ o h4) (iE_b _ o h5) (iE_c _ o h6) (mi (k6 h3) o2)
  ·cases h
theorem sE_not(hCX:HX CX){a:CE}(iE_a:IHE CX G a):IHE CX G (.not a):=by
  intro e E sc N all X o h;unfold ba at h;split at h
  ·skip
   exact pe_not (iE_a _ o h)
  ·cases h
theorem sE_and(hCX:HX CX){a:CE}{b:CE}(iE_a:IHE CX G a)(iE_b:IHE CX G b):IHE CX G (.and a b):=by
  intro e E sc N all X o h;unfold ba at h;split at h
  ·rw[ag]at h
   exact Fh (iE_a _ o h.1) (E5 (iE_b _ o h.2))
  ·rw[ag]at h
   exact Fh (iE_a _ o h.1) (iE_b _ o h.2)
  ·cases h
theorem sE_or(hCX:HX CX){a:CE}{b:CE}(iE_a:IHE CX G a)(iE_b:IHE CX G b):IHE CX G (.or a b):=by
  intro e E sc N all X o h;unfold ba at h;split at h
  ·rw[ag]at h
   exact pe_or (iE_a _ o h.1) (E5 (iE_b _ o h.2))
  ·rw[ag]at h
   exact pe_or (iE_a _ o h.1) (iE_b _ o h.2)
  ·cases h
theorem sE_ite(hCX:HX CX){c:CE}{a:CE}{b:CE}(iT_c:IHT CX G c)(iE_a:IHE CX G a)(iE_b:IHE CX G b):IHE CX G (.ite c a b):=by
  intro e E sc N all X o h;unfold ba at h;split at h
  ·obtain⟨h1,h2,h3⟩:=fM h
   exact Fc (iT_c _ o h1) (iE_a _ o h2) (iE_b _ o h3)
  ·cases h
theorem sE_idx(hCX:HX CX){a:CE}{i:CE}(iE_a:IHE CX G a)(iE_i:IHE CX G i):IHE CX G (.idx a i):=by
  intro e E sc N all X o h;unfold ba at h;split at h
  ·obtain⟨h1,h2,h3⟩:=fM h
   exact E9 FY (iE_a _ o h2) (iE_i _ o h3) (rE (k6 h1))
  ·cases h
theorem sE_cut(hCX:HX CX){a:CE}{lo:CO}{hi:CO}(iE_a:IHE CX G a)(iO_lo:IHO CX G lo)(iO_hi:IHO CX G hi):IHE CX G (.cut a lo hi):=by
  intro e E sc N all X o h;unfold ba at h;split at h
  ·obtain⟨h1,h2,h3⟩:=fM h
   exact E4 rSlc_ok (iE_a _ o h1) (iO_lo _ o h2) (iO_hi _ o h3)
  ·cases h
theorem sE_tup(hCX:HX CX){es:CL}(iL_es:IHL CX G es):IHE CX G (.tup es):=by
  intro e E sc N all X o h;unfold ba at h;split at h
  ·skip
   exact E1 (iL_es _ o h)
  ·cases h
theorem sE_lst(hCX:HX CX){es:CL}(iL_es:IHL CX G es):IHE CX G (.lst es):=by
  intro e E sc N all X o h;unfold ba at h;split at h
  ·skip
   exact E8 (iL_es _ o h)
  ·cases h
theorem sE_dic(hCX:HX CX){ps:CP}(iP_ps:IHP CX G ps):IHE CX G (.dic ps):=by
  intro e E sc N all X o h;unfold ba at h;split at h
  ·rename_i ks' vs' pos
   rw[ag,decide_eq_true_eq]at h;obtain⟨h1,h2⟩:=h;intro pins s σ H Q I hw;rcases hw with⟨e1,hw⟩ |⟨e1,hw⟩
   ·subst e1
    have q:ks'=[]/\vs'=[]:=by
     cases ks' with
     |nil=>cases vs' with
      |nil=>exact⟨rfl,rfl⟩
      |cons a b=>exact absurd h1 (by simp[yD])
     |cons a b=>exact absurd h1 (by simp[yD])
    obtain⟨rfl,rfl⟩:=q;exact Fe pins s σ H Q I hw
   ·obtain⟨p1,p2,p3,p4⟩:=iP_ps ks' vs' o h1 pos
    exact pe_disp p1 p2 p3 (p4 e1) h2 pins s σ H Q I hw
  ·cases h
theorem sE_call(hCX:HX CX){f:Str}{es:CL}(iL_es:IHL CX G es):IHE CX G (.call f es):=by
  intro e E sc N all X o h;unfold ba at h;split at h
  ·rename_i f' np es' pos
   rw[ag]at h;obtain⟨h,h4⟩:=h;obtain⟨h1,h2,h3⟩:=fM h;rw[decide_eq_true_eq]at h1;subst h1;intro pins s σ H Q I hw;obtain⟨sp,dvs,hf,hw⟩:=hw;obtain⟨fa,fd,ps,ds,k,F,hr,hm,hk,hb,hd⟩:=o.fn _ _ _ _ hf;cases es with
   |nil=>
    have e0:=dZ h4;subst e0;exact tZ F hr (o.gl h2) hm hk hb hd o.pass (dY h3).1 pins s σ H Q I hw
   |cons c r=>
    have hL:=iL_es _ o h4;obtain⟨e1,r1,rfl,g1,g2⟩:=dk h4;exact xN F hr (o.gl h2) hm hk hb hd o.pass hL (dY h3).1 (bH g1 _ _) (dG g2 _ _) pins s σ H Q I hw
  ·cases h
theorem sE_bfn(hCX:HX CX){b:Bf}{es:CL}(iL_es:IHL CX G es):IHE CX G (.bfn b es):=by
  intro e E sc N all X o h;unfold ba at h;split at h
  ·rename_i f' np e1 es' pos
   obtain⟨h1,h2,h3⟩:=fM h;rw[decide_eq_true_eq]at h1;subst h1;have hL:=iL_es _ o h3;have hs:aM (e1::es') X.env=(false,eval e1 X.env)::aM es' X.env/\(backTo pos (aM es' X.env)).any (·.1)=false:=by
    cases es with
    |nil=>exact absurd (dZ h3) (by simp)
    |cons c r=>
     obtain⟨e1',r1,q,g1,g2⟩:=dk h3;cases q;exact⟨bH g1 _ _,dG g2 _ _⟩
   have hB:=EM (X:=X) o.calm o.hu b;have hv:=b.boot;cases b with
   |list=>exact gz hB (o.gl h2) (o.blt _ (Bf.mem _)) hv hL (Bf.plain _).1 (Bf.plain _).2 hs.1 hs.2
   |tuple=>exact gz hB (o.gl h2) (o.blt _ (Bf.mem _)) hv hL (Bf.plain _).1 (Bf.plain _).2 hs.1 hs.2
   |len=>exact cD hB (o.gl h2) (o.blt _ (Bf.mem _)) hv hL (Bf.plain _).1 (Bf.plain _).2 hs.1 hs.2
   |isinstance=>exact cD hB (o.gl h2) (o.blt _ (Bf.mem _)) hv hL (Bf.plain _).1 (Bf.plain _).2 hs.1 hs.2
   |all=>exact cD hB (o.gl h2) (o.blt _ (Bf.mem _)) hv hL (Bf.plain _).1 (Bf.plain _).2 hs.1 hs.2
   |any=>exact cD hB (o.gl h2) (o.blt _ (Bf.mem _)) hv hL (Bf.plain _).1 (Bf.plain _).2 hs.1 hs.2
   |set=>exact gz hB (o.gl h2) (o.blt _ (Bf.mem _)) hv hL (Bf.plain _).1 (Bf.plain _).2 hs.1 hs.2
   |isx=>exact cD hB (o.gl h2) (o.blt _ (Bf.mem _)) hv hL (Bf.plain _).1 (Bf.plain _).2 hs.1 hs.2
   |min=>exact cD hB (o.gl h2) (o.blt _ (Bf.mem _)) hv hL (Bf.plain _).1 (Bf.plain _).2 hs.1 hs.2
   |lend=>exact cD hB (o.gl h2) (o.blt _ (Bf.mem _)) hv hL (Bf.plain _).1 (Bf.plain _).2 hs.1 hs.2
   |sortl=>exact cD hB (o.gl h2) (o.blt _ (Bf.mem _)) hv hL (Bf.plain _).1 (Bf.plain _).2 hs.1 hs.2
   |sortt=>exact cD hB (o.gl h2) (o.blt _ (Bf.mem _)) hv hL (Bf.plain _).1 (Bf.plain _).2 hs.1 hs.2
   |minl=>exact cD hB (o.gl h2) (o.blt _ (Bf.mem _)) hv hL (Bf.plain _).1 (Bf.plain _).2 hs.1 hs.2
   |maxl=>exact cD hB (o.gl h2) (o.blt _ (Bf.mem _)) hv hL (Bf.plain _).1 (Bf.plain _).2 hs.1 hs.2
   |int=>exact gz hB (o.gl h2) (o.blt _ (Bf.mem _)) hv hL (Bf.plain _).1 (Bf.plain _).2 hs.1 hs.2
  ·cases h
theorem EB(hCX:HX CX){m:Mm}{b:CE}{a:CE}(iE_b:IHE CX G b)(iE_a:IHE CX G a):IHE CX G (.meth1 m b a):=by
  intro e E sc N all X o h;unfold ba at h;split at h
  ·rename_i o' nm ap a' cp
   simp only[ag,decide_eq_true_eq]at h;obtain⟨⟨⟨⟨h1,h2⟩,h3⟩,h4⟩,h5⟩:=h;subst h1;exact Fg xo m.slot m.ty (EL m) (iE_b _ o h4) (gb (iE_a _ o h5) jE (bH h5 _ _)) (wK h3 _ _ _) (by rw[bH h5];rfl) h2 (bH h5 _ _) rfl
  ·cases h
theorem sE_idxd(hCX:HX CX){a:CE}{i:CE}(iE_a:IHE CX G a)(iE_i:IHE CX G i):IHE CX G (.idxd a i):=by
  intro e E sc N all X o h;unfold ba at h;split at h
  ·obtain⟨h1,h2,h3⟩:=fM h
   exact E9 (ix_dict (by have :=o.hu;omega)) (iE_a _ o h2) (iE_i _ o h3) (rE (k6 h1))
  ·cases h
theorem sT_idxd(hCX:HX CX){a i:CE}:IHT CX G (.idxd a i):=by
  intro _ _ _ _ _ _ _ _;exact fun _ _ _ _ _ _ z=>z.elim
theorem sW_idxd(hCX:HX CX){a i:CE}:IHW CX G (.idxd a i):=by
  intro _ _ _ _ _ _ _ _ _ h;exact absurd h (by simp[ba])
theorem sE_dicT(hCX:HX CX):IHE CX G .dicT:=by
  intro e E sc N all X o h;unfold ba at h;split at h
  ·exact Fd
  ·cases h
theorem sT_dicT(hCX:HX CX):IHT CX G .dicT:=by
  intro _ _ _ _ _ _ _ _;exact fun _ _ _ _ _ _ z=>z.elim
theorem sW_dicT(hCX:HX CX):IHW CX G .dicT:=by
  intro _ _ _ _ _ _ _ _ _ h;exact absurd h (by simp[ba])
theorem sE_setd(hCX:HX CX){b a c:CE}(iE_b:IHE CX G b)(iE_a:IHE CX G a)(iE_c:IHE CX G c):IHE CX G (.setd b a c):=by
  intro e E sc N all X o h;unfold ba at h;split at h
  ·rename_i o' nm ap a' b' cp
   simp only[ag,decide_eq_true_eq]at h;obtain⟨⟨⟨⟨⟨h1,h2⟩,h3⟩,h4⟩,h5⟩,h6⟩:=h;subst h1;exact Fg PySem.F.plainAttrs_dict sP PySem.F.type_dict_setdefault (Cv (by have :=o.hu;omega)) (iE_b _ o h4) (gb (iE_a _ o h5) (gb (iE_c _ o h6) jE (bH h6 _ _)) (bH h5 _ _)) (wK h3 _ _ _) (by rw[bH h5,bH h6];rfl) h2 (bH h5 _ _) (by rw[bH h6];rfl)
  ·cases h
theorem sT_setd(hCX:HX CX){a b c:CE}:IHT CX G (.setd a b c):=by
  intro _ _ _ _ _ _ _ _;exact fun _ _ _ _ _ _ z=>z.elim
theorem sW_setd(hCX:HX CX){a b c:CE}:IHW CX G (.setd a b c):=by
  intro _ _ _ _ _ _ _ _ _ h;exact absurd h (by simp[ba])
theorem yF{sc:Scope}{N:List Str}{l:CL}{es:List Expr}(h:jJ sc N l es=true)(hl:l.len<29)(env:Env)(pos:Pos):((backTo pos (aM es env)).all (fun x=> !x.1)&&(qC pos (jR [] env)).all (fun x=>x.1.isSome)
   &&decide (es.length+([]:List Keyword).length+(if([]:List Keyword).isEmpty then 0 else 1)<30))=true:=by
 have h1:=dG h env pos;rw[ag,ag];refine⟨⟨?_,rfl⟩,?_⟩
 ·rw[List.any_eq_false]at h1
  exact bc.mpr fun x hx=>by simpa using h1 x hx
 ·rw[decide_eq_true_eq,yE h]
  exact fj hl (by decide)
theorem sE_base(hCX:HX CX){x:Str}{es:CL}(iL:IHL CX G es):IHE CX G (.base x es):=by
  intro e E sc N all X o h;unfold ba at h;split at h
  ·rename_i x' np nm ap e' es' cp
   simp only[ag,decide_eq_true_eq]at h;obtain⟨⟨⟨⟨⟨⟨h1,h2⟩,h3⟩,h4⟩,h5⟩,h6⟩,h7⟩:=h;subst h1;subst h3;intro pins s σ H Q I hw;obtain⟨B,hv,q⟩:=hw;obtain⟨u,hu,ru⟩:=o.val _ _ hv;obtain rfl:u=aX B:=ru;have hs:aM (e'::es') X.env=(false,eval e' X.env)::aM es' X.env/\(backTo cp (aM es' X.env)).any (·.1)=false:=by
    cases es with
    |nil=>exact absurd (dZ h7) (by simp)
    |cons c r=>
     obtain⟨e1',r1,q,g1,g2⟩:=dk h7;cases q;exact⟨bH g1 _ _,dG g2 _ _⟩
   exact pe_base (o.gl h4) hu (iL _ o h7) (dY h5).1 hs.1 hs.2 (yF h7 h6 _ _) h2 pins s σ H Q I q
  ·cases h
theorem sE_fld(hCX:HX CX){a:CE}{f:Str}(iE_a:IHE CX G a):IHE CX G (.fld a f):=by
  intro e E sc N all X o h;unfold ba at h;split at h
  ·rw[ag,decide_eq_true_eq]at h
   obtain⟨h1,h2⟩:=h;subst h1;exact A5 (iE_a _ o h2)
  ·cases h
theorem sT_base(hCX:HX CX){x:Str}{es:CL}:IHT CX G (.base x es):=by
  intro _ _ _ _ _ _ _ _;exact fun _ _ _ _ _ _ z=>z.elim
theorem sW_base(hCX:HX CX){x:Str}{es:CL}:IHW CX G (.base x es):=by
  intro _ _ _ _ _ _ _ _ _ h;exact absurd h (by simp[ba])
theorem sT_fld(hCX:HX CX){a:CE}{f:Str}:IHT CX G (.fld a f):=by
  intro _ _ _ _ _ _ _ _;exact fun _ _ _ _ _ _ z=>z.elim
theorem sW_fld(hCX:HX CX){a:CE}{f:Str}:IHW CX G (.fld a f):=by
  intro _ _ _ _ _ _ _ _ _ h;exact absurd h (by simp[ba])
theorem zO(hCX:HX CX){a:CE}(iE_a:IHE CX G a):IHE CX G (.sortset a):=by
  intro e E sc N all X o h;unfold ba at h;split at h
  ·simp only[ag,decide_eq_true_eq]at h
   obtain⟨⟨⟨⟨h1,h2⟩,h3⟩,h4⟩,h5⟩:=h;subst h1 h2;exact zV o.calm (o.gl h3) (o.blt _ (by decide+kernel)) (o.gl h4) (o.blt _ (by decide+kernel)) (gb (iE_a _ o h5) jE (bH h5 _ _)) (bH h5 _ _)
  ·cases h
theorem isRep_of{sc:Scope}{N:List Str}{i:Nat}{c d:Str}{e:Expr}(h:isRep sc N i c d e=true):∃x np ap j1 p2 j2 p3 cp,e=.Call (.Attribute (.Name x np) "replace" ap) [.Constant (.str c) j1 p2,.Constant (.str d) j2 p3] [] cp/\(ap.endLine==cp.line)=true/\N[i]? =some x/\rX sc x=true/\kO x=true/\(c==d)=false/\d.length<=14:=by
 unfold isRep at h;split at h
 ·simp only[ag,decide_eq_true_eq,Bool.not_eq_true',beq_iff_eq]at h
  obtain⟨⟨⟨⟨⟨⟨⟨⟨h1,h2⟩,h3⟩,h4⟩,h5⟩,h6⟩,h7⟩,h8⟩,h9⟩:=h;subst h1 h6 h7;exact⟨_,_,_,_,_,_,_,_,rfl,by rw[h2];exact beq_self_eq_true _,h3,h4,h5,h8,h9⟩
 ·cases h
theorem sE_mak(hCX:HX CX){x:Str}:IHE CX G (.mak x):=by
  intro e E sc N all X o h;unfold ba at h;split at h
  ·simp only[ag,decide_eq_true_eq]at h
   obtain⟨⟨h1,h2⟩,h3⟩:=h;subst h1;intro pins s σ H Q I hw;obtain⟨C,sp,dvs,hv,hw⟩:=hw;obtain⟨f',fd,ps,ds,k,hM,F,hr,hu,hb,hd⟩:=o.mak _ _ _ _ _ hv;exact Ck hM F hr (o.gl h2) hu hb hd o.pass (dY h3).1 pins s σ H Q I hw
  ·cases h
theorem sE_mth(hCX:HX CX){a:CE}{m:Str}{es:CL}(iE_a:IHE CX G a)(iL_es:IHL CX G es):IHE CX G (.mth a m es):=by
  intro e E sc N all X o h;unfold ba at h;split at h
  ·rename_i n np m' ap es' cp
   simp only[ag,decide_eq_true_eq]at h;obtain⟨⟨⟨⟨h1,h2⟩,h3⟩,h4⟩,h5⟩:=h;subst h1;intro pins s σ H Q I hw;obtain⟨C,sp,dvs,hv,hw⟩:=hw;obtain⟨f',fd,ps,ds,k,c,hM,F,hr,hb,hd⟩:=o.mth _ _ _ _ _ hv;cases es with
   |nil=>
    obtain rfl:=dZ h5;exact Cj (iE_a _ o h4) c hM F hr hb hd o.pass rfl h2 pins s σ H Q I hw
   |cons c0 r=>
    obtain⟨e1',r1,rfl,g1,g2⟩:=dk h5;exact E7 (iE_a _ o h4) c hM F hr hb hd o.pass (iL_es _ o h5) rfl (bH g1 _ _) (dG g2 _ _) (yF h5 h3 _ _) h2 pins s σ H Q I hw
  ·cases h
theorem sE_fldI(hCX:HX CX){a:CE}{f:Str}(iE_a:IHE CX G a):IHE CX G (.fldI a f):=by
  intro e E sc N all X o h;unfold ba at h;split at h
  ·simp only[ag,decide_eq_true_eq]at h
   obtain⟨h1,h2⟩:=h;subst h1;exact pe_fld (iE_a _ o h2) rfl
  ·cases h
theorem sT_mak(hCX:HX CX){x:Str}:IHT CX G (.mak x):=by
  intro _ _ _ _ _ _ _ _;exact fun _ _ _ _ _ _ z=>z.elim
theorem sW_mak(hCX:HX CX){x:Str}:IHW CX G (.mak x):=by
  intro _ _ _ _ _ _ _ _ _ h;exact absurd h (by simp[ba])
theorem sT_mth(hCX:HX CX){a:CE}{m:Str}{es:CL}:IHT CX G (.mth a m es):=by
  intro _ _ _ _ _ _ _ _;exact fun _ _ _ _ _ _ z=>z.elim
theorem sW_mth(hCX:HX CX){a:CE}{m:Str}{es:CL}:IHW CX G (.mth a m es):=by
  intro _ _ _ _ _ _ _ _ _ h;exact absurd h (by simp[ba])
theorem sT_fldI(hCX:HX CX){a:CE}{f:Str}:IHT CX G (.fldI a f):=by
  intro _ _ _ _ _ _ _ _;exact fun _ _ _ _ _ _ z=>z.elim
theorem sW_fldI(hCX:HX CX){a:CE}{f:Str}:IHW CX G (.fldI a f):=by
  intro _ _ _ _ _ _ _ _ _ h;exact absurd h (by simp[ba])
theorem zN(hCX:HX CX){a:CE}:IHT CX G (.sortset a):=by
  intro _ _ _ _ _ _ _ _;exact fun _ _ _ _ _ _ z=>z.elim
theorem zM(hCX:HX CX){a:CE}:IHW CX G (.sortset a):=by
  intro _ _ _ _ _ _ _ _ _ h;exact absurd h (by simp[ba])
theorem sE_comp(hCX:HX CX){own:List Str}{fr:List Nat}{tg:CG}{it:CI}{cond:CO}{elt:CE}(iI_it:IHI CX G it)(iG_tg:IHG CX G tg)(iC_cond:IHC CX G cond)(iE_elt:IHE CX G elt):IHE CX G (.comp own fr tg it cond elt):=by
  intro e E sc N all X o h;unfold ba at h;split at h
  ·rename_i elt' tg' it' ifs' sc' pos
   simp only[ag]at h;obtain⟨⟨⟨⟨⟨h1,h2⟩,h3⟩,h4⟩,h5⟩,h6⟩:=h;have S:=rn h1;exact pe_comp (S.comp o) (S.mkOk o) o.calm (iI_it _ _ o h3)
    (fun C s₀ H₀ fp _=>⟨iG_tg _ (o.comp hCX S C s₀ H₀ fp) h4,iC_cond _ (o.comp hCX S C s₀ H₀ fp) h5,iE_elt _ (o.comp hCX S C s₀ H₀ fp) h6⟩) (vT (k6 h2) _)
  ·cases h
theorem sT_cmp(hCX:HX CX){op:CmpOp}{a:CE}{b:CE}(iE_a:IHE CX G a)(iE_b:IHE CX G b):IHT CX G (.cmp op a b):=by
  intro e E sc N all X o h;unfold ba at h;split at h
  ·rw[ag]at h
   obtain⟨h,h4⟩:=h;obtain⟨h1,h2,h3⟩:=fM h;rw[decide_eq_true_eq]at h1;subst h1;exact pt_cmpR (me o.hu op) (iE_a _ o h3) (iE_b _ o h4) (mi (k6 h2) op)
  ·cases h
theorem Eu(hCX:HX CX){o1:CmpOp}{o2:CmpOp}{a:CE}{b:CE}{c:CE}(iE_a:IHE CX G a)(iE_b:IHE CX G b)(iE_c:IHE CX G c):IHT CX G (.chain o1 o2 a b c):=by
  intro e E sc N all X o h;unfold ba at h;split at h
  ·simp only[ag,decide_eq_true_eq]at h
   obtain⟨⟨⟨⟨⟨h1,h2⟩,h3⟩,h4⟩,h5⟩,h6⟩:=h;subst h1 h2;exact ET (me o.hu o1) (me o.hu o2) (iE_a _ o h4) (iE_b _ o h5) (iE_c _ o h6) (mi (k6 h3) o2)
  ·cases h
theorem sT_not(hCX:HX CX){a:CE}(iT_a:IHT CX G a):IHT CX G (.not a):=by
  intro e E sc N all X o h;unfold ba at h;split at h
  ·skip
   exact pt_not (iT_a _ o h)
  ·cases h
theorem sT_and(hCX:HX CX){a:CE}{b:CE}(iT_a:IHT CX G a)(iT_b:IHT CX G b)(iW_b:IHW CX G b):IHT CX G (.and a b):=by
  intro e E sc N all X o h;unfold ba at h;split at h
  ·rw[ag]at h
   exact(vE (iT_a _ o h.1) (A1 (iT_b _ o h.2))).pt
  ·rw[ag]at h
   exact(vE (iT_a _ o h.1) (iW_b _ _ _ o h.2)).pt
  ·cases h
theorem sT_or(hCX:HX CX){a:CE}{b:CE}(iT_a:IHT CX G a)(iT_b:IHT CX G b)(iW_b:IHW CX G b):IHT CX G (.or a b):=by
  intro e E sc N all X o h;unfold ba at h;split at h
  ·rw[ag]at h
   exact(A0 (iT_a _ o h.1) (EN (iT_b _ o h.2))).pt
  ·rw[ag]at h
   exact(A0 (iT_a _ o h.1) (iW_b _ _ _ o h.2)).pt
  ·cases h
theorem sT_var(hCX:HX CX){i:Nat}:IHT CX G (.var i):=by
  intro e E sc N all X o h;have hv:=h;unfold ba at h;split at h
  ·obtain⟨h1,h2,h3⟩:=fM h
   obtain⟨d1,d2⟩:=dY h3;exact nW (zU (by rw[o.names];exact beq_iff_eq.mp h1) (o.vis h2) d1 d2) fun _=>rfl
  ·cases h
theorem sT_con(hCX:HX CX){c:Const}:IHT CX G (.con c):=by
  intro e E sc N all X o h;have q:=EC hCX e o h;unfold ba at h;split at h
  ·skip
   skip
   exact nW q fun _=>rfl
  ·cases h
theorem sT_glo(hCX:HX CX){x:Str}:IHT CX G (.glo x):=by
  intro e E sc N all X o h;unfold ba at h;split at h
  ·obtain⟨h1,h2,h3⟩:=fM h
   rw[decide_eq_true_eq]at h1;subst h1;refine vG ?_ (fun _=>rfl);intro pins s σ H Q I hw;obtain⟨v,hv,q⟩:=hw;obtain⟨u,hu,r⟩:=o.val _ _ hv;exact vK (o.gl h2) hu r (dY h3).1 pins s σ H Q I q
  ·cases h
theorem sT_idx(hCX:HX CX){a:CE}{i:CE}(iE_a:IHE CX G a)(iE_i:IHE CX G i):IHT CX G (.idx a i):=by
  intro e E sc N all X o h;unfold ba at h;split at h
  ·obtain⟨h1,h2,h3⟩:=fM h
   exact nW (E9 FY (iE_a _ o h2) (iE_i _ o h3) (rE (k6 h1))) fun _=>rfl
  ·cases h
theorem sT_call(hCX:HX CX){f:Str}{es:CL}(iL_es:IHL CX G es):IHT CX G (.call f es):=by
  intro e E sc N all X o h;unfold ba at h;split at h
  ·rename_i f' np es' pos
   rw[ag]at h;obtain⟨h,h4⟩:=h;obtain⟨h1,h2,h3⟩:=fM h;rw[decide_eq_true_eq]at h1;subst h1;refine vG ?_ (fun _=>rfl);intro pins s σ H Q I hw;obtain⟨sp,dvs,hf,hw⟩:=hw;obtain⟨fa,fd,ps,ds,k,F,hr,hm,hk,hb,hd⟩:=o.fn _ _ _ _ hf;cases es with
   |nil=>
    have e0:=dZ h4;subst e0;exact tZ F hr (o.gl h2) hm hk hb hd o.pass (dY h3).1 pins s σ H Q I hw
   |cons c r=>
    have hL:=iL_es _ o h4;obtain⟨e1,r1,rfl,g1,g2⟩:=dk h4;exact xN F hr (o.gl h2) hm hk hb hd o.pass hL (dY h3).1 (bH g1 _ _) (dG g2 _ _) pins s σ H Q I hw
  ·cases h
theorem sT_bfn(hCX:HX CX){b:Bf}{es:CL}(iL_es:IHL CX G es):IHT CX G (.bfn b es):=by
  intro e E sc N all X o h;unfold ba at h;split at h
  ·rename_i f' np e1 es' pos
   obtain⟨h1,h2,h3⟩:=fM h;rw[decide_eq_true_eq]at h1;subst h1;have hL:=iL_es _ o h3;have hs:aM (e1::es') X.env=(false,eval e1 X.env)::aM es' X.env/\(backTo pos (aM es' X.env)).any (·.1)=false:=by
    cases es with
    |nil=>exact absurd (dZ h3) (by simp)
    |cons c r=>
     obtain⟨e1',r1,q,g1,g2⟩:=dk h3;cases q;exact⟨bH g1 _ _,dG g2 _ _⟩
   have hB:=EM (X:=X) o.calm o.hu b;have hv:=b.boot;refine vG ?_ (fun _=>rfl);cases b with
   |list=>exact gz hB (o.gl h2) (o.blt _ (Bf.mem _)) hv hL (Bf.plain _).1 (Bf.plain _).2 hs.1 hs.2
   |tuple=>exact gz hB (o.gl h2) (o.blt _ (Bf.mem _)) hv hL (Bf.plain _).1 (Bf.plain _).2 hs.1 hs.2
   |len=>exact cD hB (o.gl h2) (o.blt _ (Bf.mem _)) hv hL (Bf.plain _).1 (Bf.plain _).2 hs.1 hs.2
   |isinstance=>exact cD hB (o.gl h2) (o.blt _ (Bf.mem _)) hv hL (Bf.plain _).1 (Bf.plain _).2 hs.1 hs.2
   |all=>exact cD hB (o.gl h2) (o.blt _ (Bf.mem _)) hv hL (Bf.plain _).1 (Bf.plain _).2 hs.1 hs.2
   |any=>exact cD hB (o.gl h2) (o.blt _ (Bf.mem _)) hv hL (Bf.plain _).1 (Bf.plain _).2 hs.1 hs.2
   |set=>exact gz hB (o.gl h2) (o.blt _ (Bf.mem _)) hv hL (Bf.plain _).1 (Bf.plain _).2 hs.1 hs.2
   |isx=>exact cD hB (o.gl h2) (o.blt _ (Bf.mem _)) hv hL (Bf.plain _).1 (Bf.plain _).2 hs.1 hs.2
   |min=>exact cD hB (o.gl h2) (o.blt _ (Bf.mem _)) hv hL (Bf.plain _).1 (Bf.plain _).2 hs.1 hs.2
   |lend=>exact cD hB (o.gl h2) (o.blt _ (Bf.mem _)) hv hL (Bf.plain _).1 (Bf.plain _).2 hs.1 hs.2
   |sortl=>exact cD hB (o.gl h2) (o.blt _ (Bf.mem _)) hv hL (Bf.plain _).1 (Bf.plain _).2 hs.1 hs.2
   |sortt=>exact cD hB (o.gl h2) (o.blt _ (Bf.mem _)) hv hL (Bf.plain _).1 (Bf.plain _).2 hs.1 hs.2
   |minl=>exact cD hB (o.gl h2) (o.blt _ (Bf.mem _)) hv hL (Bf.plain _).1 (Bf.plain _).2 hs.1 hs.2
   |maxl=>exact cD hB (o.gl h2) (o.blt _ (Bf.mem _)) hv hL (Bf.plain _).1 (Bf.plain _).2 hs.1 hs.2
   |int=>exact gz hB (o.gl h2) (o.blt _ (Bf.mem _)) hv hL (Bf.plain _).1 (Bf.plain _).2 hs.1 hs.2
  ·cases h
theorem sT_ite(hCX:HX CX){c:CE}{a:CE}{b:CE}:IHT CX G (.ite c a b):=by
  intro _ _ _ _ _ _ _ _;exact fun _ _ _ _ _ _ z=>z.elim
theorem sT_ty(hCX:HX CX){t:Ty}:IHT CX G (.ty t):=by
  intro _ _ _ _ _ _ _ _;exact fun _ _ _ _ _ _ z=>z.elim
theorem sT_bin(hCX:HX CX){op:Operator}{a:CE}{b:CE}:IHT CX G (.bin op a b):=by
  intro _ _ _ _ _ _ _ _;exact fun _ _ _ _ _ _ z=>z.elim
theorem sT_un(hCX:HX CX){op:BF}{a:CE}:IHT CX G (.un op a):=by
  intro _ _ _ _ _ _ _ _;exact fun _ _ _ _ _ _ z=>z.elim
theorem sT_cut(hCX:HX CX){a:CE}{lo:CO}{hi:CO}:IHT CX G (.cut a lo hi):=by
  intro _ _ _ _ _ _ _ _;exact fun _ _ _ _ _ _ z=>z.elim
theorem sT_tup(hCX:HX CX){es:CL}:IHT CX G (.tup es):=by
  intro _ _ _ _ _ _ _ _;exact fun _ _ _ _ _ _ z=>z.elim
theorem sT_lst(hCX:HX CX){es:CL}:IHT CX G (.lst es):=by
  intro _ _ _ _ _ _ _ _;exact fun _ _ _ _ _ _ z=>z.elim
theorem sT_dic(hCX:HX CX){ps:CP}:IHT CX G (.dic ps):=by
  intro _ _ _ _ _ _ _ _;exact fun _ _ _ _ _ _ z=>z.elim
theorem Et(hCX:HX CX){m:Mm}{b:CE}{a:CE}:IHT CX G (.meth1 m b a):=by
  intro _ _ _ _ _ _ _ _;exact fun _ _ _ _ _ _ z=>z.elim
theorem sT_comp(hCX:HX CX){own:List Str}{fr:List Nat}{tg:CG}{it:CI}{cond:CO}{elt:CE}:IHT CX G (.comp own fr tg it cond elt):=by
  intro _ _ _ _ _ _ _ _;exact fun _ _ _ _ _ _ z=>z.elim
theorem sW_and(hCX:HX CX){a:CE}{b:CE}(iT_a:IHT CX G a)(iT_b:IHT CX G b)(iW_b:IHW CX G b):IHW CX G (.and a b):=by
  intro op es pos E sc N all X o h;unfold ba at h;split at h
  ·rename_i heq
   cases heq;rw[ag]at h;exact vE (iT_a _ o h.1) (A1 (iT_b _ o h.2))
  ·rename_i heq
   cases heq;rw[ag]at h;exact vE (iT_a _ o h.1) (iW_b _ _ _ o h.2)
  ·cases h
theorem sW_or(hCX:HX CX){a:CE}{b:CE}(iT_a:IHT CX G a)(iT_b:IHT CX G b)(iW_b:IHW CX G b):IHW CX G (.or a b):=by
  intro op es pos E sc N all X o h;unfold ba at h;split at h
  ·rename_i heq
   cases heq;rw[ag]at h;exact A0 (iT_a _ o h.1) (EN (iT_b _ o h.2))
  ·rename_i heq
   cases heq;rw[ag]at h;exact A0 (iT_a _ o h.1) (iW_b _ _ _ o h.2)
  ·cases h
theorem sW_var(hCX:HX CX){i:Nat}:IHW CX G (.var i):=by
  intro _ _ _ _ _ _ _ _ _ h;exact absurd h (by simp[ba])
theorem sW_con(hCX:HX CX){c:Const}:IHW CX G (.con c):=by
  intro _ _ _ _ _ _ _ _ _ h;exact absurd h (by simp[ba])
theorem sW_glo(hCX:HX CX){x:Str}:IHW CX G (.glo x):=by
  intro _ _ _ _ _ _ _ _ _ h;exact absurd h (by simp[ba])
theorem sW_ty(hCX:HX CX){t:Ty}:IHW CX G (.ty t):=by
  intro _ _ _ _ _ _ _ _ _ h;exact absurd h (by simp[ba])
theorem sW_bin(hCX:HX CX){op:Operator}{a:CE}{b:CE}:IHW CX G (.bin op a b):=by
  intro _ _ _ _ _ _ _ _ _ h;exact absurd h (by simp[ba])
theorem sW_un(hCX:HX CX){op:BF}{a:CE}:IHW CX G (.un op a):=by
  intro _ _ _ _ _ _ _ _ _ h;exact absurd h (by simp[ba])
theorem sW_cmp(hCX:HX CX){op:CmpOp}{a:CE}{b:CE}:IHW CX G (.cmp op a b):=by
  intro _ _ _ _ _ _ _ _ _ h;exact absurd h (by simp[ba])
theorem Es(hCX:HX CX){o1:CmpOp}{o2:CmpOp}{a:CE}{b:CE}{c:CE}:IHW CX G (.chain o1 o2 a b c):=by
  intro _ _ _ _ _ _ _ _ _ h;exact absurd h (by simp[ba])
theorem sW_not(hCX:HX CX){a:CE}:IHW CX G (.not a):=by
  intro _ _ _ _ _ _ _ _ _ h;exact absurd h (by simp[ba])
theorem sW_ite(hCX:HX CX){c:CE}{a:CE}{b:CE}:IHW CX G (.ite c a b):=by
  intro _ _ _ _ _ _ _ _ _ h;exact absurd h (by simp[ba])
theorem sW_idx(hCX:HX CX){a:CE}{i:CE}:IHW CX G (.idx a i):=by
  intro _ _ _ _ _ _ _ _ _ h;exact absurd h (by simp[ba])
theorem sW_cut(hCX:HX CX){a:CE}{lo:CO}{hi:CO}:IHW CX G (.cut a lo hi):=by
  intro _ _ _ _ _ _ _ _ _ h;exact absurd h (by simp[ba])
theorem sW_tup(hCX:HX CX){es:CL}:IHW CX G (.tup es):=by
  intro _ _ _ _ _ _ _ _ _ h;exact absurd h (by simp[ba])
theorem sW_lst(hCX:HX CX){es:CL}:IHW CX G (.lst es):=by
  intro _ _ _ _ _ _ _ _ _ h;exact absurd h (by simp[ba])
theorem sW_dic(hCX:HX CX){ps:CP}:IHW CX G (.dic ps):=by
  intro _ _ _ _ _ _ _ _ _ h;exact absurd h (by simp[ba])
theorem sW_call(hCX:HX CX){f:Str}{es:CL}:IHW CX G (.call f es):=by
  intro _ _ _ _ _ _ _ _ _ h;exact absurd h (by simp[ba])
theorem sW_bfn(hCX:HX CX){b:Bf}{es:CL}:IHW CX G (.bfn b es):=by
  intro _ _ _ _ _ _ _ _ _ h;exact absurd h (by simp[ba])
theorem Er(hCX:HX CX){m:Mm}{b:CE}{a:CE}:IHW CX G (.meth1 m b a):=by
  intro _ _ _ _ _ _ _ _ _ h;exact absurd h (by simp[ba])
theorem sW_comp(hCX:HX CX){own:List Str}{fr:List Nat}{tg:CG}{it:CI}{cond:CO}{elt:CE}:IHW CX G (.comp own fr tg it cond elt):=by
  intro _ _ _ _ _ _ _ _ _ h;exact absurd h (by simp[ba])
theorem sL_nil(hCX:HX CX):IHL CX G (.nil):=by
  intro es E sc N all X o h;rw[dZ h];exact jE
theorem sL_cons(hCX:HX CX){c:CE}{r:CL}(iE_c:IHE CX G c)(iL_r:IHL CX G r):IHL CX G (.cons c r):=by
  intro es E sc N all X o h;obtain⟨e',r',rfl,h1,h2⟩:=dk h;exact gb (iE_c _ o h1) (iL_r _ o h2) (bH h1 _ _)
theorem sP_nil(hCX:HX CX):IHP CX G (.nil):=by
  intro ks vs E sc N all X o h pos;have q:ks=[]/\vs=[]:=by
   cases ks with
   |nil=>cases vs with
    |nil=>exact⟨rfl,rfl⟩
    |cons a b=>exact absurd h (by simp[yD])
   |cons a b=>exact absurd h (by simp[yD])
  obtain⟨rfl,rfl⟩:=q;exact⟨pps_nil,rfl,rfl,fun z=>absurd rfl z⟩
theorem sP_cons(hCX:HX CX){k:CE}{v:CE}{r:CP}(iP_r:IHP CX G r)(iE_k:IHE CX G k)(iE_v:IHE CX G v):IHP CX G (.cons k v r):=by
  intro ks vs E sc N all X o h pos;unfold yD at h;split at h
  ·obtain⟨h1,h2,h3⟩:=fM h
   obtain⟨p1,p2,p3,_⟩:=iP_r _ _ o h3 pos;exact⟨EX (iE_k _ o h1) (iE_v _ o h2) p1,by simp[p2],by simp[p3],fun _=>by simp⟩
  ·cases h
theorem sO_no(hCX:HX CX):IHO CX G (.no):=by
  intro e E sc N all X o h;unfold GD at h;split at h
  ·exact po_none
  ·cases h
theorem sO_yes(hCX:HX CX){c:CE}(iE_c:IHE CX G c):IHO CX G (.yes c):=by
  intro e E sc N all X o h;unfold GD at h;split at h
  ·exact po_some (iE_c _ o h)
  ·cases h
theorem sC_no(hCX:HX CX):IHC CX G (.no):=by
  intro e E sc N all X o h;unfold chkC at h;split at h
  ·exact pts_nil
  ·cases h
theorem sC_yes(hCX:HX CX){c:CE}(iT_c:IHT CX G c):IHC CX G (.yes c):=by
  intro e E sc N all X o h;unfold chkC at h;split at h
  ·exact pts_one (iT_c _ o h)
  ·cases h
theorem sG_name(hCX:HX CX){i:Nat}:IHG CX G (.name i):=by
  intro e E sc N all X o h;unfold lS at h;split at h
  ·rename_i x p
   rw[ag,cC,beq_iff_eq,beq_iff_eq,beq_iff_eq]at h;obtain⟨h1,h2⟩:=h;refine vJ (by rw[o.names];exact o.nd) (by rw[o.names];exact h1) ?_ ?_
   ·rcases h2 with q|q
    ·exact .inl (o.loc x q)
    ·exact .inr (o.cel x q)
   ·rcases h2 with q|q
    ·exact .inr (o.loc x q)
    ·exact .inl (o.own x q)
  ·cases h
theorem sG_tup(hCX:HX CX){gs:CGs}(iGs_gs:GW CX G gs):IHG CX G (.tup gs):=by
  intro e E sc N all X o h;unfold lS at h;split at h
  ·obtain⟨a,b⟩:=qd h X.env
   exact pg_tup o.calm (iGs_gs _ o h) a b
  ·cases h
theorem sG_sub(hCX:HX CX){ob:CE}{i:CE}(iE_ob:IHE CX G ob)(iE_i:IHE CX G i):IHG CX G (.sub ob i):=by
  intro e E sc N all X o h;unfold lS at h;split at h
  ·rename_i o' i' pos
   obtain⟨h1,h2,h3⟩:=fM h;refine pg_sub (iE_ob _ o h2) (iE_i _ o h3) set_list fun v=>?_;cases i'<;>first
    |rfl
    | (exact absurd h1 (by simp[mn]))
  ·cases h
theorem sGs_nil(hCX:HX CX):GW CX G (.nil):=by
  intro es E sc N all X o h;rw[uH h];exact pgs_nil
theorem Ez(hCX:HX CX){c:CG}{r:CGs}(iG_c:IHG CX G c)(iGs_r:GW CX G r):GW CX G (.cons c r):=by
  intro es E sc N all X o h;obtain⟨e',r',rfl,h1,h2⟩:=sk h;exact EZ (iG_c _ o h1) (iGs_r _ o h2) (by rw[n8 h1];rfl)
theorem sI_seq(hCX:HX CX){c:CE}(iE_c:IHE CX G c):IHI CX G (.seq c):=by
  intro e tg E sc N all X o h;unfold wq at h;exact pi_any (iE_c _ o h)
theorem sI_lseq(hCX:HX CX){c:CE}(iE_c:IHE CX G c):IHI CX G (.lseq c):=by
  intro e tg E sc N all X o h;unfold wq at h;exact pi_list (iE_c _ o h)
theorem sI_tseq(hCX:HX CX){c:CE}(iE_c:IHE CX G c):IHI CX G (.tseq c):=by
  intro e tg E sc N all X o h;unfold wq at h;exact pi_tup (iE_c _ o h)
theorem Ca(hCX:HX CX){c:CE}(iE_c:IHE CX G c):IHI CX G (.range1 c):=by
  intro e tg E sc N all X o h;unfold wq at h;split at h
  ·obtain⟨h1,h2,h3⟩:=fM h
   rw[decide_eq_true_eq]at h1;subst h1;exact Ci (o.gl h2) (o.blt _ (by decide+kernel)) (gb (iE_c _ o h3) jE (bH h3 _ _)) (bH h3 _ _)
  ·cases h
theorem B9(hCX:HX CX){a:CE}{b:CE}(iE_a:IHE CX G a)(iE_b:IHE CX G b):IHI CX G (.range2 a b):=by
  intro e tg E sc N all X o h;unfold wq at h;split at h
  ·rw[ag]at h
   obtain⟨h,h4⟩:=h;obtain⟨h1,h2,h3⟩:=fM h;rw[decide_eq_true_eq]at h1;subst h1;exact Cg (o.gl h2) (o.blt _ (by decide+kernel)) (gb (iE_a _ o h3) (gb (iE_b _ o h4) jE (bH h4 _ _)) (bH h3 _ _)) (by rw[bH h3,bH h4];rfl) (bH h4 _ _)
  ·cases h
theorem Ey(hCX:HX CX){c:CE}(iE_c:IHE CX G c):IHI CX G (.enumt c):=by
  intro e tg E sc N all X o h;unfold wq at h;split at h
  ·rw[ag]at h
   obtain⟨h,h4⟩:=h;obtain⟨h1,h2,h3⟩:=fM h;rw[decide_eq_true_eq]at h1;subst h1;cases tg<;>first
    |exact EY (o.gl h2) (o.blt _ (by decide+kernel)) (gb (iE_c _ o h3) jE (bH h3 _ _)) (bH h3 _ _)
    | (exact absurd h4 (by simp[m7]))
  ·cases h
mutual
theorem bD(hCX:HX CX):∀c:CE,IHE CX G c
 |.var i=>sE_var hCX
 |.con c=>EC hCX
 |.glo x=>sE_glo hCX
 |.ty t=>sE_ty hCX
 |.bin op a b=>sE_bin hCX (bD hCX a) (bD hCX b)
 |.un op a=>sE_un hCX (bD hCX a)
 |.cmp op a b=>sE_cmp hCX (bD hCX a) (bD hCX b)
 |.chain o1 o2 a b c=>ED hCX (bD hCX a) (bD hCX b) (bD hCX c)
 |.not a=>sE_not hCX (bD hCX a)
 |.and a b=>sE_and hCX (bD hCX a) (bD hCX b)
 |.or a b=>sE_or hCX (bD hCX a) (bD hCX b)
 |.ite c a b=>sE_ite hCX (ie hCX c) (bD hCX a) (bD hCX b)
 |.idx a i=>sE_idx hCX (bD hCX a) (bD hCX i)
 |.cut a lo hi=>sE_cut hCX (bD hCX a) (Ek hCX lo) (Ek hCX hi)
 |.tup es=>sE_tup hCX (iY hCX es)
 |.lst es=>sE_lst hCX (iY hCX es)
 |.dic ps=>sE_dic hCX (Ej hCX ps)
 |.call f es=>sE_call hCX (iY hCX es)
 |.bfn b es=>sE_bfn hCX (iY hCX es)
 |.meth1 m b a=>EB hCX (bD hCX b) (bD hCX a)
 |.idxd a i=>sE_idxd hCX (bD hCX a) (bD hCX i)
 |.dicT=>sE_dicT hCX
 |.setd b a c=>sE_setd hCX (bD hCX b) (bD hCX a) (bD hCX c)
 |.base x es=>sE_base hCX (iY hCX es)
 |.fld a f=>sE_fld hCX (bD hCX a)
 |.sortset a=>zO hCX (bD hCX a)
 |.mak _=>sE_mak hCX
 |.mth a _ es=>sE_mth hCX (bD hCX a) (iY hCX es)
 |.fldI a _=>sE_fldI hCX (bD hCX a)
 |.comp own fr tg it cond elt=>sE_comp hCX (zF hCX it) (pf hCX tg) (El hCX cond) (bD hCX elt)
theorem ie(hCX:HX CX):∀c:CE,IHT CX G c
 |.cmp op a b=>sT_cmp hCX (bD hCX a) (bD hCX b)
 |.chain o1 o2 a b c=>Eu hCX (bD hCX a) (bD hCX b) (bD hCX c)
 |.not a=>sT_not hCX (ie hCX a)
 |.and a b=>sT_and hCX (ie hCX a) (ie hCX b) (vp hCX b)
 |.or a b=>sT_or hCX (ie hCX a) (ie hCX b) (vp hCX b)
 |.var i=>sT_var hCX
 |.con c=>sT_con hCX
 |.glo x=>sT_glo hCX
 |.idx a i=>sT_idx hCX (bD hCX a) (bD hCX i)
 |.call f es=>sT_call hCX (iY hCX es)
 |.bfn b es=>sT_bfn hCX (iY hCX es)
 |.ite c a b=>sT_ite hCX
 |.ty t=>sT_ty hCX
 |.bin op a b=>sT_bin hCX
 |.un op a=>sT_un hCX
 |.cut a lo hi=>sT_cut hCX
 |.tup es=>sT_tup hCX
 |.lst es=>sT_lst hCX
 |.dic ps=>sT_dic hCX
 |.meth1 m b a=>Et hCX
 |.idxd a i=>sT_idxd hCX
 |.dicT=>sT_dicT hCX
 |.setd b a c=>sT_setd hCX
 |.base x es=>sT_base hCX
 |.fld a f=>sT_fld hCX
 |.sortset a=>zN hCX
 |.mak _=>sT_mak hCX
 |.mth _ _ _=>sT_mth hCX
 |.fldI _ _=>sT_fldI hCX
 |.comp own fr tg it cond elt=>sT_comp hCX
theorem vp(hCX:HX CX):∀c:CE,IHW CX G c
 |.and a b=>sW_and hCX (ie hCX a) (ie hCX b) (vp hCX b)
 |.or a b=>sW_or hCX (ie hCX a) (ie hCX b) (vp hCX b)
 |.var i=>sW_var hCX
 |.con c=>sW_con hCX
 |.glo x=>sW_glo hCX
 |.ty t=>sW_ty hCX
 |.bin op a b=>sW_bin hCX
 |.un op a=>sW_un hCX
 |.cmp op a b=>sW_cmp hCX
 |.chain o1 o2 a b c=>Es hCX
 |.not a=>sW_not hCX
 |.ite c a b=>sW_ite hCX
 |.idx a i=>sW_idx hCX
 |.cut a lo hi=>sW_cut hCX
 |.tup es=>sW_tup hCX
 |.lst es=>sW_lst hCX
 |.dic ps=>sW_dic hCX
 |.call f es=>sW_call hCX
 |.bfn b es=>sW_bfn hCX
 |.meth1 m b a=>Er hCX
 |.idxd a i=>sW_idxd hCX
 |.dicT=>sW_dicT hCX
 |.setd b a c=>sW_setd hCX
 |.base x es=>sW_base hCX
 |.fld a f=>sW_fld hCX
 |.sortset a=>zM hCX
 |.mak _=>sW_mak hCX
 |.mth _ _ _=>sW_mth hCX
 |.fldI _ _=>sW_fldI hCX
 |.comp own fr tg it cond elt=>sW_comp hCX
theorem iY(hCX:HX CX):∀c:CL,IHL CX G c
 |.nil=>sL_nil hCX
 |.cons c r=>sL_cons hCX (bD hCX c) (iY hCX r)
theorem Ej(hCX:HX CX):∀c:CP,IHP CX G c
 |.nil=>sP_nil hCX
 |.cons k v r=>sP_cons hCX (Ej hCX r) (bD hCX k) (bD hCX v)
theorem Ek(hCX:HX CX):∀c:CO,IHO CX G c
 |.no=>sO_no hCX
 |.yes c=>sO_yes hCX (bD hCX c)
theorem El(hCX:HX CX):∀c:CO,IHC CX G c
 |.no=>sC_no hCX
 |.yes c=>sC_yes hCX (ie hCX c)
theorem pf(hCX:HX CX):∀c:CG,IHG CX G c
 |.name i=>sG_name hCX
 |.tup gs=>sG_tup hCX (AJ hCX gs)
 |.sub ob i=>sG_sub hCX (bD hCX ob) (bD hCX i)
theorem AJ(hCX:HX CX):∀c:CGs,GW CX G c
 |.nil=>sGs_nil hCX
 |.cons c r=>Ez hCX (pf hCX c) (AJ hCX r)
theorem zF(hCX:HX CX):∀c:CI,IHI CX G c
 |.seq c=>sI_seq hCX (bD hCX c)
 |.lseq c=>sI_lseq hCX (bD hCX c)
 |.tseq c=>sI_tseq hCX (bD hCX c)
 |.range1 c=>Ca hCX (bD hCX c)
 |.range2 a b=>B9 hCX (bD hCX a) (bD hCX b)
 |.enumt c=>Ey hCX (bD hCX c)
end
end
section
variable {CX:CXT}{G:Gam}
theorem rL{sc:Scope}{N:List Str}{all:Bool}{g:CG}{tg e:Expr}(h:lS sc N all g tg=true)(hn:(m7 tg&&m7 e)=false)(env:Env):swappedStores [tg] e env=pure none:=by
 cases tg with
 |Tuple es k p=>
  cases e<;>first
   |rfl
   | (exact absurd hn (by simp[m7]))
 |List es p=>cases g<;>exact absurd h (by simp[lS])
 |_=>rfl
theorem xF{a:Expr}{b:List Comprehension}{c:Scope}{d p:Pos}{x:Str}{l:Nat}{env:Env}(h:env.kindOf x≠some .local):kT (.ListComp a b c d) (some (.Name x p)) l env=pure false:=by
 show(pure (env.blockKind== .function&&env.kindOf x==some .local&&p.line==d.line&& !(c.names.any fun(n,k)=>n==x&&(k== .local||k== .cell))):Sem Bool)=pure false;have e:(env.kindOf x==some dH.local)=false:=by simpa using h
 rw[e,ee,cN,cN]
theorem zB{a:Expr}{b:List Comprehension}{c:Scope}{d p:Pos}{x:Str}{l:Nat}{env:Env}(hk:env.scope.kind=.function)(h:env.kindOf x=some .local)(hl:p.line=d.line)
  (hn:(c.names.any fun y=>decide (y.1=x)&&(decide (y.2=.local)||decide (y.2=.cell)))=false):kT (.ListComp a b c d) (some (.Name x p)) l env=pure true:=by
 show(pure (env.blockKind== .function&&env.kindOf x==some .local&&p.line==d.line&& !(c.names.any fun(n,k)=>n==x&&(k== .local||k== .cell))):Sem Bool)=pure true;have e1:env.blockKind=.function:=by unfold Env.blockKind;rw[hk];rfl
 have e2:(c.names.any fun(n,k)=>n==x&&(k==dH.local||k==cK))=false:=by
  rw[<-hn];congr 1
 rw[e1,h,hl,e2];simp
theorem As{sc:Scope}{N:List Str}{c:CE}{a:Expr}{b:List Comprehension}{s:Scope}{d:Pos}(h:ba sc N c (.ListComp a b s d)=true):∃own fr tg it cond elt,c=.comp own fr tg it cond elt:=by
 cases c with
 |comp own fr tg it cond elt=>exact⟨_,_,_,_,_,_,rfl⟩
 |_=>exact absurd h (by simp[ba])
theorem xZ{e:Expr}(h:m9 e=false)(tg:Expr)(l:Nat)(env:Env):GY [tg] e l env=pure false:=by
 unfold GY;exact mj h _ _ _
structure OkL(G:Gam)(sc:Scope)(N:List Str)(X:Cx):Prop where
 names:X.N=N
 nd:N.Nodup
 loc:∀x,sc.names.lookup x=some .local->X.env.scope.names.lookup x=some .local
 cel:∀x,sc.names.lookup x=some .cell->X.env.scope.names.lookup x=some .cell
 fre:∀x,sc.names.lookup x=some .free->X.env.scope.names.lookup x=some .cell\/X.env.scope.names.lookup x=some .free
 glo:∀x,sc.names.lookup x=some .globalImplicit->X.env.scope.names.lookup x=some .globalImplicit
 all:∀x,X.fn x=true
 val:∀x v,G.val x=some v->∃u,X.mg x=some u/\RelV v u
 blt:∀x∈hZ,X.mg x=none
theorem OkL.vis{sc:Scope}{N:List Str}{X:Cx}(o:OkL G sc N X){x:Str}(h:rX sc x=true):Vis X.env.scope x:=by
 unfold rX at h;rw[cC,cC,beq_iff_eq,beq_iff_eq,beq_iff_eq]at h;rcases h with(h|h) |h
 ·exact .inl (o.loc x h)
 ·exact .inr (.inl (o.cel x h))
 ·rcases o.fre x h with q|q
  ·exact .inr (.inl q)
  ·exact .inr (.inr q)
theorem OkL.gl{sc:Scope}{N:List Str}{X:Cx}(o:OkL G sc N X){x:Str}(h:j7 sc x=true):Gl X x:=by
 unfold j7 at h;rw[beq_iff_eq]at h;exact o.glo x h
theorem isi_ok{X:Cx}:eL X (.builtin "isinstance") (rBf X.K .isinstance):=qe.or oB
mutual
theorem fV:∀(c:CE)(e:Expr){E:XS}{sc:Scope}{N:List Str}{X:Cx},OkL G sc N X->i3 c=true->ba sc N c e=true->PE X e (wpE G X.K E c)
 |.var i,e,E,sc,N,X,o,l,h=>by
  unfold ba at h;split at h
  ·obtain⟨h1,h2,h3⟩:=fM h
   obtain⟨d1,d2⟩:=dY h3;skip;exact zU (by rw[o.names];exact beq_iff_eq.mp h1) (o.vis h2) d1 d2
  ·cases h
 |.con c,e,E,sc,N,X,o,l,h=>by
  unfold ba at h;split at h
  ·rw[ag,decide_eq_true_eq]at h
   obtain⟨h1,rfl⟩:=h;skip;cases c with
   |none=>exact E6
   |bool b=>exact pe_bl
   |int i=>exact Fb
   |str x=>exact E2
   |_=>exact absurd h1 (by simp[Fl])
  ·cases h
 |.glo x,e,E,sc,N,X,o,l,h=>by
  unfold ba at h;split at h
  ·obtain⟨h1,h2,h3⟩:=fM h
   rw[decide_eq_true_eq]at h1;subst h1;skip;intro pins s σ H Q I hw;obtain⟨v,hv,q⟩:=hw;obtain⟨u,hu,r⟩:=o.val _ _ hv;exact vK (o.gl h2) hu r (dY h3).1 pins s σ H Q I q
  ·cases h
 |.ty t,e,E,sc,N,X,o,l,h=>by
  unfold ba at h;split at h
  ·rw[ag,decide_eq_true_eq]at h
   obtain⟨h1,h2⟩:=h;subst h1;skip;exact A6 (o.gl h2) (o.blt _ t.mem) t.boot rfl t.plain.1 t.plain.2
  ·cases h
 |.lst es,e,E,sc,N,X,o,l,h=>by
  unfold ba at h;split at h
  ·skip
   exact E8 (lJ es _ o l h)
  ·cases h
 |.tup es,e,E,sc,N,X,o,l,h=>by
  unfold ba at h;split at h
  ·skip
   exact E1 (lJ es _ o l h)
  ·cases h
 |.bfn .isinstance es,e,E,sc,N,X,o,l,h=>by
  unfold ba at h;split at h
  ·rename_i f' np e1 es' pos
   obtain⟨h1,h2,h3⟩:=fM h;rw[decide_eq_true_eq]at h1;subst h1;skip;have hL:=lJ es _ (E:=E) o l h3;have hs:aM (e1::es') X.env=(false,eval e1 X.env)::aM es' X.env/\(backTo pos (aM es' X.env)).any (·.1)=false:=by
    cases es with
    |nil=>exact absurd (dZ h3) (by simp)
    |cons c r=>
     obtain⟨e1',r1,q,g1,g2⟩:=dk h3;cases q;exact⟨bH g1 _ _,dG g2 _ _⟩
   exact cD isi_ok (o.gl h2) (o.blt _ (Bf.mem _)) (Bf.boot .isinstance) hL (Bf.plain _).1 (Bf.plain _).2 hs.1 hs.2
  ·cases h
 |.bfn .isx es,e,E,sc,N,X,o,l,h=>by
  unfold ba at h;split at h
  ·rename_i f' np e1 es' pos
   obtain⟨h1,h2,h3⟩:=fM h;rw[decide_eq_true_eq]at h1;subst h1;skip;have hL:=lJ es _ (E:=E) o l h3;have hs:aM (e1::es') X.env=(false,eval e1 X.env)::aM es' X.env/\(backTo pos (aM es' X.env)).any (·.1)=false:=by
    cases es with
    |nil=>exact absurd (dZ h3) (by simp)
    |cons c r=>
     obtain⟨e1',r1,q,g1,g2⟩:=dk h3;cases q;exact⟨bH g1 _ _,dG g2 _ _⟩
   exact cD oA (o.gl h2) (o.blt _ (Bf.mem _)) (Bf.boot .isx) hL (Bf.plain _).1 (Bf.plain _).2 hs.1 hs.2
  ·cases h
 |.fld a f,e,E,sc,N,X,o,l,h=>by
  unfold ba at h;split at h
  ·rw[ag,decide_eq_true_eq]at h
   obtain⟨h1,h2⟩:=h;subst h1;skip;exact A5 (fV a _ o l h2)
  ·cases h
 |.bfn .len _,_,_,_,_,_,_,l,_=>nomatch l
 |.bfn .all _,_,_,_,_,_,_,l,_=>nomatch l
 |.bfn .any _,_,_,_,_,_,_,l,_=>nomatch l
 |.bfn .list _,_,_,_,_,_,_,l,_=>nomatch l
 |.bfn .tuple _,_,_,_,_,_,_,l,_=>nomatch l
 |.bfn .set _,_,_,_,_,_,_,l,_=>nomatch l
 |.bfn .min _,_,_,_,_,_,_,l,_=>nomatch l
 |.bfn .int _,_,_,_,_,_,_,l,_=>nomatch l
 |.bfn .lend _,_,_,_,_,_,_,l,_=>nomatch l
 |.bfn .sortl _,_,_,_,_,_,_,l,_=>nomatch l
 |.bfn .sortt _,_,_,_,_,_,_,l,_=>nomatch l
 |.bfn .minl _,_,_,_,_,_,_,l,_=>nomatch l
 |.bfn .maxl _,_,_,_,_,_,_,l,_=>nomatch l
 |.meth1 m a b,e,E,sc,N,X,o,l,h=>by
  have l':(i3 a&&i3 b)=true:=l;rw[ag]at l';unfold ba at h;split at h
  ·rename_i o' nm ap a' cp
   simp only[ag,decide_eq_true_eq]at h;obtain⟨⟨⟨⟨h1,h2⟩,h3⟩,h4⟩,h5⟩:=h;subst h1;skip;exact Fg xo m.slot m.ty (EL m) (fV a _ o l'.1 h4) (gb (fV b _ o l'.2 h5) jE (bH h5 _ _)) (wK h3 _ _ _) (by rw[bH h5];rfl) h2 (bH h5 _ _) rfl
  ·cases h
 |.idxd _ _,_,_,_,_,_,_,l,_=>nomatch l
 |.dicT,_,_,_,_,_,_,l,_=>nomatch l
 |.setd _ _ _,_,_,_,_,_,_,l,_=>nomatch l
 |.base _ _,_,_,_,_,_,_,l,_=>nomatch l
 |.sortset _,_,_,_,_,_,_,l,_=>nomatch l
 |.mak _,_,_,_,_,_,_,l,_=>nomatch l
 |.mth _ _ _,_,_,_,_,_,_,l,_=>nomatch l
 |.fldI _ _,_,_,_,_,_,_,l,_=>nomatch l
 |.bin op a b,e,E,sc,N,X,o,l,h=>by
  have l':(i3 a&&i3 b)=true:=l;rw[ag]at l';unfold ba at h;split at h
  ·obtain⟨h1,h2,h3⟩:=fM h
   rw[decide_eq_true_eq]at h1;subst h1;skip;exact pe_op (AY op) (fV a _ o l'.1 h2) (fV b _ o l'.2 h3)
  ·cases h
 |.un _ _,_,_,_,_,_,_,l,_=>nomatch l
 |.cmp _ _ _,_,_,_,_,_,_,l,_=>nomatch l
 |.chain _ _ _ _ _,_,_,_,_,_,_,l,_=>nomatch l
 |.not _,_,_,_,_,_,_,l,_=>nomatch l
 |.and _ _,_,_,_,_,_,_,l,_=>nomatch l
 |.or _ _,_,_,_,_,_,_,l,_=>nomatch l
 |.ite _ _ _,_,_,_,_,_,_,l,_=>nomatch l
 |.idx _ _,_,_,_,_,_,_,l,_=>nomatch l
 |.cut _ _ _,_,_,_,_,_,_,l,_=>nomatch l
 |.dic _,_,_,_,_,_,_,l,_=>nomatch l
 |.call _ _,_,_,_,_,_,_,l,_=>nomatch l
 |.comp _ _ _ _ _ _,_,_,_,_,_,_,l,_=>nomatch l
theorem lJ:∀(c:CL)(es:List Expr){E:XS}{sc:Scope}{N:List Str}{X:Cx},OkL G sc N X->p6 c=true->jJ sc N c es=true->PA X es (wpL G X.K E c)
 |.nil,es,E,sc,N,X,o,l,h=>by
  rw[dZ h];skip;exact jE
 |.cons c r,es,E,sc,N,X,o,l,h=>by
  obtain⟨e',r',rfl,h1,h2⟩:=dk h;have l':(i3 c&&p6 r)=true:=l;rw[ag]at l';skip;exact gb (fV c _ o l'.1 h1) (lJ r _ o l'.2 h2) (bH h1 _ _)
end
theorem FH(c:CE)(e:Expr){E:XS}{sc:Scope}{N:List Str}{X:Cx}(o:OkL G sc N X)(l:FI c=true)(h:ba sc N c e=true):PT X e (wpT G X.K E c):=by
 cases c with
 |bfn b es=>
  cases b with
  |isx=>
   have hE:=fV (E:=E) (.bfn .isx es) e o l h;unfold ba at h;split at h
   ·exact vG hE (fun _=>rfl)
   ·cases h
  |_=>exact nomatch l
 |_=>exact nomatch l
mutual
theorem FJ:∀(c:CS)(st:Stmt){E:XS}{sc:Scope}{N:List Str}{X:Cx},OkL G sc N X->FK c=true->iK sc N c st=true->PS X st (wpS G X.K E c)
 |.asg (.name i) e,st,E,sc,N,X,o,l1,h1=>by
  unfold iK at h1;split at h1
  ·rw[ag]at h1
   obtain⟨g1,g2,g3⟩:=fM h1.1;skip;unfold lS at g1;split at g1
   ·rename_i x p
    simp only[ag,cC,beq_iff_eq,cP]at g1;refine zS (fV e _ o l1 g2) ?_ (xZ (k6 g3) _ _ _) rfl rfl;refine vJ (by rw[o.names];exact o.nd) (by rw[o.names];exact g1.1) ?_ (.inl (o.all x));rcases g1.2 with q|q
    ·exact .inl (o.loc x q)
    ·exact .inr (o.cel x q)
   ·cases g1
  ·cases h1
 |.asg (.tup _) _,_,_,_,_,_,_,l,_=>nomatch l
 |.asg (.sub _ _) _,_,_,_,_,_,_,l,_=>nomatch l
 |.ret e,st,E,sc,N,X,o,l1,h1=>by
  unfold iK at h1;split at h1
  ·skip
   exact EU (fV e _ o l1 h1)
  ·cases h1
 |.pass,st,E,sc,N,X,o,l1,h1=>by
  unfold iK at h1;split at h1
  ·skip
   exact A2
  ·cases h1
 |.expr e,st,E,sc,N,X,o,l1,h1=>by
  unfold iK at h1;split at h1
  ·rw[ag]at h1
   skip
   exact A3 (fV e _ o l1 h1.1) (mj (k6 h1.2) _ _ _)
  ·cases h1
 |.iff c a b,st,E,sc,N,X,o,l1,h1=>by
  have l':(FI c&&(p7 a&&p7 b))=true:=l1;rw[ag,ag]at l';unfold iK at h1;split at h1
  ·obtain⟨g1,g2,g3⟩:=fM h1
   skip
   exact ps_if (FH c _ o l'.1 g1) (om a _ o l'.2.1 g2) (om b _ o l'.2.2 g3)
  ·cases h1
 |.asgc _ _,_,_,_,_,_,_,l,_=>nomatch l
 |.forr _ _ _,_,_,_,_,_,_,l,_=>nomatch l
 |.retN,_,_,_,_,_,_,l,_=>nomatch l
 |.brk,_,_,_,_,_,_,l,_=>nomatch l
 |.cont,_,_,_,_,_,_,l,_=>nomatch l
 |.rais _ _,_,_,_,_,_,_,l,_=>nomatch l
 |.raisX _ _,_,_,_,_,_,_,l,_=>nomatch l
 |.fldX _ _ _,_,_,_,_,_,_,l,_=>nomatch l
 |.fldI _ _ _,_,_,_,_,_,_,l,_=>nomatch l
 |.tryc _ _ _ _,_,_,_,_,_,_,l,_=>nomatch l
theorem om:∀(c:CB)(st:List Stmt){E:XS}{sc:Scope}{N:List Str}{X:Cx},OkL G sc N X->p7 c=true->jK sc N c st=true->PSs X st (wpB G X.K E c)
 |.hole,_,_,_,_,_,_,l,_=>nomatch l
 |.nil,st,E,sc,N,X,o,l,h=>by
  unfold jK at h;split at h
  ·skip
   exact vH
  ·cases h
 |.cons s r,st,E,sc,N,X,o,l,h=>by
  have l':(FK s&&p7 r)=true:=l;rw[ag]at l';unfold jK at h;split at h
  case h_2=>cases h
  rw[ag]at h;skip;exact nX (FJ s _ o l'.1 h.1) (om r _ o l'.2 h.2)
end
mutual
theorem Ei(hCX:HX CX):∀(c:CS)(st:Stmt){E:XS}{sc:Scope}{N:List Str}{X:Cx},Ok CX G E sc N true X->(∀pins σ H s,Inv X pins σ H s->X.env.scope.kind=.function)->iK sc N c st=true->PS X st (wpS G X.K E c)
 |.asg g e,st,E,sc,N,X,o,hk,h=>by
  unfold iK at h;split at h
  ·rw[ag]at h
   obtain⟨h,h4⟩:=h;obtain⟨h1,h2,h3⟩:=fM h;skip;exact zS (bD hCX e _ o h2) (pf hCX g _ o h1) (mj (k6 h3) _ _ _) (rL h1 (k6 h4) _) (by rw[n8 h1];rfl)
  ·cases h
 |.asgc i e,st,E,sc,N,X,o,hk,h=>by
  unfold iK at h;split at h
  ·rename_i x p a b c d sp
   simp only[ag,cC,beq_iff_eq,decide_eq_true_eq]at h;obtain⟨⟨⟨h1,h2⟩,h3⟩,h4⟩:=h;skip;obtain⟨own,fr,tg,it,cond,elt,rfl⟩:=As h3;by_cases hl:X.env.scope.names.lookup x=some .local
   ·have h4':p.line=d.line/\(!(c.names.any fun y=>decide (y.1=x)&&(decide (y.2=.local)||decide (y.2=.cell))))=true:=by
     rcases h4 with q|q
     ·rw[o.cel x q]at hl;cases hl
     ·exact q
    unfold ba at h3;split at h3
    ·rename_i elt' tg' it' ifs' sc' pos heq
     cases heq;simp only[ag]at h3;obtain⟨⟨⟨⟨⟨g1,g2⟩,g3⟩,g4⟩,g5⟩,g6⟩:=h3;have S:=rn g1;skip;intro pins s σ H D I hw;exact zR (S.comp o) (S.mkOk o) o.calm (zF hCX it _ _ o g3)
      (fun C s₀ H₀ fp _=>⟨pf hCX tg _ (o.comp hCX S C s₀ H₀ fp) g4,El hCX cond _ (o.comp hCX S C s₀ H₀ fp) g5,bD hCX elt _ (o.comp hCX S C s₀ H₀ fp) g6⟩)
      (by rw[o.names];exact o.nd) (by rw[o.names];exact h1) hl (zB (hk pins σ H s I) hl h4'.1 (k6 h4'.2)) (vT (k6 g2) _) pins s σ H D I hw
    ·cases h3
   ·have hc:sc.names.lookup x=some .cell:=by
     rcases h2 with q|q
     ·exact absurd (o.loc x q) hl
     ·exact q
    exact ps_set (by rw[o.names];exact o.nd) (by rw[o.names];exact h1) (.inr (o.cel x hc)) (bD hCX _ _ o h3) (xF (by rw[show X.env.kindOf x=_ from o.cel x hc];decide)) (.inl (o.all rfl x))
  ·cases h
 |.expr e,st,E,sc,N,X,o,hk,h=>by
  unfold iK at h;split at h
  ·rw[ag]at h
   skip
   exact A3 (bD hCX e _ o h.1) (mj (k6 h.2) _ _ _)
  ·cases h
 |.iff c a b,st,E,sc,N,X,o,hk,h=>by
  unfold iK at h;split at h
  ·obtain⟨h1,h2,h3⟩:=fM h
   skip
   exact ps_if (ie hCX c _ o h1) (m4 hCX a _ o hk h2) (m4 hCX b _ o hk h3)
  ·cases h
 |.forr g it b,st,E,sc,N,X,o,hk,h=>by
  unfold iK at h;split at h
  ·rw[ag]at h
   obtain⟨h,h4⟩:=h;obtain⟨h1,h2,h3⟩:=fM h;skip;exact ps_for o.px o.calm (zF hCX it _ _ o h2) (pf hCX g _ o h1) (m4 hCX b _ o hk h4) (vT (k6 h3) _)
  ·cases h
 |.ret e,st,E,sc,N,X,o,hk,h=>by
  unfold iK at h;split at h
  ·skip
   exact EU (bD hCX e _ o h)
  ·cases h
 |.retN,st,E,sc,N,X,o,hk,h=>by
  unfold iK at h;split at h
  ·skip
   exact ps_retN
  ·cases h
 |.rais x es,st,E,sc,N,X,o,hk,h=>by
  unfold iK at h;split at h
  ·rename_i x' np e' es' cp p
   rw[ag]at h;obtain⟨h,h4⟩:=h;obtain⟨h1,h2,h3⟩:=fM h;rw[decide_eq_true_eq]at h1;subst h1;skip;intro pins s σ H D I hw;obtain⟨C,hv,hkp,hq,hw⟩:=hw;obtain⟨u,hu,ru⟩:=o.val _ _ hv;obtain rfl:u=aX C:=ru;have hL:=iY hCX es _ o h4;have hs:aM (e'::es') X.env=(false,eval e' X.env)::aM es' X.env/\(backTo cp (aM es' X.env)).any (·.1)=false:=by
    cases es with
    |nil=>exact absurd (dZ h4) (by simp)
    |cons c r=>
     obtain⟨e1',r1,q,g1,g2⟩:=dk h4;cases q;exact⟨bH g1 _ _,dG g2 _ _⟩
   exact EV (o.gl h2) hu hkp hq hL o.calm (dY h3).1 hs.1 hs.2 o.made pins s σ H D I hw
  ·cases h
 |.raisX x es,st,E,sc,N,X,o,hk,h=>by
  unfold iK at h;split at h
  ·rename_i x' np e' es' cp p
   rw[ag]at h;obtain⟨h,h4⟩:=h;obtain⟨h1,h2,h3⟩:=fM h;rw[decide_eq_true_eq]at h1;subst h1;skip;intro pins s σ H D I hw;obtain⟨C,sp,dvs,hv,hw⟩:=hw;obtain⟨f,fd,ps,ds,k,hM,F,hr,hu,hb,hd⟩:=o.ini _ _ _ _ _ hv;have hL:=iY hCX es _ o h4;have hs:aM (e'::es') X.env=(false,eval e' X.env)::aM es' X.env/\(backTo cp (aM es' X.env)).any (·.1)=false:=by
    cases es with
    |nil=>exact absurd (dZ h4) (by simp)
    |cons c r=>
     obtain⟨e1',r1,q,g1,g2⟩:=dk h4;cases q;exact⟨bH g1 _ _,dG g2 _ _⟩
   exact Ce hM F hr hb hd o.pass (o.gl h2) hu hL o.calm (dY h3).1 hs.1 hs.2 o.madeX pins s σ H D I hw
  ·cases h
 |.fldX a f e,st,E,sc,N,X,o,hk,h=>by
  unfold iK at h;split at h
  ·simp only[ag,decide_eq_true_eq]at h
   obtain⟨⟨⟨h1,h2⟩,h3⟩,h4⟩:=h;subst h1;skip;exact ps_fldX (bD hCX a _ o h2) (bD hCX e _ o h3) (mj (k6 h4) _ _ _)
  ·cases h
 |.fldI a f e,st,E,sc,N,X,o,hk,h=>by
  unfold iK at h;split at h
  ·simp only[ag,decide_eq_true_eq]at h
   obtain⟨⟨⟨h1,h2⟩,h3⟩,h4⟩:=h;subst h1;exact ps_fld (bD hCX a _ o h2) (bD hCX e _ o h3) (mj (k6 h4) _ _ _)
  ·cases h
 |.tryc x i b su,st,E,sc,N,X,o,hk,h=>by
  unfold iK at h;split at h
  ·rename_i b' x' np n s0 ss hp p
   simp only[ag,decide_eq_true_eq,beq_iff_eq]at h;obtain⟨⟨⟨⟨⟨⟨⟨h1,h2⟩,h3⟩,h4⟩,h5⟩,h6⟩,h7⟩,h8⟩:=h;subst h1;skip;obtain⟨t1,t2,t3⟩:=o.top rfl;intro pins s σ H D I hw;obtain⟨C,hv,hw⟩:=hw;obtain⟨u,hu,ru⟩:=o.val _ _ hv;obtain rfl:u=aX C:=ru;have O:yU X x n C i (s0::ss) (wpB G X.K N0 su):=
    {nd:=by rw[o.names];exact o.nd,at_:=by rw[o.names];exact h4,loc:=o.loc n h5,gl:=o.gl h2,mg:=hu,db:=(dY h3).1,stk:=t1,fr:=t2,ex:=t3
     su:=fun pins a=>om su _ (X:=X.re (X.A.mark (some (.ref a))) false (X.pn++pins) (fun _ _=>False)) ⟨o.names,o.nd,o.loc,o.cel,o.fre,o.glo,o.all rfl,o.val,o.blt⟩ h6 h7}
   exact ps_try (X:=X) (tb:=fun D=>wpB G X.K (pE X.K C i (wpB G X.K N0 su) D) b) (fun pins D ok=>m4 hCX b _ (X:=X.re X.A X.calm (X.pn++pins) (iW X pins D [.ExceptHandler (some (.Name x np)) (some n) (s0::ss) hp]))
    {names:=o.names,top:=fun _=>⟨t1,t2,t3⟩,nd:=o.nd,loc:=o.loc,cel:=o.cel,fre:=o.fre,glo:=o.glo,all:=o.all,own:=o.own,calm:=o.calm,hu:=o.hu,val:=o.val,fn:=o.fn,ini:=o.ini,dic:=o.dic,mak:=o.mak,mth:=o.mth,blt:=o.blt,px:=PassesOwn.looking
     pass:=fun pins' σ' H' s' e s'' J z=>DX O ok o.calm J (by rw[o.cx]at z;exact z)
     made:=fun pins' σ' H' s' a c args h' J hm z=>DY O ok J hm z
     madeX:=fun pins' σ' H' s' a C' d J m z=>BU O ok J m z
     cx:=o.cx} (fun _ _ _ _ J=>J.ok.kind) h8) pins s σ H D I hw
  ·cases h
 |.pass,st,E,sc,N,X,o,hk,h=>by
  unfold iK at h;split at h
  ·skip
   exact A2
  ·cases h
 |.brk,st,E,sc,N,X,o,hk,h=>by
  unfold iK at h;split at h
  ·skip
   exact EW
  ·cases h
 |.cont,st,E,sc,N,X,o,hk,h=>by
  unfold iK at h;split at h
  ·skip
   exact xM
  ·cases h
theorem m4(hCX:HX CX):∀(c:CB)(st:List Stmt){E:XS}{sc:Scope}{N:List Str}{X:Cx},Ok CX G E sc N true X->(∀pins σ H s,Inv X pins σ H s->X.env.scope.kind=.function)->jK sc N c st=true->PSs X st (wpB G X.K E c)
 |.hole,_,_,_,_,_,_,_,_=>fun _ _ _ _ _ _ z=>z.elim
 |.nil,st,E,sc,N,X,o,hk,h=>by
  unfold jK at h;split at h
  ·skip
   exact vH
  ·cases h
 |.cons s r,st,E,sc,N,X,o,hk,h=>by
  unfold jK at h;split at h
  ·rw[ag]at h
   skip
   exact nX (Ei hCX s _ o hk h.1) (m4 hCX r _ o hk h.2)
  ·cases h
end
end
structure GOk(P:Program)(w:World)(K:ae)(mg:Str->Option Value)(base:Heap)(CX:CXT)(k:Nat)(G:Gam):Prop where
 val:∀x v,G.val x=some v->∃u,mg x=some u/\RelV v u
 fn:∀x n sp dvs,G.fn x n=some (sp,dvs)->∃f fd ps ds j,j<=k/\fX P w K mg base CX j f fd ps sp/\mg x=some (.ref f)/\bA K (.ref f)=true/\Binds K fd ps ds/\bM dvs ds
 ini:∀x n C sp dvs,G.ini x n=some (C,sp,dvs)->∃f fd ps ds j,j+1<=k/\MkX K C f/\fX P w K mg base CX j f fd ps sp/\mg x=some (.ref C)/\Binds K fd ps ds/\bM dvs ds
 dic:∀a kvs,G.dic a=some kvs->DkIn P w K a kvs
 mak:∀x n C sp dvs,G.mak x n=some (C,sp,dvs)->∃f fd ps ds j,j+1<=k/\Mk K C f/\fX P w K mg base CX j f fd ps sp/\mg x=some (.ref C)/\Binds K fd ps ds/\bM dvs ds
 mth:∀m n C sp dvs,G.mth m n=some (C,sp,dvs)->∃f fd ps ds j,j<=k/\Cls K C/\Dt K C m f/\fX P w K mg base CX j f fd ps sp/\Binds K fd ps ds/\bM dvs ds
 blt:∀x∈hZ,mg x=none
noncomputable def jZ(N ps:List Str)(sc:Scope):Bool:=
 decide (sc.kind=.function)&&decide (sc.isCoroutine=false)&&decide (sc.isGenerator=false)&&decide N.Nodup&&decide (N.take ps.length=ps)&&
 ps.all (fun x=>sc.names.lookup x==some .local||sc.names.lookup x==some .cell)&&sc.names.all (fun y=>decide (y.2≠.free))
theorem xV{N ps:List Str}{sc:Scope}(h:jZ N ps sc=true):wQ N ps sc:=by
 unfold jZ at h;simp only[ag,bc,decide_eq_true_eq,beq_iff_eq,cC]at h;obtain⟨⟨⟨⟨⟨⟨h1,h2⟩,h3⟩,h4⟩,h5⟩,h6⟩,h7⟩:=h;exact⟨h1,h2,h3,h4,h5,h6,h7⟩
section
variable {P:Program}{w:World}{K:ae}{mg:Str->Option Value}{base:Heap}
theorem yv{x qual:Str}{st:Stmt}{f:Addr}{oc dV kV doc pm cdv ct:Value}{od an:Option Addr}{osl:Array (Option Value)}{N ps:List Str}{k:Nat}{G:Gam}{sp:Sp}{code:CB}(lk:K.lookup f=some ⟨oc,od,.func (aC x qual (bu st) (aU st) (aG st) dV kV doc pm an cdv ct),osl⟩)(hcd:cJ K cdv qual=true)(hd:jZ N ps (aG st)=true)(hc:jK (aG st) N code (aU st)=true)
  (g:GOk P w K mg base (CXx P w) k G)(len:∀vs H Q E,sp vs H Q E->vs.length=ps.length)
  (h:∀vs H Q E,sp vs H Q E->wpB G K (fun _=>E) code {nx:=fun _ H'=>Q .non H',rt:=Q} (start N vs) H):fX P w K mg base (CXx P w) (k+1) f (aC x qual (bu st) (aU st) (aG st) dV kV doc pm an cdv ct) ps sp:=by
 have S:=xV hd;refine fn_of lk hcd S len fun A outer s H vs Q E hr hsp=>?_;have o:Ok (CXx P w) G (fun _=>E) (aG st) N true (tF (CXx P w) P w K mg base N qual (aG st) f cdv A outer s H E):=
  {names:=rfl,top:=fun _=>⟨rfl,rfl,rfl⟩,nd:=S.nd,loc:=fun _ z=>z,cel:=fun _ z=>z,fre:=fun y z=>absurd rfl (S.nofree _ (bq z)),glo:=fun _ z=>z,all:=fun _ _=>rfl,own:=fun _ _=>rfl,calm:=rfl,
   hu:=by have :=hr.units;show _+50<cLine;exact ki (Nat.add_le_add_left (by decide) _) this
   val:=g.val
   fn:=fun y n sp' dvs e=>by
    obtain⟨f',fd',ps',ds',j,hj,F',hm,hk,hb,hv⟩:=g.fn y n sp' dvs e;exact⟨f',fd',ps',ds',j,F',hr.mono hj,hm,hk,hb,hv⟩
   ini:=fun y n C sp' dvs e=>by
    obtain⟨f',fd',ps',ds',j,hj,M,F',hm,hb,hv⟩:=g.ini y n C sp' dvs e;exact⟨f',fd',ps',ds',j,M,F',hr.mono hj,hm,hb,hv⟩
   dic:=g.dic
   mak:=fun y n C sp' dvs e=>by
    obtain⟨f',fd',ps',ds',j,hj,M,F',hm,hb,hv⟩:=g.mak y n C sp' dvs e;exact⟨f',fd',ps',ds',j,M,F',hr.mono hj,hm,hb,hv⟩
   mth:=fun y n C sp' dvs e=>by
    obtain⟨f',fd',ps',ds',j,hj,c,M,F',hb,hv⟩:=g.mth y n C sp' dvs e;exact⟨f',fd',ps',ds',j,c,M,F',hr.mono hj,hb,hv⟩
   blt:=g.blt,px:=BI,pass:=uS,made:=uT,madeX:=sE,cx:=rfl}
 exact⟨_,m4 (fun _ _ _ _ _ z=>C6 z) code _ o (fun _ _ _ _ _=>S.kind) hc,h vs H Q E hsp⟩
theorem ou{x qual:Str}{st:Stmt}{f:Addr}{fd:dI}{N ps:List Str}{k:Nat}{G:Gam}{sp:Sp}{code:CB}(F:Fun K x qual st f fd)(hd:jZ N ps (aG st)=true)(hc:jK (aG st) N code (aU st)=true)
  (g:GOk P w K mg base (CXx P w) k G)(len:∀vs H Q E,sp vs H Q E->vs.length=ps.length)
  (h:∀vs H Q E,sp vs H Q E->wpB G K (fun _=>E) code {nx:=fun _ H'=>Q .non H',rt:=Q} (start N vs) H):fX P w K mg base (CXx P w) (k+1) f fd ps sp:=by
 obtain⟨oc,od,kV,doc,pm,an,cdv,ct,osl,rfl,lk,hcd⟩:=F.ex;exact yv lk hcd hd hc g len h
end
noncomputable def gam(vals:List (Str×V))(fns:List ((Str×Nat)×(Sp×List V)))(inis:List ((Str×Nat)×(Addr×Sp×List V)):=[]) (dics:List (Addr×List (Key×V)):=[]) (maks mths:List ((Str×Nat)×(Addr×Sp×List V)):=[]):Gam:=⟨fun x=>vals.lookup x,fun x n=>fns.lookup (x,n),fun x n=>inis.lookup (x,n),fun a=>dics.lookup a,fun x n=>maks.lookup (x,n),fun m n=>mths.lookup (m,n)⟩
theorem yb{β:Type}{a:Addr}{b:β}:∀{l:List (Addr×β)},l.lookup a=some b->(a,b)∈l
 | [],h=>nomatch h
 | (k,v)::l,h=>by
  rw[aT]at h;cases q:(a==k)with
  |true=>
   rw[q]at h;cases h;rw[beq_iff_eq.mp q];exact aH
  |false=>
   rw[q]at h;exact aJ _ (yb h)
section
variable {P:Program}{w:World}{K:ae}{mg:Str->Option Value}{base:Heap}{CX:CXT}
theorem GOk.start{vals:List (Str×V)}(hv:∀x v,(x,v)∈vals->∃u,mg x=some u/\RelV v u)(hb:∀x∈hZ,mg x=none){dics:List (Addr×List (Key×V))}(hd:∀a kvs,(a,kvs)∈dics->DkIn P w K a kvs:=by intro a kvs h;exact nomatch h):GOk P w K mg base CX 0 (gam vals [] [] dics):=
 ⟨fun x v e=>hv x v (bq e),fun x n sp dvs e=>(nomatch e),fun x n C sp dvs e=>(nomatch e),fun a kvs e=>hd a kvs (yb (show cg a dics=some kvs from e)),fun x n C sp dvs e=>(nomatch e),fun x n C sp dvs e=>(nomatch e),hb⟩
theorem GOk.add{k n:Nat}{vals:List (Str×V)}{fns:List ((Str×Nat)×(Sp×List V))}{x:Str}{f:Addr}{fd:dI}{ps:List Str}{sp:Sp}{ds:List Value}{dvs:List V}{inis maks mths:List ((Str×Nat)×(Addr×Sp×List V))}{dics:List (Addr×List (Key×V))}(g:GOk P w K mg base CX k (gam vals fns inis dics maks mths))
  (F:fX P w K mg base CX (k+1) f fd ps sp)(hm:mg x=some (.ref f))(hk:bA K (.ref f)=true)(hb:Binds K fd ps ds)(hd:bM dvs ds):GOk P w K mg base CX (k+1) (gam vals (((x,n),(sp,dvs))::fns) inis dics maks mths):=by
 refine⟨g.val,fun y m sp' dvs' e=>?_,fun y m C sp' dvs' e=>?_,g.dic,fun y m C sp' dvs' e=>?_,fun y m C sp' dvs' e=>?_,g.blt⟩
 rotate_left
 rotate_left
 ·obtain⟨f',fd',ps',ds',j,hj,r⟩:=g.mak y m C sp' dvs' e
  exact⟨f',fd',ps',ds',j,cG hj,r⟩
 ·obtain⟨f',fd',ps',ds',j,hj,r⟩:=g.mth y m C sp' dvs' e
  exact⟨f',fd',ps',ds',j,cG hj,r⟩
 rotate_left
 ·obtain⟨f',fd',ps',ds',j,hj,r⟩:=g.ini y m C sp' dvs' e
  exact⟨f',fd',ps',ds',j,cG hj,r⟩
 have e':cg (y,m) (((x,n),(sp,dvs))::fns)=some (sp',dvs'):=e;rw[aT]at e';cases q:((y,m)==(x,n))with
 |true=>
  rw[q]at e';have e2:(y,m)=(x,n):=eq_of_beq q;cases e2;cases e';exact⟨f,fd,ps,ds,k+1,aw _,F,hm,hk,hb,hd⟩
 |false=>
  rw[q]at e';obtain⟨f',fd',ps',ds',j,hj,r⟩:=g.fn y m sp' dvs' e';exact⟨f',fd',ps',ds',j,cG hj,r⟩
theorem GOk.addI{k n:Nat}{vals:List (Str×V)}{fns:List ((Str×Nat)×(Sp×List V))}{x:Str}{C f:Addr}{fd:dI}{ps:List Str}{sp:Sp}{ds:List Value}{dvs:List V}{inis maks mths:List ((Str×Nat)×(Addr×Sp×List V))}{dics:List (Addr×List (Key×V))}(g:GOk P w K mg base CX k (gam vals fns inis dics maks mths))
  (M:MkX K C f)(F:fX P w K mg base CX (k+1) f fd ps sp)(hm:mg x=some (.ref C))(hb:Binds K fd ps ds)(hd:bM dvs ds):GOk P w K mg base CX (k+2) (gam vals fns (((x,n),(C,sp,dvs))::inis) dics maks mths):=by
 refine⟨g.val,fun y m sp' dvs' e=>?_,fun y m C' sp' dvs' e=>?_,g.dic,fun y m C sp' dvs' e=>(by
  obtain⟨f',fd',ps',ds',j,hj,r⟩:=g.mak y m C sp' dvs' e;exact⟨f',fd',ps',ds',j,aF hj (by omega),r⟩),fun y m C sp' dvs' e=>(by
  obtain⟨f',fd',ps',ds',j,hj,r⟩:=g.mth y m C sp' dvs' e;exact⟨f',fd',ps',ds',j,aF hj (by omega),r⟩),g.blt⟩
 ·obtain⟨f',fd',ps',ds',j,hj,r⟩:=g.fn y m sp' dvs' e
  exact⟨f',fd',ps',ds',j,aF hj (by omega),r⟩
 have e':cg (y,m) (((x,n),(C,sp,dvs))::inis)=some (C',sp',dvs'):=e;rw[aT]at e';cases q:((y,m)==(x,n))with
 |true=>
  rw[q]at e';have e2:(y,m)=(x,n):=eq_of_beq q;cases e2;cases e';exact⟨f,fd,ps,ds,k+1,aw _,M,F,hm,hb,hd⟩
 |false=>
  rw[q]at e';obtain⟨f',fd',ps',ds',j,hj,r⟩:=g.ini y m C' sp' dvs' e';exact⟨f',fd',ps',ds',j,aF hj (by omega),r⟩
theorem GOk.addC{k n:Nat}{vals:List (Str×V)}{fns:List ((Str×Nat)×(Sp×List V))}{x:Str}{C f:Addr}{fd:dI}{ps:List Str}{sp:Sp}{ds:List Value}{dvs:List V}{inis maks mths:List ((Str×Nat)×(Addr×Sp×List V))}{dics:List (Addr×List (Key×V))}(g:GOk P w K mg base CX k (gam vals fns inis dics maks mths))
  (M:Mk K C f)(F:fX P w K mg base CX (k+1) f fd ps sp)(hm:mg x=some (.ref C))(hb:Binds K fd ps ds)(hd:bM dvs ds):GOk P w K mg base CX (k+2) (gam vals fns inis dics (((x,n),(C,sp,dvs))::maks) mths):=by
 refine⟨g.val,fun y m sp' dvs' e=>(by
  obtain⟨f',fd',ps',ds',j,hj,r⟩:=g.fn y m sp' dvs' e;exact⟨f',fd',ps',ds',j,aF hj (by omega),r⟩),fun y m C sp' dvs' e=>(by
  obtain⟨f',fd',ps',ds',j,hj,r⟩:=g.ini y m C sp' dvs' e;exact⟨f',fd',ps',ds',j,aF hj (by omega),r⟩),g.dic,fun y m C' sp' dvs' e=>?_,fun y m C sp' dvs' e=>(by
  obtain⟨f',fd',ps',ds',j,hj,r⟩:=g.mth y m C sp' dvs' e;exact⟨f',fd',ps',ds',j,aF hj (by omega),r⟩),g.blt⟩
 have e':cg (y,m) (((x,n),(C,sp,dvs))::maks)=some (C',sp',dvs'):=e;rw[aT]at e';cases q:((y,m)==(x,n))with
 |true=>
  rw[q]at e';have e2:(y,m)=(x,n):=eq_of_beq q;cases e2;cases e';exact⟨f,fd,ps,ds,k+1,aw _,M,F,hm,hb,hd⟩
 |false=>
  rw[q]at e';obtain⟨f',fd',ps',ds',j,hj,r⟩:=g.mak y m C' sp' dvs' e';exact⟨f',fd',ps',ds',j,aF hj (by omega),r⟩
theorem GOk.addO{k n:Nat}{vals:List (Str×V)}{fns:List ((Str×Nat)×(Sp×List V))}{x:Str}{C f:Addr}{fd:dI}{ps:List Str}{sp:Sp}{ds:List Value}{dvs:List V}{inis maks mths:List ((Str×Nat)×(Addr×Sp×List V))}{dics:List (Addr×List (Key×V))}(g:GOk P w K mg base CX k (gam vals fns inis dics maks mths))
  (c:Cls K C)(M:Dt K C x f)(F:fX P w K mg base CX (k+1) f fd ps sp)(hb:Binds K fd ps ds)(hd:bM dvs ds):GOk P w K mg base CX (k+1) (gam vals fns inis dics maks (((x,n),(C,sp,dvs))::mths)):=by
 refine⟨g.val,fun y m sp' dvs' e=>(by
  obtain⟨f',fd',ps',ds',j,hj,r⟩:=g.fn y m sp' dvs' e;exact⟨f',fd',ps',ds',j,cG hj,r⟩),fun y m C sp' dvs' e=>(by
  obtain⟨f',fd',ps',ds',j,hj,r⟩:=g.ini y m C sp' dvs' e;exact⟨f',fd',ps',ds',j,cG hj,r⟩),g.dic,fun y m C sp' dvs' e=>(by
  obtain⟨f',fd',ps',ds',j,hj,r⟩:=g.mak y m C sp' dvs' e;exact⟨f',fd',ps',ds',j,cG hj,r⟩),fun y m C' sp' dvs' e=>?_,g.blt⟩
 have e':cg (y,m) (((x,n),(C,sp,dvs))::mths)=some (C',sp',dvs'):=e;rw[aT]at e';cases q:((y,m)==(x,n))with
 |true=>
  rw[q]at e';have e2:(y,m)=(x,n):=eq_of_beq q;cases e2;cases e';exact⟨f,fd,ps,ds,k+1,aw _,c,M,F,hb,hd⟩
 |false=>
  rw[q]at e';obtain⟨f',fd',ps',ds',j,hj,r⟩:=g.mth y m C' sp' dvs' e';exact⟨f',fd',ps',ds',j,cG hj,r⟩
end
section
variable {K:ae}{H:Hp}{Q:VK}{i j:Int}
theorem Az:kZ K .Add (.int i) (.int j) H Q↔Q (.int (i+j)) H:=by
 simp[kZ,rI0,rCat,AW,AX]
theorem sub_ii:kZ K .Sub (.int i) (.int j) H Q↔Q (.int (i-j)) H:=by simp[kZ,rI0]
theorem Fy:kZ K .Mult (.int i) (.int j) H Q↔Du i j/\Q (.int (i*j)) H:=by simp[kZ,rI,rRep,EK]
theorem Fz:kZ K .Mod (.int i) (.int j) H Q↔0<j/\Q (.int (i%j)) H:=by simp[kZ,rI]
theorem div_ii:kZ K .FloorDiv (.int i) (.int j) H Q↔CDiv i j/\Q (.int (i/j)) H:=by simp[kZ,rI]
theorem add_ss{x y:Str}:kZ K .Add (.str x) (.str y) H Q↔x.length+y.length<=sizeLine/\Q (.str (x++y)) H:=by simp[kZ,rI0,rCat,AW,AX]
theorem lt_ii:gp K .Lt (.int i) (.int j) H Q↔Q (.bl (decide (i<j))) H:=by simp[gp,rI0]
theorem FO:gp K .LtE (.int i) (.int j) H Q↔Q (.bl (decide (i<=j))) H:=by simp[gp,rI0]
theorem Gc:gp K .Gt (.int i) (.int j) H Q↔Q (.bl (decide (j<i))) H:=by simp[gp,rI0]
theorem AS{d:D}:Rep K H d (.int i)↔d=.int i:=by
 cases d<;>simp[Rep,eq_comm]
theorem AR{d:D}{x:Str}:Rep K H d (.str x)↔d=.str x:=by
 cases d<;>simp[Rep,eq_comm]
theorem uD:gp K .Eq (.int i) (.int j) H Q↔Q (.bl (decide (i=j))) H:=by
 simp only[gp,rEqD,AS];constructor
 ·rintro⟨_,_,rfl,rfl,_,q⟩;exact q
 ·intro q;exact⟨_,_,rfl,rfl,bp _,q⟩
theorem Fs:gp K .NotEq (.int i) (.int j) H Q↔Q (.bl (!decide (i=j))) H:=by
 simp only[gp,rNeD,AS];constructor
 ·rintro⟨_,_,rfl,rfl,_,q⟩;exact q
 ·intro q;exact⟨_,_,rfl,rfl,bp _,q⟩
theorem eq_ss{x y:Str}:gp K .Eq (.str x) (.str y) H Q↔Q (.bl (decide (x=y))) H:=by
 simp only[gp,rEqD,AR];constructor
 ·rintro⟨_,_,rfl,rfl,_,q⟩
  simpa[eqD,iA]using q
 ·intro q
  exact⟨_,_,rfl,rfl,bp _,by simpa[eqD,iA]using q⟩
theorem ne_ss{x y:Str}:gp K .NotEq (.str x) (.str y) H Q↔Q (.bl (!decide (x=y))) H:=by
 simp only[gp,rNeD,AR];constructor
 ·rintro⟨_,_,rfl,rfl,_,q⟩
  simpa[eqD,iA]using q
 ·intro q
  exact⟨_,_,rfl,rfl,bp _,by simpa[eqD,iA]using q⟩
theorem isnot_n{x:V}:gp K .IsNot x .non H Q↔Q (.bl (!decide (x=.non))) H:=by simp[gp]
theorem len_s{z:Str}:rBf K .len [.str z] H Q↔z.length<=sizeLine/\Q (.int z.length) H:=by simp[rBf]
theorem idx_s{z:Str}:rIx K (.str z) (.int i) H Q↔∃c,z.length<=sizeLine/\atI z.cps.toList i=some c/\Q (.str ⟨#[c]⟩) H:=by
 simp[rIx,rIxL,rIxT,rIxS]
end
structure sI(J:It)(n:Nat)(it:Nat->V->Hp->Prop)(Hc:Hp->Prop):Prop where
 go:∀i H,Hc H->i<n->J.go i H
 stop:∀i H,Hc H->n<=i->J.stop i H
 yld:∀i H x H',Hc H->i<n->J.yld i H x H'->it i x H'/\aS H H'
section
variable {K:ae}
theorem fv{a:Addr}{xs:List V}:sI (Itl K a) xs.length (fun i x _=>xs[i]? =some x) (fun H=>SqL K H a xs) where
 go:=fun i H h hi=>⟨xs,xs[i],h,by simp[hi]⟩
 stop:=fun i H h hi=>⟨xs,h,hi⟩
 yld:=fun i H x H' h hi y=>by
  obtain⟨e,y⟩:=y;subst e;exact⟨y xs h,aS.refl _⟩
theorem AO{a:Addr}{xs:List V}:sI (Itt K a) xs.length (fun i x _=>xs[i]? =some x) (fun H=>SqT K H a xs) where
 go:=fun i H h hi=>⟨xs,xs[i],h,by simp[hi]⟩
 stop:=fun i H h hi=>⟨xs,h,hi⟩
 yld:=fun i H x H' h hi y=>by
  obtain⟨e,y⟩:=y;subst e;exact⟨y xs h,aS.refl _⟩
theorem gy{lo:Int}{n:Nat}:sI (Itr lo n) n (fun i x _=>x=.int (lo+i)) (fun _=>True) where
 go:=fun i H _ hi=>hi
 stop:=fun i H _ hi=>hi
 yld:=fun i H x H' _ hi y=>by
  obtain⟨e,y⟩:=y;subst e;exact⟨y,aS.refl _⟩
theorem seq_str{z:Str}:sI (Its z) z.length (fun i x _=>∃c,z.cps[i]? =some c/\x=.str ⟨#[c]⟩) (fun _=>True) where
 go:=fun i H _ hi=>hi
 stop:=fun i H _ hi=>hi
 yld:=fun i H x H' _ hi y=>by
  obtain⟨e,y⟩:=y;subst e;exact⟨y,aS.refl _⟩
theorem az{H:Hp}{p:Addr}{o:HO}(h:H p=none):aS H (upd H p o):=fun b u e=>by rw[aN (bG e h)];exact e
noncomputable def ForB(J:It)(g:TG)(tb:TS)(D:Ends)(σ:L2.St)(H:Hp):Prop:=∃W:Nat->Nat->L2.St->Hp->Prop,(∃m,W 0 m σ H)/\∀i m σ H,W i m σ H->
 (J.stop i H/\D.nx σ H)\/(J.go i H/\∃N:L2.St->Hp->Prop,(∀σ' H',N σ' H'->∃m',m'<m/\W (i+1) m' σ' H')/\∀x H',J.yld i H x H'->g x σ H' fun σ2 H2=>tb {D with nx:=N,ct:=N,bk:=D.nx} σ2 H2)
noncomputable def BB(J:It)(g:TG)(tc:TT)(te:TE)(τ0:L2.St)(H1:Hp)(Q:VK):Prop:=∃W:Nat->Nat->L2.St->List V->Hp->Prop,(∃m,W 0 m τ0 [] H1)/\
 ∀i m τ acc H2,W i m τ acc H2->(J.stop i H2/\∀l,H2 l=none->Q (.ref l) (upd H2 l (.lst acc)))\/(J.go i H2/\∃N:L2.St->List V->Hp->Prop,(∀τ' acc' H',N τ' acc' H'->∃m',m'<m/\W (i+1) m' τ' acc' H')/\
  ∀x H3,J.yld i H2 x H3->g x τ H3 fun τ4 H4=>tc τ4 H4 fun b H5=>if b=true then te τ4 H5 fun v H6=>acc.length<sizeLine/\N τ4 (acc++[v]) H6 else N τ4 acc H5)
theorem Bq{J:It}{n:Nat}{it:Nat->V->Hp->Prop}{Hc:Hp->Prop}{g:TG}{tb:TS}{D:Ends}{σ:L2.St}{H:Hp}(S:sI J n it Hc)(Pv:Nat->L2.St->Hp->Prop)(h0:Pv 0 σ H)(hl:∀i σ H,i<=n->Pv i σ H->Hc H)
  (hs:∀i x σ H H',i<n->Pv i σ H->it i x H'->aS H H'->g x σ H' fun σ2 H2=>tb {D with nx:=Pv (i+1),ct:=Pv (i+1),bk:=D.nx} σ2 H2) (hd:∀σ H,Pv n σ H->D.nx σ H):
  ForB J g tb D σ H:=by
 refine⟨fun i m σ H=>m=n-i/\i<=n/\Pv i σ H,⟨n,by simp,bp _,h0⟩,?_⟩;rintro i m σ H ⟨rfl,hi,p⟩;have q:=hl i σ H hi p;by_cases hlt:i<n
 ·refine .inr ⟨S.go i H q hlt,Pv (i+1),fun σ' H' p'=>⟨n-(i+1),by omega,rfl,hlt,p'⟩,fun x H' y=>?_⟩
  obtain⟨y1,y2⟩:=S.yld i H x H' q hlt y;exact hs i x σ H H' hlt p y1 y2
 ·have e:i=n:=by omega
  subst e;exact .inl ⟨S.stop i H q (aw _),hd σ H p⟩
theorem fC{J:It}{n:Nat}{it:Nat->V->Hp->Prop}{Hc:Hp->Prop}{g:TG}{te:TE}{Q:VK}{τ0:L2.St}{H1:Hp}(S:sI J n it Hc)(hn:n<=sizeLine)(hc:∀H,aS H1 H->Hc H)
  (F:Nat->V->Hp->Prop)(Fm:∀i v H H',aS H H'->F i v H->F i v H')(T:L2.St->Prop)(hT:T τ0)
  (step:∀i x τ H3 (R:L2.St->V->Hp->Prop),i<n->T τ->aS H1 H3->it i x H3->(∀τ' v H6,T τ'->aS H3 H6->F i v H6->R τ' v H6)->g x τ H3 fun τ4 H4=>te τ4 H4 (R τ4))
  (fin:∀vs H2 l,vs.length=n->(∀(i:Nat) v,vs[i]? =some v->F i v H2)->aS H1 H2->H2 l=none->Q (.ref l) (upd H2 l (.lst vs))):
  BB J g tYes te τ0 H1 Q:=by
 refine⟨fun i m τ acc H2=>m=n-i/\i<=n/\T τ/\acc.length=i/\aS H1 H2/\∀(k:Nat) v,acc[k]? =some v->F k v H2,⟨n,by simp,bp _,hT,rfl,aS.refl _,fun k v e=>by simp at e⟩,?_⟩;rintro i m τ acc H2 ⟨rfl,hi,ht,hl,sm,hF⟩;have q:=hc H2 sm;by_cases hlt:i<n
 ·refine .inr ⟨S.go i H2 q hlt,fun τ' acc' H'=>T τ'/\acc'.length=i+1/\aS H1 H'/\∀(k:Nat) v,acc'[k]? =some v->F k v H',fun τ' acc' H' ⟨a,b,c,d⟩=>⟨n-(i+1),by omega,rfl,hlt,a,b,c,d⟩,fun x H3 y=>?_⟩
  obtain⟨y1,y2⟩:=S.yld i H2 x H3 q hlt y;refine step i x τ H3 (fun τ' v H6=>acc.length<sizeLine/\T τ'/\(acc++[v]).length=i+1/\aS H1 H6/\∀(k:Nat) v',(acc++[v])[k]? =some v'->F k v' H6) hlt ht (sm.trans y2) y1 fun τ' v H6 ht' s6 f6=>⟨by omega,ht',by simp[hl],(sm.trans y2).trans s6,fun k v' e=>?_⟩;by_cases hk:k<acc.length
  ·rw[km hk]at e
   exact Fm k v' H2 H6 (y2.trans s6) (hF k v' e)
  ·rw[fR (by omega)]at e
   have hk0:k-acc.length=0:=by
    have :=(aY.mp e).1
    simp at this;omega
   rw[hk0]at e;have hk':k=i:=by omega
   simp at e;subst e;rw[hk'];exact f6
 ·have e:i=n:=by omega
  subst e;exact .inl ⟨S.stop i H2 q (aw _),fun l hl'=>fin acc H2 l hl hF sm hl'⟩
theorem fc{wi:TI}{g:TG}{tc:TT}{te:TE}{mk:L2.St->L2.St}{σ:L2.St}{H:Hp}{Q:VK}(h:wi σ H fun J H1=>BB J g tc te (mk σ) H1 Q):tQ wi g tc te mk σ H Q:=h
theorem lM{wi:TI}{g:TG}{tb:TS}{D:Ends}{σ:L2.St}{H:Hp}(h:wi σ H fun J H1=>ForB J g tb D σ H1):tFor wi g tb D σ H:=h
theorem yR{i:Nat}{z:Str}{σ:L2.St}{H:Hp}{R:It->Hp->Prop}(hv:σ[i]? =some (some (.str z)))(h:R (Its z) H):CY K (iF i) σ H R:=⟨_,hv,.inr (.inr ⟨z,rfl,h⟩)⟩
theorem dP{i:Nat}{a:Addr}{xs:List V}{σ:L2.St}{H:Hp}{R:It->Hp->Prop}(hv:σ[i]? =some (some (.ref a)))(hq:SqL K H a xs)(h:R (Itl K a) H):CY K (iF i) σ H R:=⟨_,hv,.inl ⟨a,rfl,⟨xs,hq⟩,h⟩⟩
theorem yQ{i:Nat}{a:Addr}{xs:List V}{σ:L2.St}{H:Hp}{R:It->Hp->Prop}(hv:σ[i]? =some (some (.ref a)))(hq:SqT K H a xs)(h:R (Itt K a) H):CY K (iF i) σ H R:=⟨_,hv,.inr (.inl ⟨a,rfl,⟨xs,hq⟩,h⟩)⟩
theorem bool_list{vs:List V}{n:Nat}{b:Nat->Bool}(hl:vs.length=n)(h:∀(i:Nat) v,vs[i]? =some v->v=.bl (b i)):vs=((aI n).map b).map V.bl:=by
 apply cE
 ·simp[hl]
 ·intro i h1 h2
  have :=h i vs[i] (by simp[h1])
  simp[this]
theorem sG{α:Type}(l:List α)(d:α)(f:α->Bool):((aI l.length).map fun i=>f (l.getD i d)).all id=l.all f:=by
 rw[List.all_map,jd];simp only[bc,cw,Function.comp,id];constructor
 ·intro h c hc
  obtain⟨i,hi,rfl⟩:=fQ.mp hc;have :=h i hi;rw[aj,ah hi]at this;exact this
 ·intro h i hi
  have :=h _ (bQ hi)
  rw[aj,ah hi];exact this
theorem getD_some{α:Type}{l:List α}{i:Nat}{d x:α}(h:l[i]? =some x):l.getD i d=x:=by
 rw[aj,h];rfl
theorem Ae(x y:Str):(x++y).length=x.length+y.length:=by
 show(x.cps++y.cps).size=_;rw[Array.size_append];rfl
end
noncomputable def HasFn(K:ae)(x:Str)(st:Stmt):Prop:=∃(f:Addr)(oc:Value)(od an:Option Addr)(osl:Array (Option Value))(kV doc pm cdv ct:Value),b9 K bh x=some (some (.ref f))/\
 K.lookup f=some ⟨oc,od,.func (aC x x (bu st) (aU st) (aG st) .none kV doc pm an cdv ct),osl⟩/\cJ K cdv x=true/\bA K (.ref f)=true
theorem Gb{K:ae}{x:Str}{st:Stmt}{f:Addr}{oc:Value}{od an:Option Addr}{osl:Array (Option Value)}{kV doc pm cdv ct:Value}(a:b9 K bh x=some (some (.ref f)))
  (l:K.lookup f=some ⟨oc,od,.func (aC x x (bu st) (aU st) (aG st) .none kV doc pm an cdv ct),osl⟩)(c:cJ K cdv x=true)(k:bA K (.ref f)=true):HasFn K x st:=
 ⟨f,oc,od,an,osl,kV,doc,pm,cdv,ct,a,l,c,k⟩
structure Def(K:ae)(mg:Str->Option Value)(x:Str)(st:Stmt):Prop where
 ex:∃f fd,Fun K x x st f fd/\mg x=some (.ref f)
theorem HasFn.def{K:ae}{h:Heap}{mg:Str->Option Value}{x:Str}{st:Stmt}(X:K.In h)(Gm:h.Ns bh mg)(H:HasFn K x st):Def K mg x st:=by
 obtain⟨f,oc,od,an,osl,kV,doc,pm,cdv,ct,a,l,c,k⟩:=H;exact⟨f,_,pB l c k,bZ X Gm a⟩
section
variable {P:Program}{w:World}{K:ae}{mg:Str->Option Value}{base:Heap}
theorem eB{k:Nat}{vals:List (Str×V)}{fns:List ((Str×Nat)×(Sp×List V))}{x:Str}{st:Stmt}{N ps:List Str}{sp:Sp}{code:CB}{inis maks mths:List ((Str×Nat)×(Addr×Sp×List V))}{dics:List (Addr×List (Key×V))}(g:GOk P w K mg base (CXx P w) k (gam vals fns inis dics maks mths))(d:Def K mg x st)
  (hc:(jZ N ps (aG st)&&jK (aG st) N code (aU st))=true)
  (hb:∀(kV doc pm:Value)(an:Option Addr)(cdv ct:Value)(us:List Value),us.length=ps.length->iR (aC x x (bu st) (aU st) (aG st) .none kV doc pm an cdv ct) ⟨us,[]⟩=pure (ps.zip us))
  (len:∀vs H Q E,sp vs H Q E->vs.length=ps.length)
  (h:∀vs H Q E,sp vs H Q E->wpB (gam vals fns inis dics maks mths) K (fun _=>E) code {nx:=fun _ H'=>Q .non H',rt:=Q} (L2.start N vs) H):GOk P w K mg base (CXx P w) (k+1) (gam vals (((x,ps.length),(sp,[]))::fns) inis dics maks mths):=by
 rw[ag]at hc;obtain⟨f,fd,F,hm⟩:=d.ex;exact g.add (n:=ps.length) (ou F hc.1 hc.2 g len h) hm F.kp (F.binds hb) .nil
end
end R
set_option hygiene false in
local macro_rules | `(tactic| walk_at "wp") => `(tactic| simp only [_root_.R.wpB, _root_.R.wpS, _root_.R.wpE, _root_.R.wpT, _root_.R.wpL, _root_.R.wpO, _root_.R.wpC, _root_.R.wpG, _root_.R.wpGs, _root_.R.wpI, _root_.L2.td, _root_.L2.tRet, _root_.L2.D5, _root_.L2.xD, _root_.L2.vg, _root_.L2.D9, _root_.L2.tIfS, _root_.L2.Ed, _root_.L2.tOrV, _root_.L2.D7, _root_.L2.tNot, _root_.L2.tAnd, _root_.L2.tOr, _root_.L2.xB, _root_.R.xA, _root_.L2.tIf, _root_.L2.tCB, _root_.L2.iB, _root_.L2.iG, _root_.L2.iF, _root_.L2.tC, _root_.L2.tOp, _root_.L2.tUn, _root_.L2.qW, _root_.L2.tTup, _root_.L2.tLst, _root_.L2.xE, _root_.L2.tBM, _root_.L2.tBM0, _root_.L2.tSl, _root_.L2.D6, _root_.L2.ve, _root_.R.cv, _root_.L2.lL, _root_.L2.gSub, _root_.L2.gTup, _root_.L2.Gf, _root_.L2.gNil, _root_.R.CGs.len, _root_.L2.F8, _root_.L2.F7, _root_.L2.F9, _root_.L2.iTup, _root_.L2.iEnum, _root_.List.getElem?_cons_zero, _root_.List.getElem?_cons_succ, _root_.Option.some.injEq, _root_.exists_eq_left', _root_.exists_eq_left, _root_.L2.V.bl.injEq, _root_.L2.V.int.injEq, _root_.L2.V.str.injEq, _root_.List.set_cons_zero, _root_.List.set_cons_succ, _root_.R.CL.len, _root_.R.Ty.t, _root_.R.Az, _root_.R.sub_ii, _root_.R.Fy, _root_.R.Fz, _root_.R.div_ii, _root_.R.add_ss, _root_.R.lt_ii, _root_.R.FO, _root_.R.Gc, _root_.R.uD, _root_.R.Fs, _root_.R.eq_ss, _root_.R.ne_ss, _root_.R.isnot_n, _root_.R.len_s, _root_.R.idx_s, _root_.List.append_nil, _root_.R.md, _root_.List.map_cons, _root_.List.map_nil, _root_.List.nil_append, _root_.List.cons_append])
namespace Cp
open PySem R
noncomputable def zW:List Str:=["thing"]
noncomputable def rM:List Str:=["thing"]
noncomputable def sx:CB:=
  (.cons (.ret (.and (.bfn .isinstance (.cons (.var 0) (.cons (.ty .int) .nil))) (.not (.bfn .isinstance (.cons (.var 0) (.cons (.ty .bool) .nil))))))
  .nil)
noncomputable def Cm:List Str:=["thing"]
noncomputable def uo:List Str:=["thing"]
noncomputable def uI:CB:=
  (.cons (.iff (.not (.bfn .isinstance (.cons (.var 0) (.cons (.ty .str) .nil))))
  (.cons (.ret (.con (.bool false)))
  .nil)
  .nil)
  (.cons (.iff (.not (.chain .LtE .LtE (.con (.int 1)) (.bfn .len (.cons (.var 0) .nil)) (.glo "LONGEST_NAME")))
  (.cons (.ret (.con (.bool false)))
  .nil)
  .nil)
  (.cons (.ret (.bfn .all (.cons (.comp ["sign"] [] (.name 0) (.seq (.var 0)) .no (.cmp .In (.var 0) (.glo "LETTERS"))) .nil)))
  .nil)))
noncomputable def vN:List Str:=["thing"]
noncomputable def oh:List Str:=["thing"]
noncomputable def oG:CB:=
  (.cons (.ret (.and (.call "is_whole" (.cons (.var 0) .nil)) (.cmp .In (.var 0) (.tup (.cons (.con (.int 0)) (.cons (.con (.int 1)) .nil))))))
  .nil)
noncomputable def rH:List Str:=["thing"]
noncomputable def lD:List Str:=["thing"]
noncomputable def l8:CB:=
  (.cons (.iff (.or (.not (.bfn .isinstance (.cons (.var 0) (.cons (.ty .tuple) .nil)))) (.cmp .Gt (.bfn .len (.cons (.var 0) .nil)) (.glo "MOST_PLACES")))
  (.cons (.ret (.con (.bool false)))
  .nil)
  .nil)
  (.cons (.ret (.bfn .all (.cons (.comp ["part"] [] (.name 0) (.seq (.var 0)) .no (.call "is_reading" (.cons (.var 0) .nil))) .nil)))
  .nil))
end Cp
set_option maxHeartbeats 1000000
namespace Cp
open PySem PySem.Spec PyProof.Rows L2 R
noncomputable def fW:Option HO->String
 |some (.lst _)=>"list"
 |some (.frz _ (.lst _))=>"list"
 |some (.tup _)=>"tuple"
 |some (.dK _)=>"dict"
 |some (.dT _)=>"dict"
 |_=>"?"
noncomputable def tyName(H:Hp):V->String
 |.non=>"NoneType"
 |.bl _=>"bool"
 |.int _=>"int"
 |.str _=>"str"
 |.ref a=>fW (H a)
 |_=>"?"
noncomputable def Known(H:Hp)(x:V):Prop:=tyName H x≠"?"
theorem Known.same{H H':Hp}{x:V}(h:Known H x)(s:aS H H'):Known H' x/\tyName H' x=tyName H x:=by
 cases x with
 |ref a=>
  have h':fW (H a)≠"?":=h;show fW (H' a)≠"?"/\fW (H' a)=fW (H a);cases e:H a with
  |none=>rw[e]at h';exact absurd rfl h'
  |some o=>rw[s a o e];rw[e]at h';exact⟨h',rfl⟩
 |_=>exact⟨h,rfl⟩
theorem Known.ty{K:ae}{H:Hp}{x:V}(h:Known H x):k9 K H x (.type (tyName H x)):=by
 cases x with
 |non=>exact .non
 |bl b=>exact .bl b
 |int i=>exact .int i
 |str s=>exact .str s
 |ref a=>
  have h':fW (H a)≠"?":=h;show k9 K H (.ref a) (.type (fW (H a)));cases e:H a with
  |none=>rw[e]at h';exact absurd rfl h'
  |some o=>
   rw[e]at h';cases o with
   |lst xs=>exact .lst e
   |tup xs=>exact .tup e
   |dK kvs=>exact .dK e
   |dT kvs=>exact .dT e
   |frz ob u=>
    cases u with
    |lst xs=>exact .frz e
    |_=>exact absurd rfl h'
   |_=>exact absurd rfl h'
 |_=>exact absurd rfl h
theorem Known.mem{H:Hp}{x:V}(h:Known H x):tyName H x∈["NoneType","bool","int","str","list","tuple","dict"]:=by
 cases x with
 |ref a=>
  have h':fW (H a)≠"?":=h;show fW (H a)∈_;cases e:H a with
  |none=>rw[e]at h';exact absurd rfl h'
  |some o=>
   rw[e]at h';cases o with
   |lst xs=>simp[fW]
   |tup xs=>simp[fW]
   |dK kvs=>simp[fW]
   |dT kvs=>simp[fW]
   |frz ob u=>
    cases u with
    |lst xs=>simp[fW]
    |_=>exact absurd rfl h'
   |_=>exact absurd rfl h'
 |_=>first
  |exact absurd rfl h
  |simp[tyName]
noncomputable def jq(a b:String):Bool:=a==b||(a=="bool"&&b=="int")
theorem kit_ty(K:ae):∀(a:String)(t:Ty),a∈["NoneType","bool","int","str","list","tuple","dict"]->cA K (.type a) (.type t.t)=some (jq a t.t):=by
 intro a t h;simp only[aA,bP,or_false]at h;rcases h with rfl|rfl|rfl|rfl|rfl|rfl|rfl<;>cases t<;>rfl
theorem isi{K:ae}{H:Hp}{x:V}{Q:VK}(h:Known H x)(t:Ty)(q:Q (.bl (jq (tyName H x) t.t)) H):rBf K .isinstance [x,.ty t.t] H Q:=
 .inl ⟨x,t.t,_,_,rfl,h.ty,kit_ty K _ t h.mem,q⟩
theorem gW{H:Hp}{i:Int}:Known H (.int i):=by show "int"≠"?";decide
theorem FR{H:Hp}{i:Bool}:Known H (.bl i):=by show "bool"≠"?";decide
theorem FQ{H:Hp}:Known H .non:=by show "NoneType"≠"?";decide
theorem kA{H:Hp}{x:Str}:Known H (.str x):=by show "str"≠"?";decide
theorem jG{H:Hp}{a:Addr}{xs:List V}(h:H a=some (.tup xs)):Known H (.ref a):=by show fW (H a)≠"?";rw[h];show "tuple"≠"?";decide
theorem wc{H:Hp}{a:Addr}{xs:List V}(h:H a=some (.lst xs)):Known H (.ref a):=by show fW (H a)≠"?";rw[h];show "list"≠"?";decide
theorem kn_dK{H:Hp}{a:Addr}{xs:List (Key×V)}(h:H a=some (.dK xs)):Known H (.ref a):=by show fW (H a)≠"?";rw[h];show "dict"≠"?";decide
theorem rp{H H1:Hp}{l:Addr}{o:HO}(s:aS H H1)(h:H l=none):aS H (upd H1 l o):=fun b u e=>by rw[aN (bG e h)];exact s b u e
noncomputable def isWhole:V->Bool
 |.int _=>true
 |_=>false
noncomputable def aR:V->Bool
 |.int i=>i==0||i==1
 |_=>false
noncomputable def spB(f:V->Bool):Sp:=fun vs H Q _=>∃x,vs=[x]/\Known H x/\∀H',aS H H'->Q (.bl (f x)) H'
theorem sub_int{H:Hp}{x:V}(h:Known H x):(jq (tyName H x) "int"&& !jq (tyName H x) "bool")=isWhole x:=by
 cases x with
 |ref a=>
  have h':fW (H a)≠"?":=h;show(jq (fW (H a)) "int"&& !jq (fW (H a)) "bool")=false;unfold fW;split <;>rfl
 |_=>rfl
theorem xu{G:Gam}{K:ae}:Sat G K (spB isWhole) sx rM:=by
 rintro vs H Q E ⟨x,rfl,hk,q⟩;unfold sx;change wpB G K _ _ _ [some x] H;walk_at "wp";refine isi hk .int ⟨_,rfl,?_⟩;have e:=sub_int hk;cases h1:jq (tyName H x) "int" with
 |false=>
  rw[h1,cN]at e;have q1:=q H (aS.refl H);rw[<-e]at q1;simpa[Ty.t,h1]using q1
 |true=>
  rw[h1,cP]at e;have q1:=q H (aS.refl H);rw[<-e]at q1;simp only[Ty.t,h1,if_true];exact isi hk .bool ⟨_,rfl,q1⟩
theorem sY{G:Gam}{K:ae}(g1:G.fn "is_whole" 1=some (spB isWhole,[])):
  Sat G K (spB aR) oG oh:=by
 rintro vs H Q E ⟨x,rfl,hk,q⟩;unfold oG;change wpB G K _ _ _ [some x] H;walk_at "wp";refine⟨_,_,g1,x,rfl,hk,fun H1 s1=>⟨_,rfl,?_⟩⟩;cases x with
 |int i=>
  refine⟨by decide,fun p hp=>.inr ⟨p,_,rfl,.inr (SqT.of aq),rfl,rfl,?_⟩⟩;have q1:=q _ (s1.trans (az (o:=.tup [.int 0,.int 1]) hp));have e:(if false=true then !inV (.int i) [.int 0,.int 1]else inV (.int i) [.int 0,.int 1])=aR (.int i):=by
   show((0:Int)==i||((1:Int)==i||false))=(i==0||i==1);rw[Bool.or_false,Bool.beq_comm,Bool.beq_comm (a:=(1:Int))]
  rw[e];exact q1
 |_=>exact q H1 s1
noncomputable def ku(c:Nat):Bool:=decide (97<=c/\c<=122)
noncomputable def cY(z:Str):Bool:=decide (1<=z.length/\z.length<=8)&&z.cps.toList.all ku
noncomputable def isName:V->Bool
 |.str z=>cY z
 |_=>false
noncomputable def LETTERS:Str:="abcdefghijklmnopqrstuvwxyz"
theorem yg(c:Nat):decide (c∈LETTERS.cps.toList)=ku c:=by
 unfold ku;rw[show LETTERS.cps.toList=List.range' 97 26 by decide+kernel,decide_eq_decide,List.mem_range'_1];exact⟨fun h=>⟨h.1,Nat.le_of_lt_succ h.2⟩,fun h=>⟨h.1,Nat.lt_succ_of_le h.2⟩⟩
theorem Am{K:ae}{H:Hp}{c:Nat}{Q:VK}(q:Q (.bl (ku c)) H):gp K .In (.str ⟨#[c]⟩) (.str LETTERS) H Q:=by
 refine .inl ⟨_,_,rfl,rfl,?_⟩;rw[StrLaws.found_one,yg];exact q
theorem wb:(20000:Nat)<=sizeLine:=by decide
noncomputable def spN:Sp:=fun vs H Q _=>∃x,vs=[x]/\Known H x/\(∀z,x=.str z->z.length<=20000)/\∀H',aS H H'->Q (.bl (isName x)) H'
theorem sub_str{H:Hp}{x:V}(h:Known H x):jq (tyName H x) "str"=(match x with |.str _=>true|_=>false):=by
 cases x with
 |ref a=>
  show jq (fW (H a)) "str"=false;unfold fW;split <;>rfl
 |_=>rfl
theorem zt{G:Gam}{K:ae}(v1:G.val "LETTERS"=some (.str LETTERS))(v2:G.val "LONGEST_NAME"=some (.int 8)):
  Sat G K spN uI uo:=by
 rintro vs H Q E ⟨x,rfl,hk,hz,q⟩;unfold uI;change wpB G K _ _ _ [some x] H;walk_at "wp";refine isi hk .str ⟨_,rfl,?_⟩;rw[show Ty.t .str="str" from rfl,sub_str hk];cases x with
 |str z=>
  have hz:=hz z rfl;have hl:z.length<=sizeLine:=aF hz wb;have all:∀R:VK,(∀H',aS H H'->R (.bl (z.cps.toList.all ku)) H')->tQ (CY K (iF 0)) (lL 0) tYes (tOp (gp K .In) (iF 0) fun σ H Q=>∃v,G.val "LETTERS"=some v/\Q v H) (md ["sign"] []) [some (.str z)] H fun x H2=>rBf K .all [x] H2 R:=by
   intro R hR;refine fc (yR rfl (fC seq_str hl (fun _ _=>trivial) (fun i v _=>v=.bl (ku (z.cps.toList.getD i 0))) (fun _ _ _ _ _ h=>h) (fun τ=>∃t,τ=[t]) ⟨none,rfl⟩ ?_ ?_))
   ·rintro i x τ H3 R hi ⟨t,rfl⟩ s3 ⟨c,hc,rfl⟩ k
    refine⟨_,rfl,_,v1,Am (k _ _ _ ⟨_,rfl⟩ (aS.refl _) ?_)⟩;have :z.cps.toList[i]? =some c:=by simpa using hc
    rw[aj,this];rfl
   ·intro vs H2 l hvl hF s2 hl2
    have e:=bool_list hvl hF;subst e;refine⟨l,_,rfl,SqL.of aq,?_⟩;have e2:((aI z.length).map fun i=>ku (z.cps.toList.getD i 0)).all id=z.cps.toList.all ku:=by
     have :=sG z.cps.toList 0 ku
     rw[show z.cps.toList.length=z.length by simp[y9]]at this;exact this
    rw[e2];exact hR _ (s2.trans (az hl2))
  simp only[d4,aL,if_false,v2,bx,exists_eq_left',exists_eq_left,V.bl.injEq,V.int.injEq,FO,len_s,hl,true_and];have q':∀H',aS H H'->Q (.bl (cY z)) H':=q;unfold cY at q';by_cases h1:1<=z.length
  ·by_cases h2:z.length<=8
   ·have e1:decide ((1:Int)<=z.length)=true:=decide_eq_true (by omega)
    have e2:decide ((z.length:Int)<=8)=true:=decide_eq_true (by omega);rw[decide_eq_true (And.intro h1 h2),cP]at q';simp only[e1,e2,if_true,d4,aL,if_false];exact all Q q'
   ·have e1:decide ((1:Int)<=z.length)=true:=decide_eq_true (by omega)
    have e2:decide ((z.length:Int)<=8)=false:=decide_eq_false (by omega);rw[decide_eq_false (fun h=>h2 h.2),cN]at q';simp only[e1,e2,if_true,Bool.not_false];exact q' H (aS.refl H)
  ·have e1:decide ((1:Int)<=z.length)=false:=decide_eq_false (by omega)
   rw[decide_eq_false (fun h=>h1 h.1),cN]at q';simp only[e1,aL,if_false,Bool.not_false,if_true];exact q' H (aS.refl H)
 |_=>exact q H (aS.refl H)
noncomputable def cj:Option HO->Option (List V)
 |some (.tup xs)=>some xs
 |_=>none
theorem i4{o:Option HO}{xs:List V}(h:cj o=some xs):o=some (.tup xs):=by
 unfold cj at h;split at h
 ·cases h;rfl
 ·cases h
theorem tR(o:Option HO):jq (fW o) "tuple"=(cj o).isSome:=by
 unfold fW;split <;>first
  |rfl
  |skip
 unfold cj;split <;>simp_all
 rfl
noncomputable def bE(H:Hp):V->Bool
 |.ref a=>match cj (H a)with
  |some xs=>decide (xs.length<=60)&&xs.all aR
  |none=>false
 |_=>false
noncomputable def spR:Sp:=fun vs H Q _=>∃x,vs=[x]/\Known H x/\(∀a xs,x=.ref a->H a=some (.tup xs)->xs.length<=20000/\∀y∈xs,Known H y)/\∀H',aS H H'->Q (.bl (bE H x)) H'
theorem qr{G:Gam}{K:ae}(g1:G.fn "is_reading" 1=some (spB aR,[]))(v1:G.val "MOST_PLACES"=some (.int 60)):
  Sat G K spR l8 lD:=by
 rintro vs H Q E ⟨x,rfl,hk,hx,q⟩;unfold l8;change wpB G K _ _ _ [some x] H;walk_at "wp";refine isi hk .tuple ⟨_,rfl,?_⟩;rw[show Ty.t .tuple="tuple" from rfl];cases x with
 |ref a=>
  show if(!jq (fW (H a)) "tuple")=true then _ else _
  rw[tR];have q0:∀H',aS H H'->Q (.bl (match cj (H a)with |some xs=>decide (xs.length<=60)&&xs.all aR|none=>false)) H':=q;cases e0:cj (H a)with
  |none=>
   rw[e0]at q0;exact q0 H (aS.refl H)
  |some xs=>
    rw[e0]at q0;have e:=i4 e0;have q':∀H',aS H H'->Q (.bl (decide (xs.length<=60)&&xs.all aR)) H':=q0;obtain⟨hl,hy⟩:=hx a xs rfl e;have hl':xs.length<=sizeLine:=aF hl wb;simp only[eX,d4,aL,if_false];refine Or.inl ⟨a,xs,rfl,.inr (SqT.of e),_,v1,?_⟩;rw[Gc];refine⟨_,rfl,?_⟩;by_cases hle:xs.length<=60
    ·rw[decide_eq_true hle,cP]at q'
     have e1:decide ((60:Int)<xs.length)=false:=decide_eq_false (by omega);rw[e1];simp only[aL,if_false];refine fc (yQ rfl (SqT.of e) (fC AO hl' (fun H1 s1=>s1.tup (SqT.of e)) (fun i v _=>v=.bl (aR (xs.getD i .non))) (fun _ _ _ _ _ h=>h) (fun τ=>∃t,τ=[t]) ⟨none,rfl⟩ ?_ ?_))
     ·rintro i y τ H3 R hi ⟨t,rfl⟩ s3 hy3 k
      have hym:y∈xs:=bf hy3;exact⟨_,_,g1,y,rfl,y,rfl,((hy y hym).same s3).1,fun H4 s4=>k _ _ _ ⟨_,rfl⟩ s4 (by rw[getD_some hy3])⟩
     ·intro vs H2 l hvl hF s2 hl2
      have e:=bool_list hvl hF;subst e;refine⟨l,_,rfl,SqL.of aq,?_⟩;rw[sG xs .non aR];exact q' _ (s2.trans (az hl2))
    ·rw[decide_eq_false hle,cN]at q'
     have e1:decide ((60:Int)<xs.length)=true:=decide_eq_true (by omega);rw[e1];simpa using q' H (aS.refl H)
 |_=>exact q H (aS.refl H)
end Cp
namespace Cp
open PySem R
noncomputable def Cn:List Str:=["thing"]
noncomputable def ur:List Str:=["thing"]
noncomputable def uJ:CB:=
  (.cons (.iff (.or (.not (.bfn .isinstance (.cons (.var 0) (.cons (.ty .tuple) .nil)))) (.cmp .NotEq (.bfn .len (.cons (.var 0) .nil)) (.con (.int 2))))
  (.cons (.ret (.con (.bool false)))
  .nil)
  .nil)
  (.cons (.ret (.and (.call "is_name" (.cons (.idx (.var 0) (.con (.int 0))) .nil)) (.call "are_readings" (.cons (.idx (.var 0) (.con (.int 1))) .nil))))
  .nil))
noncomputable def zX:List Str:=["thing"]
noncomputable def rN:List Str:=["thing","names","counts"]
noncomputable def sy:CB:=
  (.cons (.iff (.or (.not (.bfn .isinstance (.cons (.var 0) (.cons (.ty .list) .nil)))) (.cmp .Gt (.bfn .len (.cons (.var 0) .nil)) (.glo "MOST_COPIES")))
  (.cons (.ret (.con (.bool false)))
  .nil)
  .nil)
  (.cons (.iff (.not (.bfn .all (.cons (.comp ["part"] [] (.name 0) (.seq (.var 0)) .no (.call "is_copy" (.cons (.var 0) .nil))) .nil)))
  (.cons (.ret (.con (.bool false)))
  .nil)
  .nil)
  (.cons (.asgc 1 (.comp ["name","readings"] [] (.tup (.cons (.name 0) (.cons (.name 1) .nil))) (.seq (.var 0)) .no (.var 0)))
  (.cons (.asgc 2 (.comp ["name","readings"] [] (.tup (.cons (.name 0) (.cons (.name 1) .nil))) (.seq (.var 0)) .no (.bfn .len (.cons (.var 1) .nil))))
  (.cons (.ret (.and (.cmp .Eq (.bfn .len (.cons (.bfn .set (.cons (.var 1) .nil)) .nil)) (.bfn .len (.cons (.var 1) .nil))) (.cmp .LtE (.bfn .len (.cons (.bfn .set (.cons (.var 2) .nil)) .nil)) (.con (.int 1)))))
  .nil)))))
noncomputable def vL:List Str:=["table"]
noncomputable def oa:List Str:=["table"]
noncomputable def oE:CB:=
  (.cons (.iff (.not (.call "is_table" (.cons (.var 0) .nil)))
  (.cons (.rais "NoTable" (.cons (.con (.str "this is no table")) .nil))
  .nil)
  .nil)
  .nil)
noncomputable def tu:List Str:=["table"]
noncomputable def mJ:List Str:=["table"]
noncomputable def mS:CB:=
  (.cons (.expr (.call "need_table" (.cons (.var 0) .nil)))
  (.cons (.iff (.cmp .Eq (.bfn .len (.cons (.var 0) .nil)) (.con (.int 0)))
  (.cons (.ret (.con (.int 0)))
  .nil)
  .nil)
  (.cons (.ret (.bfn .len (.cons (.idx (.idx (.var 0) (.con (.int 0))) (.con (.int 1))) .nil)))
  .nil)))
end Cp
namespace Cp
open PySem PySem.Spec PyProof.Rows L2 R
noncomputable def Kn1(H:Hp)(x:V):Prop:=Known H x/\∀z,x=.str z->z.length<=20000
noncomputable def Kn2(H:Hp)(x:V):Prop:=Kn1 H x/\∀a xs,x=.ref a->H a=some (.tup xs)->xs.length<=20000/\∀y∈xs,Kn1 H y
noncomputable def Kn3(H:Hp)(x:V):Prop:=Kn1 H x/\∀a xs,x=.ref a->H a=some (.tup xs)->xs.length<=20000/\∀y∈xs,Kn2 H y
noncomputable def dE:Option HO->Option (List V)
 |some (.lst xs)=>some xs
 |some (.frz _ (.lst xs))=>some xs
 |_=>none
noncomputable def Kn4(H:Hp)(x:V):Prop:=Kn1 H x/\∀a xs,x=.ref a->dE (H a)=some xs->xs.length<=20000/\∀y∈xs,Kn3 H y
theorem uZ{H H':Hp}{a:Addr}{o:HO}(s:aS H H')(k:H a≠none)(h:H' a=some o):H a=some o:=by
 cases e:H a with
 |none=>exact absurd e k
 |some u=>rw[s a u e]at h;exact h
theorem Known.some{H:Hp}{a:Addr}(k:Known H (.ref a)):H a≠none:=fun e=>by
 have k':fW (H a)≠"?":=k;rw[e]at k';exact k' rfl
theorem Kn1.same{H H':Hp}{x:V}(h:Kn1 H x)(s:aS H H'):Kn1 H' x:=⟨(h.1.same s).1,h.2⟩
theorem Kn2.same{H H':Hp}{x:V}(h:Kn2 H x)(s:aS H H'):Kn2 H' x:=⟨h.1.same s,fun a xs e hx=>by
 subst e;obtain⟨l,k⟩:=h.2 a xs rfl (uZ s h.1.1.some hx);exact⟨l,fun y hy=>(k y hy).same s⟩⟩
theorem Kn3.same{H H':Hp}{x:V}(h:Kn3 H x)(s:aS H H'):Kn3 H' x:=⟨h.1.same s,fun a xs e hx=>by
 subst e;obtain⟨l,k⟩:=h.2 a xs rfl (uZ s h.1.1.some hx);exact⟨l,fun y hy=>(k y hy).same s⟩⟩
theorem u5{H H':Hp}{x:V}(h:Known H x)(s:aS H H'):bE H' x=bE H x:=by
 cases x with
 |ref a=>
  show(match cj (H' a)with |some xs=>_|none=>_)=(match cj (H a)with |some xs=>_|none=>_);cases e:H a with
  |none=>exact absurd e h.some
  |some o=>rw[s a o e]
 |_=>rfl
noncomputable def cB(H:Hp):V->Bool
 |.ref a=>match cj (H a)with
  |some [n,r]=>isName n&&bE H r
  |_=>false
 |_=>false
theorem C7{H H':Hp}{x:V}(h:Kn3 H x)(s:aS H H'):cB H' x=cB H x:=by
 cases x with
 |ref a=>
  show(match cj (H' a)with |some [n,r]=>_|_=>_)=(match cj (H a)with |some [n,r]=>_|_=>_);cases e:H a with
  |none=>exact absurd e h.1.1.some
  |some o=>
   rw[s a o e];cases o with
   |tup xs=>
    match xs with
    | []=>rfl
    | [_]=>rfl
    | [n,r]=>
     have k:=(h.2 a _ rfl e).2 r (by simp);show(isName n&&bE H' r)=(isName n&&bE H r);rw[u5 k.1.1 s]
    |_::_::_::_=>rfl
   |_=>rfl
 |_=>rfl
noncomputable def spC:Sp:=fun vs H Q _=>∃x,vs=[x]/\Kn3 H x/\∀H',aS H H'->Q (.bl (cB H x)) H'
theorem zu{G:Gam}{K:ae}(g1:G.fn "is_name" 1=some (spN,[]))(g2:G.fn "are_readings" 1=some (spR,[])):
  Sat G K spC uJ ur:=by
 rintro vs H Q E ⟨x,rfl,hk,q⟩;unfold uJ;change wpB G K _ _ _ [some x] H;walk_at "wp";refine isi hk.1.1 .tuple ⟨_,rfl,?_⟩;rw[show Ty.t .tuple="tuple" from rfl];cases x with
 |ref a=>
  show if(!jq (fW (H a)) "tuple")=true then _ else _
  rw[tR];have q0:∀H',aS H H'->Q (.bl (match cj (H a)with |some [n,r]=>isName n&&bE H r|_=>false)) H':=q;cases e0:cj (H a)with
  |none=>
   rw[e0]at q0;exact q0 H (aS.refl H)
  |some xs=>
   have e:=i4 e0;rw[e0]at q0;obtain⟨hl,hy⟩:=hk.2 a xs rfl e;simp only[eX,d4,aL,if_false];refine Or.inl ⟨a,xs,rfl,.inr (SqT.of e),?_⟩;show gp K .NotEq (.int (xs.length:Int)) (.int 2) H _;rw[Fs];refine⟨_,rfl,?_⟩
   match xs,hl,hy,e,q0 with
   | [],_,_,_,q0=>exact q0 H (aS.refl H)
   | [_],_,_,_,q0=>exact q0 H (aS.refl H)
   |_::_::_::r,_,_,_,q0=>
    rw[if_pos (by simp;omega)];exact q0 H (aS.refl H)
   | [n,r],_,hy,e,q0=>
    rw[if_neg (by simp)];have kn:=hy n (by simp);have kr:=hy r (by simp);refine⟨_,_,g1,.inr (.inl ⟨a,[n,r],0,n,rfl,rfl,SqT.of e,rfl,n,rfl,kn.1.1,kn.1.2,fun H1 s1=>⟨_,rfl,?_⟩⟩)⟩;have q1:∀H',aS H H'->Q (.bl (isName n&&bE H r)) H':=q0;cases en:isName n with
    |false=>
     rw[en,cN]at q1;rw[if_neg aB];exact q1 H1 s1
    |true=>
     rw[en,cP]at q1;rw[if_pos rfl];have kr1:=kr.same s1;refine⟨_,_,g2,.inr (.inl ⟨a,[n,r],1,r,rfl,rfl,s1.tup (SqT.of e),rfl,r,rfl,kr1.1.1,fun b ys eb hb=>?_,fun H2 s2=>?_⟩)⟩
     ·obtain⟨l,k⟩:=kr1.2 b ys eb hb
      exact⟨l,fun y hy=>(k y hy).1⟩
     ·rw[u5 kr.1.1 s1]
      exact q1 H2 (s1.trans s2)
 |_=>exact q H (aS.refl H)
theorem yd{xs vs:List V}{f:V->V}(hl:vs.length=xs.length)(h:∀(i:Nat) v,vs[i]? =some v->v=f (xs.getD i .non)):vs=xs.map f:=by
 apply cE
 ·simp[hl]
 ·intro i h1 h2
  have h3:i<xs.length:=by omega
  have :=h i vs[i] (by simp[h1])
  rw[this,cQ,aj,ah h3];rfl
theorem ug:∀(l:List Str),(l.map (eF:Str->Key)).Nodup↔l.Nodup
 | []=>by simp
 |x::l=>by
  rw[bC,cO,cO,ug l];have e:eF x∈l.map (eF:Str->Key)↔x∈l:=by
   constructor
   ·intro h
    obtain⟨y,hy,e⟩:=aV.mp h;injection e with e
    rw[<-e];exact hy
   ·exact fun h=>aV.mpr ⟨x,h,rfl⟩
  rw[e]
theorem i5{K:ae}{H:Hp}{a:Addr}{xs:List V}(h:dE (H a)=some xs):SqL K H a xs:=by
 unfold dE at h;split at h
 ·rename_i e;cases h;exact .inl (.inl e)
 ·rename_i o _ e;cases h;exact .inl (.inr ⟨o,e⟩)
 ·cases h
theorem Ee(o:Option HO):jq (fW o) "list"=(dE o).isSome:=by
 unfold fW;split <;>first
  |rfl
  |skip
 unfold dE;split <;>simp_all
 rfl
noncomputable def aK(H:Hp):V->Str
 |.ref a=>match cj (H a)with
  |some (.str z::_)=>z
  |_=>""
 |_=>""
noncomputable def bU(H:Hp):V->Nat
 |.ref a=>match cj (H a)with
  |some [_,.ref b]=>(cj (H b)).elim 0 gS
  |_=>0
 |_=>0
theorem gu{H:Hp}{x:V}(h:cB H x=true):∃a z b ys,x=.ref a/\H a=some (.tup [.str z,.ref b])/\H b=some (.tup ys)/\cY z=true/\ys.length<=60/\(∀y∈ys,aR y=true)/\aK H x=z/\bU H x=ys.length:=by
 cases x with
 |ref a=>
  have h':(match cj (H a)with |some [n,r]=>isName n&&bE H r|_=>false)=true:=h;split at h'
  ·rename_i n r e
   rw[ag]at h';obtain⟨h1,h2⟩:=h';cases n with
   |str z=>
    cases r with
    |ref b=>
     have h3:(match cj (H b)with |some xs=>decide (xs.length<=60)&&xs.all aR|none=>false)=true:=h2;split at h3
     ·rename_i ys eb
      rw[ag,decide_eq_true_eq,bc]at h3;refine⟨a,z,b,ys,rfl,i4 e,i4 eb,h1,h3.1,h3.2,?_,?_⟩
      ·show(match cj (H a)with |some (.str z::_)=>z|_=>"")=z
       rw[e]
      ·show(match cj (H a)with |some [_,.ref b]=>(cj (H b)).elim 0 gS|_=>0)=ys.length
       rw[e];show(cj (H b)).elim 0 gS=ys.length;rw[eb];rfl
     ·cases h3
    |_=>cases h2
   |_=>cases h1
  ·cases h'
 |_=>cases h
noncomputable def cL(H:Hp):V->Bool
 |.ref a=>match dE (H a)with
  |some xs=>decide (xs.length<=40)&&(xs.all (cB H)&&(decide ((xs.map (aK H)).Nodup)&&decide (∀y∈xs,∀z∈xs,bU H y=bU H z)))
  |none=>false
 |_=>false
noncomputable def spT:Sp:=fun vs H Q _=>∃x,vs=[x]/\Kn4 H x/\∀H',aS H H'->Q (.bl (cL H x)) H'
theorem xv{G:Gam}{K:ae}(g1:G.fn "is_copy" 1=some (spC,[]))(v1:G.val "MOST_COPIES"=some (.int 40)):
  Sat G K spT sy rN:=by
 rintro vs H Q E ⟨x,rfl,hk,q⟩;unfold sy;change wpB G K _ _ _ [some x,none,none] H;walk_at "wp";refine isi hk.1.1 .list ⟨_,rfl,?_⟩;rw[show Ty.t .list="list" from rfl];cases x with
 |ref a=>
  show if(!jq (fW (H a)) "list")=true then _ else _
  rw[Ee];have q0:∀H',aS H H'->Q (.bl (match dE (H a)with |some xs=>decide (xs.length<=40)&&(xs.all (cB H)&&(decide ((xs.map (aK H)).Nodup)&&decide (∀y∈xs,∀z∈xs,bU H y=bU H z))) |none=>false)) H':=q;cases e0:dE (H a)with
  |none=>
   rw[e0]at q0;exact q0 H (aS.refl H)
  |some xs=>
   rw[e0]at q0;obtain⟨hl,hy⟩:=hk.2 a xs rfl e0;have hl':xs.length<=sizeLine:=aF hl wb;simp only[eX,d4,aL,if_false];refine Or.inl ⟨a,xs,rfl,.inl (i5 e0),_,v1,?_⟩;rw[Gc];refine⟨_,rfl,?_⟩;by_cases hle:xs.length<=40
   ·rw[decide_eq_false (by omega:¬(40:Int)<xs.length),if_neg aB]
    have qq:∀H',aS H H'->Q (.bl (xs.all (cB H)&&(decide ((xs.map (aK H)).Nodup)&&decide (∀y∈xs,∀z∈xs,bU H y=bU H z)))) H':=fun H' s'=>by
     have z:Q (.bl (decide (xs.length<=40)&&(xs.all (cB H)&&(decide ((xs.map (aK H)).Nodup)&&decide (∀y∈xs,∀z∈xs,bU H y=bU H z))))) H':=q0 H' s';rw[decide_eq_true hle,cP]at z;exact z
    have sq:∀{H1:Hp},aS H H1->SqL K H1 a xs:=fun s1=>s1.seq (i5 e0);refine fc (dP rfl (i5 e0) (fC fv hl' (fun H1 s1=>sq s1) (fun i v _=>v=.bl (cB H (xs.getD i .non))) (fun _ _ _ _ _ h=>h) (fun τ=>∃t,τ=[t]) ⟨none,rfl⟩ ?_ ?_))
    ·rintro i y τ H3 R hi ⟨t,rfl⟩ s3 hy3 k
     have ky:=hy y (bf hy3);exact⟨_,_,g1,y,rfl,y,rfl,ky.same s3,fun H4 s4=>k _ _ _ ⟨_,rfl⟩ s4 (by rw[getD_some hy3,C7 ky s3])⟩
    intro vs H2 l hvl hF s2 hl2;have e:=bool_list hvl hF;subst e;refine⟨l,_,rfl,SqL.of aq,_,rfl,?_⟩;rw[sG xs .non (cB H)];have s3:aS H (upd H2 l (.lst (((aI xs.length).map fun i=>cB H (xs.getD i .non)).map V.bl))):=s2.trans (az hl2);generalize upd H2 l (.lst (((aI xs.length).map fun i=>cB H (xs.getD i .non)).map V.bl))=H3 at s3;cases ea:xs.all (cB H)with
    |false=>
     rw[ea,cN]at qq;rw[if_pos (by rfl)];exact qq H3 s3
    |true=>
     rw[ea,cP]at qq;rw[if_neg (by simp)];rw[bc]at ea;have sh:∀{i:Nat}{y:V},xs[i]? =some y->∃a z b ys,y=.ref a/\H a=some (.tup [.str z,.ref b])/\H b=some (.tup ys)/\aK H y=z/\bU H y=ys.length:=fun hy3=>by
      obtain⟨a,z,b,ys,h1,h2,h3,_,_,_,h7,h8⟩:=gu (ea _ (bf hy3));exact⟨a,z,b,ys,h1,h2,h3,h7,h8⟩
     refine fc (dP rfl (sq s3) (fC fv hl' (fun H1 s1=>sq (s3.trans s1)) (fun i v _=>v=.str (aK H (xs.getD i .non))) (fun _ _ _ _ _ h=>h) (fun τ=>∃t u,τ=[t,u]) ⟨none,none,rfl⟩ ?_ ?_))
     ·rintro i y τ H4 R hi ⟨t,u,rfl⟩ s4 hy3 k
      obtain⟨b,z,c,ys,rfl,h1,h2,h3,h4⟩:=sh hy3;refine⟨b,_,rfl,(s3.trans s4).tup (SqT.of h1),rfl,_,_,rfl,_,_,rfl,rfl,_,rfl,k _ _ _ ⟨_,_,rfl⟩ (aS.refl _) ?_⟩;rw[getD_some hy3,h3]
     intro vs1 H4 l1 hvl1 hF1 s4 hl4;have e1:vs1=xs.map fun y=>V.str (aK H y):=yd hvl1 hF1;subst e1;have s5:aS H (upd H4 l1 (.lst (xs.map fun y=>V.str (aK H y)))):=s3.trans (s4.trans (az hl4));have n1:SqL K (upd H4 l1 (.lst (xs.map fun y=>V.str (aK H y)))) l1 (xs.map fun y=>V.str (aK H y)):=SqL.of aq;generalize upd H4 l1 (.lst (xs.map fun y=>V.str (aK H y)))=H5 at s5 n1;refine fc (dP rfl (sq s5) (fC fv hl' (fun H1 s1=>sq (s5.trans s1)) (fun i v _=>v=.int (bU H (xs.getD i .non))) (fun _ _ _ _ _ h=>h) (fun τ=>∃t u,τ=[t,u]) ⟨none,none,rfl⟩ ?_ ?_))
     ·rintro i y τ H6 R hi ⟨t,u,rfl⟩ s6 hy3 k
      obtain⟨b,z,c,ys,rfl,h1,h2,h3,h4⟩:=sh hy3;refine⟨b,_,rfl,(s5.trans s6).tup (SqT.of h1),rfl,_,_,rfl,_,_,rfl,rfl,_,rfl,Or.inl ⟨c,ys,rfl,.inr ((s5.trans s6).tup (SqT.of h2)),k _ _ _ ⟨_,_,rfl⟩ (aS.refl _) ?_⟩⟩;rw[getD_some hy3,h4]
     intro vs2 H6 l2 hvl2 hF2 s6 hl6;have e2:vs2=xs.map fun y=>V.int (bU H y):=yd hvl2 hF2;subst e2;have s7:aS H5 (upd H6 l2 (.lst (xs.map fun y=>V.int (bU H y)))):=s6.trans (az hl6);have n2:SqL K (upd H6 l2 (.lst (xs.map fun y=>V.int (bU H y)))) l2 (xs.map fun y=>V.int (bU H y)):=SqL.of aq;generalize upd H6 l2 (.lst (xs.map fun y=>V.int (bU H y)))=H7 at s7 n2;have ek1:(xs.map fun y=>(eF (aK H y):Key)).map kV=xs.map fun y=>V.str (aK H y):=by rw[di];rfl
     have ek2:(xs.map fun y=>(eG (bU H y:Int):Key)).map kV=xs.map fun y=>V.int (bU H y):=by rw[di];rfl
     refine⟨l1,xs.map fun y=>(eF (aK H y):Key),rfl,by rw[ek1];exact s7.seq n1,by rw[av];omega,fun c1 hc1=>?_⟩;refine .inr (.inr ⟨c1,_,rfl,aq,?_⟩);have s8:aS H7 (upd H7 c1 (_root_.Q.zL c1 (_root_.Q.met (xs.map fun y=>(eF (aK H y):Key))).length)):=az hc1;generalize upd H7 c1 (_root_.Q.zL c1 (_root_.Q.met (xs.map fun y=>(eF (aK H y):Key))).length)=H8 at s8;refine Or.inl ⟨l1,_,rfl,.inl (s8.seq (s7.seq n1)),?_⟩;show gp K .Eq (.int ((_root_.Q.met (xs.map fun y=>(eF (aK H y):Key))).length:Int)) (.int ((xs.map fun y=>V.str (aK H y)).length:Int)) H8 _;rw[uD];refine⟨_,rfl,?_⟩;have hnd:decide (((_root_.Q.met (xs.map fun y=>(eF (aK H y):Key))).length:Int)=((xs.map fun y=>V.str (aK H y)).length:Int))=decide ((xs.map (aK H)).Nodup):=by
      rw[decide_eq_decide,av];have hm:(xs.map fun y=>(eF (aK H y):Key)).Nodup↔(xs.map (aK H)).Nodup:=by
       have :(xs.map fun y=>(eF (aK H y):Key))=(xs.map (aK H)).map eF:=by rw[di];rfl
       rw[this];exact ug _
      constructor
      ·intro z
       refine hm.mp (_root_.Q.vU ?_);rw[av];exact Int.ofNat.inj z
      ·intro z
       rw[_root_.Q.Cz (hm.mpr z),av]
     rw[hnd];have s9:aS H H8:=s5.trans (s7.trans s8);cases en:decide ((xs.map (aK H)).Nodup)with
     |false=>
      rw[en,cN]at qq;rw[if_neg aB];exact qq H8 s9
     |true=>
      rw[en,cP]at qq;rw[if_pos rfl];refine⟨l2,xs.map fun y=>(eG (bU H y:Int):Key),rfl,by rw[ek2];exact s8.seq n2,by rw[av];omega,fun c2 hc2=>?_⟩;refine .inr (.inr ⟨c2,_,rfl,aq,?_⟩);show gp K .LtE (.int ((_root_.Q.met (xs.map fun y=>(eG (bU H y:Int):Key))).length:Int)) (.int 1) _ Q;rw[FO];have hone:decide (((_root_.Q.met (xs.map fun y=>(eG (bU H y:Int):Key))).length:Int)<=1)=decide (∀y∈xs,∀z∈xs,bU H y=bU H z):=by
       rw[decide_eq_decide];have h1:((_root_.Q.met (xs.map fun y=>(eG (bU H y:Int):Key))).length:Int)<=1↔(_root_.Q.met (xs.map fun y=>(eG (bU H y:Int):Key))).length<=1:=by omega
       rw[h1,_root_.Q.met_one];constructor
       ·intro z y hy1 y' hy2
        have :=z _ (aV.mpr ⟨y,hy1,rfl⟩) _ (aV.mpr ⟨y',hy2,rfl⟩)
        injection this with this;omega
       ·intro z k1 hk1 k2 hk2
        obtain⟨y,hy1,rfl⟩:=aV.mp hk1;obtain⟨y',hy2,rfl⟩:=aV.mp hk2;rw[z y hy1 y' hy2]
      rw[hone];exact qq _ (s9.trans (az hc2))
   ·rw[decide_eq_true (by omega:(40:Int)<xs.length),if_pos rfl]
    have q1:Q (.bl (decide (xs.length<=40)&&(xs.all (cB H)&&(decide ((xs.map (aK H)).Nodup)&&decide (∀y∈xs,∀z∈xs,bU H y=bU H z))))) H:=q0 H (aS.refl H);rw[decide_eq_false hle,cN]at q1;exact q1
 |_=>exact q H (aS.refl H)
noncomputable def XC(K:ae)(C:Addr):Prop:=bA K (.ref C)=true/\PySem.W.excIn K C bmV "ValueError.__new__"=true
theorem n6:(1:Nat)<=sizeLine:=by decide
noncomputable def pd(C:Addr):Sp:=fun vs H Q E=>∃x,vs=[x]/\Kn4 H x/\(cL H x=true->∀H',aS H H'->Q .non H')/\(cL H x=false->∀H',aS H H'->E (.ref C) none H')
theorem sX{G:Gam}{K:ae}{C:Addr}(g1:G.fn "is_table" 1=some (spT,[]))(v1:G.val "NoTable"=some (.ref C))(xc:XC K C):
  Sat G K (pd C) oE oa:=by
 rintro vs H Q E ⟨x,rfl,hk,q1,q2⟩;unfold oE;change wpB G K _ _ _ [some x] H;walk_at "wp";refine⟨_,_,g1,x,rfl,hk,fun H1 s1=>⟨_,rfl,?_⟩⟩;cases e:cL H x with
 |true=>
  rw[if_neg (by simp)];exact q1 e H1 s1
 |false=>
  rw[if_pos (by rfl)];exact⟨C,v1,xc.1,xc.2,n6,q2 e H1 s1⟩
noncomputable def count(H:Hp):V->Nat
 |.ref a=>match dE (H a)with
  |some (y::_)=>bU H y
  |_=>0
 |_=>0
theorem dS{H:Hp}{x:V}(h:cL H x=true):∃a xs,x=.ref a/\dE (H a)=some xs/\xs.length<=40/\(∀y∈xs,cB H y=true)/\(xs.map (aK H)).Nodup/\∀y∈xs,bU H y=count H x:=by
 cases x with
 |ref a=>
  have h':(match dE (H a)with |some xs=>decide (xs.length<=40)&&(xs.all (cB H)&&(decide ((xs.map (aK H)).Nodup)&&decide (∀y∈xs,∀z∈xs,bU H y=bU H z))) |none=>false)=true:=h;split at h'
  ·rename_i xs e
   rw[ag,ag,ag,decide_eq_true_eq,decide_eq_true_eq,decide_eq_true_eq,bc]at h';obtain⟨h1,h2,h3,h4⟩:=h';refine⟨a,xs,rfl,e,h1,h2,h3,fun y hy=>?_⟩;show _=(match dE (H a)with |some (y::_)=>bU H y|_=>0);rw[e];cases xs with
   |nil=>cases hy
   |cons z r=>exact h4 y hy z (.head _)
  ·cases h'
 |_=>cases h
noncomputable def vn(C:Addr):Sp:=fun vs H Q E=>∃x,vs=[x]/\Kn4 H x/\(cL H x=true->∀H',aS H H'->Q (.int (count H x)) H')/\(cL H x=false->∀H',aS H H'->E (.ref C) none H')
theorem qR{G:Gam}{K:ae}{C:Addr}(g1:G.fn "need_table" 1=some (pd C,[])):
  Sat G K (vn C) mS mJ:=by
 rintro vs H Q E ⟨x,rfl,hk,q1,q2⟩;unfold mS;change wpB G K _ _ _ [some x] H;walk_at "wp";refine⟨_,_,g1,x,rfl,hk,fun e H1 s1=>?_,q2⟩;obtain⟨a,xs,rfl,h1,h2,h3,h4,h5⟩:=dS e;have sq:SqL K H1 a xs:=s1.seq (i5 h1);refine Or.inl ⟨a,xs,rfl,.inl sq,?_⟩;show gp K .Eq (.int (xs.length:Int)) (.int 0) H1 _;rw[uD];refine⟨_,rfl,?_⟩;cases xs with
 |nil=>
  rw[if_pos (by rfl)];have z:=q1 e H1 s1;have ec:count H (.ref a)=0:=by
   show(match dE (H a)with |some (y::_)=>bU H y|_=>0)=0;rw[h1]
  rw[ec]at z;exact z
 |cons y r=>
  rw[if_neg (by simp;omega)];obtain⟨b,z,c,ys,rfl,k1,k2,_,_,_,_,k8⟩:=gu (h3 y (.head _));refine .inl ⟨a,_,0,.ref b,rfl,rfl,sq,d0 (j:=0) rfl,?_⟩;refine .inr (.inl ⟨b,_,1,.ref c,rfl,rfl,s1.tup (SqT.of k1),rfl,?_⟩);refine Or.inl ⟨c,ys,rfl,.inr (s1.tup (SqT.of k2)),?_⟩;have w:=q1 e H1 s1;rw[<-h5 _ (.head _),k8]at w;exact w
noncomputable def isPlace(H:Hp)(x:V):V->Bool
 |.int i=>decide (0<=i/\i<count H x)
 |_=>false
noncomputable def nV(H:Hp):V->List V
 |.ref a=>match cj (H a)with
  |some [_,.ref b]=>(cj (H b)).getD []
  |_=>[]
 |_=>[]
noncomputable def at_(H:Hp)(i:Int)(y:V):V:=(nV H y).getD i.toNat .non
theorem iJ{H:Hp}{x:V}(h:cB H x=true):∃a b,x=.ref a/\H a=some (.tup [.str (aK H x),.ref b])/\H b=some (.tup (nV H x))/\(nV H x).length=bU H x/\∀y∈nV H x,aR y=true:=by
 obtain⟨a,z,b,ys,rfl,h1,h2,_,_,h6,h7,h8⟩:=gu h;have e:nV H (.ref a)=ys:=by
  show(match cj (H a)with |some [_,.ref b]=>(cj (H b)).getD [] |_=>[])=ys;rw[h1];show(cj (H b)).getD []=ys;rw[h2];rfl
 refine⟨a,b,rfl,by rw[h7];exact h1,by rw[e];exact h2,by rw[e,h8],by rw[e];exact h6⟩
theorem Ax{H:Hp}{x y:V}{i:Int}(h:cB H y=true)(hc:bU H y=count H x)(hi:isPlace H x (.int i)=true):atI (nV H y) i=some (at_ H i y)/\aR (at_ H i y)=true:=by
 have hi':0<=i/\i<count H x:=of_decide_eq_true hi;obtain⟨a,b,_,_,_,h4,h5⟩:=iJ h;have hlt:i.toNat<(nV H y).length:=by omega
 have e:(nV H y)[i.toNat]? =some (at_ H i y):=by
  unfold at_;rw[aj,ah hlt];rfl
 refine⟨?_,h5 _ (bf e)⟩;have :=d0 (j:=i.toNat) e
 rwa [show((i.toNat:Nat):Int)=i by omega]at this
theorem dw{v:V}(h:aR v=true):v=.int 0\/v=.int 1:=by
 cases v with
 |int i=>
  have h':(i==0||i==1)=true:=h;rw[cC,beq_iff_eq,beq_iff_eq]at h';rcases h' with rfl|rfl
  ·exact .inl rfl
  ·exact .inr rfl
 |_=>cases h
theorem uF{J:It}{Hc:Hp->Prop}{g:TG}{tc:TT}{te:TE}{Q:VK}{τ0:L2.St}{H1:Hp}{xs:List V}(S:sI J xs.length (fun i x _=>xs[i]? =some x) Hc)(hn:xs.length<=sizeLine)(hc:∀H,aS H1 H->Hc H)
  (t:V->Bool)(f:V->V)(T:L2.St->Prop)(hT:T τ0)
  (step:∀x τ H3 (Rt:L2.St->V->Hp->Prop)(Rf:L2.St->Hp->Prop),x∈xs->T τ->aS H1 H3->(∀τ' H6,T τ'->aS H3 H6->t x=true->Rt τ' (f x) H6)->(∀τ' H6,T τ'->aS H3 H6->t x=false->Rf τ' H6)->
   g x τ H3 fun τ4 H4=>tc τ4 H4 fun b H5=>if b=true then te τ4 H5 (Rt τ4)else Rf τ4 H5)
  (fin:∀H2 l,aS H1 H2->H2 l=none->Q (.ref l) (upd H2 l (.lst ((xs.filter t).map f)))):BB J g tc te τ0 H1 Q:=by
 refine⟨fun i m τ acc H2=>m=xs.length-i/\i<=xs.length/\T τ/\acc=((xs.take i).filter t).map f/\aS H1 H2,⟨xs.length,by simp,bp _,hT,by simp,aS.refl _⟩,?_⟩;rintro i m τ acc H2 ⟨rfl,hi,ht,rfl,sm⟩;have q:=hc H2 sm;by_cases hlt:i<xs.length
 ·refine .inr ⟨S.go i H2 q hlt,fun τ' acc' H'=>T τ'/\acc'=((xs.take (i+1)).filter t).map f/\aS H1 H',fun τ' acc' H' ⟨a,b,c⟩=>⟨xs.length-(i+1),by omega,rfl,hlt,a,b,c⟩,fun x H3 y=>?_⟩
  obtain⟨y1,y2⟩:=S.yld i H2 x H3 q hlt y;have e:xs.take (i+1)=xs.take i++[x]:=by rw[dQ,y1];rfl
  have hlen:(((xs.take i).filter t).map f).length<=i:=by
   rw[av];refine aF (DH _ _) ?_;rw[dD];omega
  refine step x τ H3 _ _ (bf y1) ht (sm.trans y2) (fun τ' H6 h1 h2 h3=>⟨by omega,h1,?_,(sm.trans y2).trans h2⟩) (fun τ' H6 h1 h2 h3=>⟨h1,?_,(sm.trans y2).trans h2⟩)
  ·rw[e,jV,eD]
   simp[h3]
  ·rw[e,jV,eD]
   simp[h3]
 ·have e:i=xs.length:=by omega
  subst e;rw[eS];exact .inl ⟨S.stop _ H2 q (aw _),fun l hl'=>fin H2 l sm hl'⟩
end Cp
namespace Lt
open PySem PySem.Spec PyProof.Rows L2 R Cp
theorem Bw{i j:Int}(h0:0<=j)(h1:j<18446744073709551616):Du i j:=.inr ⟨by omega,by omega⟩
theorem short{n:Nat}(h:n<=40):n<=sizeLine:=aF h (by decide)
end Lt
namespace Q
open PySem PySem.Spec PySem.W PyProof.Rows L2
theorem xU{ks:List Str}(nd:ks.Nodup):(ord ks).Perm (aI ks.length):=by
 unfold ord;split
 ·exact eH _
 ·have P:=(fw (qU nd) (by omega)).1
  have :=fO.mp P.perm
  simpa using this
theorem range_getD{α:Type}(d:α)(ys:List α):(aI ys.length).map (fun i=>ys.getD i d)=ys:=by
 apply cE
 ·simp
 ·intro i h1 h2
  simp[h2]
theorem fu{α:Type}(d:α){ks:List Str}{ys:List α}(nd:ks.Nodup)(hl:ks.length=ys.length):(sortBy d ks ys).Perm ys:=by
 unfold sortBy;have h:=(xU nd).map fun i=>ys.getD i d;rw[hl,range_getD]at h;exact h
theorem zI{α β:Type}(d:α)(f:α->β)(ks:List Str)(ys:List α):(sortBy d ks ys).map f=sortBy (f d) ks (ys.map f):=by
 unfold sortBy;rw[di];apply dj;intro i _;show f (ys.getD i d)=(ys.map f).getD i (f d);rw[aj,aj,aQ];cases ys[i]? <;>rfl
theorem hJ{ks:List Str}(nd:ks.Nodup):(sortBy ("":Str) ks ks).Pairwise fun a b=>tlt a b=true:=by
 unfold sortBy ord;split
 ·rename_i h
  rw[range_getD]
  match ks,h with
  | [],_=>exact .nil
  | [x],_=>simp
  |_::_::_,h=>simp at h;omega
 ·rename_i h
  obtain⟨P,U,_⟩:=fw (qU nd) (by omega:1<=ks.length);rw[kl];intro i j hi hj hij;have hi':i<ks.length:=by simpa[P.size]using hi
  have hj':j<ks.length:=by simpa[P.size]using hj
  have u:=U i j hij hj';rw[cQ,cQ];have e:∀(k:Nat)(hk:k<(run (lG ks) (dh ks.length)).toList.length),(run (lG ks) (dh ks.length)).toList[k]=at' (run (lG ks) (dh ks.length)) k:=fun k hk=>by
   have hk':k<(run (lG ks) (dh ks.length)).size:=by simpa using hk
   simp[at',hk']
  rw[e,e];exact u
theorem BW{x y:Str}(a:tlt x y=true)(b:tlt y x=true):False:=by
 have c:=tO a b;unfold tlt at c;exact List.lt_irrefl _ (of_decide_eq_true c)
theorem jD:∀{l m:List Str},l.Perm m->l.Pairwise (fun a b=>tlt a b=true)->m.Pairwise (fun a b=>tlt a b=true)->l=m
 | [],m,p,_,_=>by rw[List.nil_perm.mp p]
 |x::l,[],p,_,_=>by simpa using p.length_eq
 |x::l,y::m,p,h1,h2=>by
  rw[List.pairwise_cons]at h1 h2;have e:x=y:=by
   by_cases e:x=y
   ·exact e
   ·have hx:x∈m:=by
     have :=p.mem_iff.mp (aH (a:=x) (l:=l))
     rcases aA.mp this with z|z
     ·exact absurd z e
     ·exact z
    have hy:y∈l:=by
     have :=p.mem_iff.mpr (aH (a:=y) (l:=m))
     rcases aA.mp this with z|z
     ·exact absurd z.symm e
     ·exact z
    exact(BW (h1.1 y hy) (h2.1 x hx)).elim
  subst e;rw[jD (List.perm_cons x |>.mp p) h1.2 h2.2]
theorem pV{α:Type}(d:α)(f:α->Str)(p:α->Bool){ys:List α}(nd:(ys.map f).Nodup):((sortBy d (ys.map f) ys).filter p).map f=sortBy ("":Str) ((ys.filter p).map f) ((ys.filter p).map f):=by
 have nd2:((ys.filter p).map f).Nodup:=nd.sublist (jm.map _);refine jD ?_ ?_ (hJ nd2)
 ·exact(((fu d nd (by simp)).filter p).map f).trans (fu ("":Str) nd2 rfl).symm
 ·have h:((sortBy d (ys.map f) ys).map f).Pairwise fun a b=>tlt a b=true:=by
   have r:=hJ nd;unfold sortBy at r⊢;rw[di];have e:(ord (ys.map f)).map (f∘fun i=>ys.getD i d)=(ord (ys.map f)).map fun i=>(ys.map f).getD i ("":Str):=by
    apply dj
    intro i hi;have hi':i<ys.length:=by
     have :=(xU nd).mem_iff.mp hi
     simpa using this
    show f (ys.getD i d)=(ys.map f).getD i ("":Str);rw[aj,aj,aQ,ah hi'];rfl
   rw[e];exact r
  exact h.sublist (jm.map _)
end Q
namespace Lt
open PySem PySem.Spec PyProof.Rows L2 R Cp
mutual
theorem lR:∀d:D,eqD d d=true
 |.non=>rfl
 |.bl b=>by cases b<;>rfl
 |.int i=>by show(i==i)=true;simp
 |.str x=>by show(x==x)=true;simp
 |.tup ds=>pC ds
 |.lst ds=>pC ds
theorem pC:∀ds:List D,k7 ds ds=true
 | []=>rfl
 |d::ds=>by show(eqD d d&&k7 ds ds)=true;rw[lR d,pC ds];rfl
end
end Lt
namespace L2
open PySem PySem.Spec PyProof.Rows
section
variable {κ α:Type}[DecidableEq κ](kf:α->κ)(vf:α->V)
noncomputable def ot(acc:List (κ×V))(y:α):List (κ×V):=if(dU acc (kf y)).isSome then acc else putK acc (kf y) (vf y)
noncomputable def fnd(ys:List α):List (κ×V):=ys.foldl (ot kf vf) []
theorem Gi(acc:List (κ×V))(y:α)(k:κ):dU (ot kf vf acc y) k=if(dU acc k).isSome then dU acc k else if k=kf y then some (vf y)else none:=by
 unfold ot;cases h:dU acc (kf y)with
 |some v=>
  show dU acc k=_;cases hk:dU acc k with
  |some u=>rfl
  |none=>
   rw[if_neg (by simp),if_neg];intro e;rw[e,h]at hk;cases hk
 |none=>
  rw[if_neg (by simp),DU];by_cases e:k=kf y
  ·rw[if_pos e,e,h]
   simp
  ·rw[if_neg e]
   cases hk:dU acc k<;>simp[e]
theorem fndS_nd{acc:List (κ×V)}(y:α)(h:(acc.map (·.1)).Nodup):((ot kf vf acc y).map (·.1)).Nodup:=by
 unfold ot;cases e:dU acc (kf y)with
 |some v=>exact h
 |none=>rw[if_neg (by simp)];exact nd_putK _ h e
theorem Gj(acc:List (κ×V))(y:α):(ot kf vf acc y).length<=acc.length+1:=by
 unfold ot;split
 ·omega
 ·exact lK _ _ _
theorem yu:∀(ys:List α)(acc:List (κ×V)),(ys.foldl (ot kf vf) acc).length<=acc.length+ys.length
 | [],acc=>aw _
 |y::ys,acc=>by
  have :=yu ys (ot kf vf acc y)
  have :=Gj kf vf acc y
  simp only[dq,bo];omega
theorem Br:∀(ys:List α){acc:List (κ×V)},(acc.map (·.1)).Nodup->((ys.foldl (ot kf vf) acc).map (·.1)).Nodup
 | [],_,h=>h
 |y::ys,_,h=>Br ys (fndS_nd kf vf y h)
theorem yt:∀(ys:List α)(acc:List (κ×V))(k:κ),dU (ys.foldl (ot kf vf) acc) k=if(dU acc k).isSome then dU acc k else(ys.find? fun y=>decide (kf y=k)).map vf
 | [],acc,k=>by
  show dU acc k=_;cases dU acc k<;>rfl
 |y::ys,acc,k=>by
  rw[dq,yt ys,Gi];cases hk:dU acc k with
  |some u=>simp
  |none=>
   simp only[DL,aL,if_false];by_cases e:k=kf y
   ·rw[if_pos e,gN]
    simp[e]
   ·have e':¬kf y=k:=fun z=>e z.symm
    rw[if_neg e,gN];simp[e']
theorem wm(ys:List α)(k:κ):dU (fnd kf vf ys) k=(ys.find? fun y=>decide (kf y=k)).map vf:=by
 unfold fnd;rw[yt];rfl
theorem fnd_nd(ys:List α):((fnd kf vf ys).map (·.1)).Nodup:=Br kf vf ys hW
theorem fnd_len(ys:List α):(fnd kf vf ys).length<=ys.length:=by
 have :=yu kf vf ys []
 rw[jb,sR]at this;exact this
theorem wo{ys:List α}{k:κ}:k∈(fnd kf vf ys).map (·.1)↔∃y∈ys,kf y=k:=by
 constructor
 ·intro h
  cases e:dU (fnd kf vf ys) k with
  |none=>exact absurd h (xw e)
  |some v=>
   rw[wm]at e;obtain⟨y,hy,_⟩:=lq.mp e;exact⟨y,List.mem_of_find?_eq_some hy,by have :=List.find?_some hy;simpa using this⟩
 ·rintro⟨y,hy,e⟩
  cases h:dU (fnd kf vf ys) k with
  |some v=>exact valV_in h
  |none=>
   rw[wm,Option.map_eq_none_iff,qm]at h;exact absurd e (by have :=h y hy;simpa using this)
theorem Ft:∀{l m:List κ},l.Nodup->(∀x∈l,x∈m)->l.length<=m.length
 | [],_,_,_=>bp _
 |a::l,m,h,hs=>by
  obtain⟨h1,h2⟩:=cO.mp h;have ha:=hs a (.head _);have :=Ft (l:=l) (m:=m.erase a) h2 fun x hx=>(DM (fun e:x=a=>h1 (by rw[<-e];exact hx))).mpr (hs x (.tail _ hx));rw[List.length_erase_of_mem ha]at this;have :=List.length_pos_of_mem ha;simp only[bo];omega
theorem fnd_all{ys:List α}{ks:List κ}(hk:ks.Nodup)(hs:∀y∈ys,kf y∈ks):(fnd kf vf ys).length<ks.length↔∃k∈ks,∀y∈ys,kf y≠k:=by
 have hsub:∀k∈(fnd kf vf ys).map (·.1),k∈ks:=fun k h=>by
  obtain⟨y,hy,e⟩:=(wo kf vf).mp h;rw[<-e];exact hs y hy
 have hnd:=fnd_nd kf vf ys;constructor
 ·intro hl
  apply sV
  intro hno;have hall:∀k∈ks,k∈(fnd kf vf ys).map (·.1):=fun k hk=>by
   apply sV
   intro hn;exact hno ⟨k,hk,fun y hy e=>hn ((wo kf vf).mpr ⟨y,hy,e⟩)⟩
  have :=Ft hk hall
  rw[av]at this;omega
 ·rintro⟨k,hkm,hk2⟩
  have hn:k∉(fnd kf vf ys).map (·.1):=fun h=>by
   obtain⟨y,hy,e⟩:=(wo kf vf).mp h;exact hk2 y hy e
  have :(k::(fnd kf vf ys).map (·.1)).Nodup:=cO.mpr ⟨hn,hnd⟩;have :=Ft this (fun x hx=>by
   rcases aA.mp hx with rfl|hx
   ·exact hkm
   ·exact hsub x hx)
  rw[bo,av]at this;omega
end
end L2
namespace Kc
open PySem R
noncomputable def pj:List Str:=["copies","one","other"]
noncomputable def j4:List Str:=["copies","one","other","found","name","readings"]
noncomputable def kb:CB:=
  (.cons (.asg (.name 3) (.dicT))
  (.cons (.forr (.tup (.cons (.name 4) (.cons (.name 5) .nil))) (.seq (.var 0))
  (.cons (.expr (.setd (.var 3) (.tup (.cons (.idx (.var 5) (.var 1)) (.cons (.idx (.var 5) (.var 2)) .nil))) (.var 4)))
  .nil))
  (.cons (.iff (.cmp .Lt (.bfn .lend (.cons (.var 3) .nil)) (.bfn .len (.cons (.glo "KINDS") .nil)))
  (.cons (.ret (.con .none))
  .nil)
  .nil)
  (.cons (.ret (.bfn .tuple (.cons (.comp ["kind"] [3] (.name 0) (.seq (.glo "KINDS")) .no (.idxd (.var 1) (.var 0))) .nil)))
  .nil))))
end Kc
namespace Kc
open PySem PySem.Spec PyProof.Rows L2 R Cp Lt
theorem kB{J:It}{n:Nat}{it:Nat->V->Hp->Prop}{Hc:Hp->Prop}{g:TG}{tb:TS}{D:Ends}{σ:L2.St}{H:Hp}(S:sI J n it Hc)(Pv:Nat->L2.St->Hp->Prop)(h0:Pv 0 σ H)(hl:∀i σ H,i<=n->Pv i σ H->Hc H)
  (hs:∀i x σ H H' (D2:Ends),i<n->Pv i σ H->it i x H'->aS H H'->(∀σ2 H2,Pv (i+1) σ2 H2->D2.nx σ2 H2)->D2.rt=D.rt->g x σ H' fun σ2 H2=>tb D2 σ2 H2)(hd:∀σ H,Pv n σ H->D.nx σ H):ForB J g tb D σ H:=
 Bq S Pv h0 hl (fun i x σ H H' a b c d=>hs i x σ H H' _ a b c d (fun _ _ h=>h) rfl) hd
theorem eO{us:List Value}(h:us.length=1):∃a,us=[a]:=by
 cases us with
 |nil=>exact nomatch h
 |cons a r=>exact⟨a,by rw[b8.mp (o5 h)]⟩
theorem mZ{us:List Value}(h:us.length=2):∃a b,us=[a,b]:=by
 cases us with
 |nil=>exact nomatch h
 |cons a r=>
  obtain⟨b,e⟩:=eO (o5 h);exact⟨a,b,by rw[e]⟩
theorem nQ{us:List Value}(h:us.length=3):∃a b c,us=[a,b,c]:=by
 cases us with
 |nil=>exact nomatch h
 |cons a r=>
  obtain⟨b,c,e⟩:=mZ (o5 h);exact⟨a,b,c,by rw[e]⟩
theorem bW{α:Type}{F:α->Prop}{vs:List V}{n:Nat}(h:∃a,F a)(k:∀a,F a->vs.length=n):vs.length=n:=let⟨a,f⟩:=h;k a f
theorem gB{P:Prop}{l vs:List V}{n:Nat}(h:vs=l/\P)(e:l.length=n):vs.length=n:=by rw[h.1];exact e
noncomputable def num(H:Hp)(i:Int)(y:V):Int:=match at_ H i y with
 |.int n=>n
 |_=>0
noncomputable def KP:List (Int×Int):=[(0,0),(0,1),(1,0),(1,1)]
noncomputable def m6(k:Int×Int):List Key:=[.inl k.1,.inl k.2]
noncomputable def kf(H:Hp)(i j:Int)(y:V):List Key:=m6 (num H i y,num H j y)
noncomputable def jH(H:Hp)(xs:List V)(i j:Int):Bool:=KP.all fun k=>xs.any fun y=>decide (num H i y=k.1/\num H j y=k.2)
noncomputable def firstOf(H:Hp)(xs:List V)(i j:Int)(k:Int×Int):V:=((xs.find? fun y=>decide (kf H i j y=m6 k)).map fun y=>V.str (aK H y)).getD .non
noncomputable def Kinds(K:ae)(kd:Addr):Prop:=∃a0 a1 a2 a3:Addr,∀H:Hp,SqT K H kd [.ref a0,.ref a1,.ref a2,.ref a3]/\SqT K H a0 [.int 0,.int 0]/\SqT K H a1 [.int 0,.int 1]/\SqT K H a2 [.int 1,.int 0]/\SqT K H a3 [.int 1,.int 1]
theorem Kinds.at{K:ae}{kd:Addr}(h:Kinds K kd):∃as:List V,as.length=4/\(∀H:Hp,SqT K H kd as)/\∀(H:Hp)(i:Nat) x,as[i]? =some x->∃(b:Addr)(k:Int×Int),x=.ref b/\KP[i]? =some k/\SqT K H b ((m6 k).map kV):=by
 obtain⟨a0,a1,a2,a3,h⟩:=h;refine⟨[.ref a0,.ref a1,.ref a2,.ref a3],rfl,fun H=>(h H).1,fun H i x e=>?_⟩;obtain⟨_,h0,h1,h2,h3⟩:=h H
 match i,e with
 | 0,e=>cases e;exact⟨a0,_,rfl,rfl,h0⟩
 | 1,e=>cases e;exact⟨a1,_,rfl,rfl,h1⟩
 | 2,e=>cases e;exact⟨a2,_,rfl,rfl,h2⟩
 | 3,e=>cases e;exact⟨a3,_,rfl,rfl,h3⟩
 |n+4,e=>simp at e
theorem vS{H:Hp}{x y:V}{i:Int}(h:cB H y=true)(hc:bU H y=count H x)(hi:isPlace H x (.int i)=true):at_ H i y=.int (num H i y)/\(num H i y=0\/num H i y=1):=by
 have :=(Ax h hc hi).2
 unfold num;rcases dw this with e|e
 ·rw[e];exact⟨rfl,.inl rfl⟩
 ·rw[e];exact⟨rfl,.inr rfl⟩
theorem FX{k l:Int×Int}(h:m6 k=m6 l):k=l:=by
 unfold m6 at h;injection h with h1 h2
 injection h2 with h2 _;injection h1 with h1;injection h2 with h2;exact Prod.ext h1 h2
theorem FU:(KP.map m6).Nodup:=by decide+kernel
theorem kf_eq{H:Hp}{i j:Int}{y:V}{k:Int×Int}:kf H i j y=m6 k↔(num H i y=k.1/\num H j y=k.2):=by
 constructor
 ·intro h
  have :=FX h
  rw[<-this];exact⟨rfl,rfl⟩
 ·rintro⟨h1,h2⟩
  unfold kf;rw[h1,h2]
theorem Gg{H:Hp}{xs:List V}{i j:Int}(vf:V->V)(hs:∀y∈xs,kf H i j y∈KP.map m6):(fnd (kf H i j) vf xs).length<4↔jH H xs i j=false:=by
 rw[show(4:Nat)=(KP.map m6).length from rfl,fnd_all (kf H i j) vf FU hs];unfold jH;rw[List.all_eq_false];constructor
 ·rintro⟨k,hk,h⟩
  obtain⟨p,hp,rfl⟩:=aV.mp hk;refine⟨p,hp,?_⟩;intro z;obtain⟨y,hy,e⟩:=bS.mp z;exact h y hy (kf_eq.mpr (of_decide_eq_true e))
 ·rintro⟨p,hp,h⟩
  refine⟨m6 p,aV.mpr ⟨p,hp,rfl⟩,fun y hy e=>h ?_⟩;exact bS.mpr ⟨y,hy,decide_eq_true (kf_eq.mp e)⟩
theorem kf_in{H:Hp}{x:V}{xs:List V}{i j:Int}(h3:∀y∈xs,cB H y=true)(h5:∀y∈xs,bU H y=count H x)(hi:isPlace H x (.int i)=true)(hj:isPlace H x (.int j)=true):∀y∈xs,kf H i j y∈KP.map m6:=by
 intro y hy;have ei:=(vS (h3 y hy) (h5 y hy) hi).2;have ej:=(vS (h3 y hy) (h5 y hy) hj).2;unfold kf;refine aV.mpr ⟨_,?_,rfl⟩;rcases ei with e|e<;>rcases ej with f|f<;>rw[e,f]<;>simp[KP]
noncomputable def vm:Sp:=fun vs H Q _=>∃a xs i j H0,vs=[.ref a,.int i,.int j]/\aS H0 H/\cL H0 (.ref a)=true/\dE (H0 a)=some xs/\isPlace H0 (.ref a) (.int i)=true/\isPlace H0 (.ref a) (.int j)=true/\
 (jH H0 xs i j=false->∀H',aS H H'->Q .non H')/\(jH H0 xs i j=true->∀H' l,aS H H'->H l=none->H' l=some (.tup (KP.map (firstOf H0 xs i j)))->Q (.ref l) H')
theorem DR{G:Gam}{K:ae}{kd:Addr}(v1:G.val "KINDS"=some (.ref kd))(hk:Kinds K kd):
  Sat G K vm kb j4:=by
 rintro vs H Q E ⟨a,xs,i,j,H0,rfl,s0,ht,hx,hi,hj,q1,q2⟩;unfold kb;change wpB G K _ _ _ [some (.ref a),some (.int i),some (.int j),none,none,none] H;walk_at "wp";intro d hd;obtain⟨a',xs',ea,h1,h2,h3,h4,h5⟩:=dS ht;cases ea;rw[hx]at h1;cases h1;obtain⟨as,hal,hka,hkb⟩:=hk.at;have sq:∀{H1:Hp},aS H0 H1->SqL K H1 a xs:=fun s1=>s1.seq (i5 hx);have sd:aS H (upd H d (.dT [])):=az hd;refine lM (dP rfl (sq (s0.trans sd)) (kB fv (fun k σ H'=>aS H H'/\H' d=some (.dT (fnd (kf H0 i j) (fun y=>V.str (aK H0 y)) (xs.take k)))/\∃u v,σ=[some (.ref a),some (.int i),some (.int j),some (.ref d),u,v])
  ⟨sd,aq,none,none,rfl⟩ (fun k σ H' _ p=>sq (s0.trans p.1)) ?_ ?_))
 ·rintro k y σ H1 H2 D2 hk1 ⟨s1,e1,u,v,rfl⟩ hy s2 hD _
  have hm:=bf hy;have ei:=vS (h3 y hm) (h5 y hm) hi;have ej:=vS (h3 y hm) (h5 y hm) hj;have gi:=(Ax (h3 y hm) (h5 y hm) hi).1;have gj:=(Ax (h3 y hm) (h5 y hm) hj).1;obtain⟨b,c,rfl,k1,k2,k3,k4⟩:=iJ (h3 y hm);have s3:=s0.trans (s1.trans s2);refine⟨b,_,rfl,s3.tup (SqT.of k1),rfl,_,_,rfl,_,_,rfl,rfl,?_⟩;walk_at "wp";refine⟨.inr (.inr (.inl ⟨rfl,.inr ⟨_,s2 _ _ e1⟩⟩)),?_⟩;refine .inr (.inl ⟨c,_,i,_,rfl,rfl,s3.tup (SqT.of k2),gi,?_⟩);refine .inr (.inl ⟨c,_,j,_,rfl,rfl,s3.tup (SqT.of k2),gj,short (by simp),fun p hp=>?_⟩);have s4:aS H2 (upd H2 p (.tup [at_ H0 i (.ref b),at_ H0 j (.ref b)])):=az hp;have hf:(fnd (kf H0 i j) (fun y=>V.str (aK H0 y)) (xs.take k)).length<=40:=aF (fnd_len _ _ _) (by rw[dD];omega);have et:xs.take (k+1)=xs.take k++[V.ref b]:=by rw[dQ,hy];rfl
  have ef:fnd (kf H0 i j) (fun y=>V.str (aK H0 y)) (xs.take (k+1))=ot (kf H0 i j) (fun y=>V.str (aK H0 y)) (fnd (kf H0 i j) (fun y=>V.str (aK H0 y)) (xs.take k)) (.ref b):=by
   unfold fnd;rw[et,List.foldl_append];rfl
  refine⟨d,p,_,kf H0 i j (.ref b),_,rfl,rfl,s4 _ _ (s2 _ _ e1),?_,ki hf (by decide),fun z hz=>?_,fun hz=>?_⟩
  ·rw[aq,ei.1,ej.1]
   rfl
  ·refine hD _ _ ⟨s1.trans (s2.trans s4),?_,_,_,rfl⟩
   rw[ef];unfold ot;rw[hz];exact s4 _ _ (s2 _ _ e1)
  ·refine hD _ _ ⟨rp (s1.trans (s2.trans s4)) hd,?_,_,_,rfl⟩
   rw[ef];unfold ot;rw[hz];exact aq
 ·rintro σ H1 ⟨s1,e1,u,v,rfl⟩
  rw[eS]at e1;walk_at "wp";refine⟨d,_,rfl,e1,_,v1,Or.inl ⟨kd,as,rfl,.inr (hka _),?_⟩⟩;rw[hal];show gp K .Lt (.int _) (.int ((4:Nat):Int)) H1 _;rw[lt_ii];refine⟨_,rfl,?_⟩;have hfi:=Gg (fun y=>V.str (aK H0 y)) (kf_in h3 h5 hi hj);cases hf:jH H0 xs i j with
  |false=>
   have :=hfi.mpr hf
   rw[decide_eq_true (by omega),if_pos rfl];exact q1 hf H1 s1
  |true=>
   have hge:¬(fnd (kf H0 i j) (fun y=>V.str (aK H0 y)) xs).length<4:=fun z=>by rw[hfi.mp z]at hf;cases hf
   rw[decide_eq_false (by omega),if_neg aB];refine fc ⟨_,v1,.inr (.inl ⟨kd,rfl,⟨_,hka _⟩,?_⟩)⟩;refine fC AO (by rw[hal];exact short (by decide)) (fun H2 _=>hka H2) (fun n v _=>v=firstOf H0 xs i j (KP.getD n (0,0))) (fun _ _ _ _ _ h=>h) (fun τ=>∃t,τ=[t,some (.ref d)]) ⟨none,rfl⟩ ?_ ?_
   ·rintro n y τ H2 R hn ⟨t,rfl⟩ s2 hy k
    obtain⟨b,p,rfl,hp,hb⟩:=hkb H2 n y hy;walk_at "wp";have hall:xs.any (fun y=>decide (num H0 i y=p.1/\num H0 j y=p.2))=true:=by
     unfold jH at hf;exact bc.mp hf p (bf hp)
    obtain⟨y0,hy0,e0⟩:=bS.mp hall;cases hfi:xs.find? (fun y=>decide (kf H0 i j y=m6 p))with
    |none=>
     rw[qm]at hfi;exact absurd (decide_eq_true (kf_eq.mpr (of_decide_eq_true e0))) (hfi y0 hy0)
    |some y1=>
     refine⟨d,b,_,m6 p,V.str (aK H0 y1),rfl,rfl,s2 _ _ e1,hb,?_,?_⟩
     ·rw[wm,hfi]
      rfl
     ·refine k _ _ _ ⟨_,rfl⟩ (aS.refl _) ?_
      rw[getD_some hp];unfold firstOf;rw[hfi];rfl
   ·intro vs H2 l hvl hF s2 hl2
    have ev:vs=KP.map (firstOf H0 xs i j):=by
     rw[hal]at hvl;apply cE
     ·rw[hvl];rfl
     ·intro n m1 m2
      have :=hF n vs[n] (by simp[m1])
      rw[this,cQ,aj,ah (by simpa using m2)];rfl
    subst ev;refine⟨l,_,rfl,.inl ⟨SqL.of aq,fun b hb=>?_⟩⟩;have s3:aS H (upd H2 l (.lst (KP.map (firstOf H0 xs i j)))):=s1.trans (s2.trans (az hl2));exact q2 hf _ b (s3.trans (az hb)) (s3.free hb) aq
end Kc
namespace K21
open PySem PySem.Spec PyProof.Rows L2 R Cp Lt Kc
noncomputable def Dr(H:Hp)(nf:Nat->Str)(n:Nat)(ys:List V):Prop:=∀(i:Nat) y,ys[i]? =some y->∃b r zs,y=.ref b/\H b=some (.tup [.str (nf i),.ref r])/\H r=some (.tup zs)/\zs.length=n/\∀z∈zs,aR z=true
theorem oz{H:Hp}{nf:Nat->Str}{n:Nat}{ys:List V}(hnf:∀i,cY (nf i)=true)(d:Dr H nf n ys)(hn:n<=60){i:Nat}{y:V}(e:ys[i]? =some y):cB H y=true/\aK H y=nf i/\bU H y=n/\Kn3 H y:=by
 obtain⟨b,r,zs,rfl,h1,h2,h3,h4⟩:=d i y e;have ar:bE H (.ref r)=true:=by
  show(match cj (H r)with |some xs=>decide (xs.length<=60)&&xs.all aR|none=>false)=true;rw[h2];show(decide (zs.length<=60)&&zs.all aR)=true;rw[decide_eq_true (by omega),cP,bc];exact h4
 have hl:(nf i).length<=20000:=by
  have :=hnf i
  unfold cY at this;rw[ag,decide_eq_true_eq]at this;omega
 refine⟨?_,?_,?_,⟨jG h1,fun z e=>nomatch e⟩,fun a xs e hx=>?_⟩
 ·show(match cj (H b)with |some [n,r]=>isName n&&bE H r|_=>false)=true
  rw[h1];show(cY (nf i)&&bE H (.ref r))=true;rw[hnf,ar];rfl
 ·show(match cj (H b)with |some (.str z::_)=>z|_=>("":Str))=_
  rw[h1];rfl
 ·show(match cj (H b)with |some [_,.ref b]=>(cj (H b)).elim 0 gS|_=>0)=n
  rw[h1];show(cj (H r)).elim 0 gS=n;rw[h2];exact h3
 ·injection e with e
  subst e;rw[h1]at hx;cases hx;refine⟨by show 2<=20000;decide,fun y hy=>?_⟩;simp only[aA,bP,or_false]at hy;rcases hy with rfl|rfl
  ·exact⟨⟨kA,fun z e=>by injection e with e;rw[<-e];exact hl⟩,fun a xs e=>nomatch e⟩
  ·refine⟨⟨jG h2,fun z e=>nomatch e⟩,fun a xs e hx=>?_⟩
   injection e with e;subst e;rw[h2]at hx;cases hx;refine⟨by omega,fun z hz=>?_⟩;rcases dw (h4 z hz)with rfl|rfl
   ·exact⟨gW,fun z e=>nomatch e⟩
   ·exact⟨gW,fun z e=>nomatch e⟩
theorem yz{H:Hp}{nf:Nat->Str}{n:Nat}{ys:List V}{t:Addr}(hnf:∀i,cY (nf i)=true)(hinj:∀i j,i<ys.length->j<ys.length->nf i=nf j->i=j)(ht:H t=some (.lst ys))(d:Dr H nf n ys)(hl:ys.length<=40)(hn:n<=60):Kn4 H (.ref t)/\cL H (.ref t)=true/\(∀y∈ys,cB H y=true)/\∀y∈ys,bU H y=n:=by
 have at':∀y∈ys,∃i,ys[i]? =some y:=fun y hy=>iz.mp hy;have cp:∀y∈ys,cB H y=true:=fun y hy=>let⟨i,e⟩:=at' y hy;(oz hnf d hn e).1;have ct:∀y∈ys,bU H y=n:=fun y hy=>let⟨i,e⟩:=at' y hy;(oz hnf d hn e).2.2.1;refine⟨⟨⟨wc ht,fun z e=>nomatch e⟩,fun a xs e hx=>?_⟩,?_,cp,ct⟩
 ·injection e with e
  subst e;rw[ht]at hx;cases hx;exact⟨by omega,fun y hy=>let⟨i,e⟩:=at' y hy;(oz hnf d hn e).2.2.2⟩
 ·show(match dE (H t)with |some xs=>decide (xs.length<=40)&&(xs.all (cB H)&&(decide ((xs.map (aK H)).Nodup)&&decide (∀y∈xs,∀z∈xs,bU H y=bU H z))) |none=>false)=true
  rw[ht];show(decide (ys.length<=40)&&(ys.all (cB H)&&(decide ((ys.map (aK H)).Nodup)&&decide (∀y∈ys,∀z∈ys,bU H y=bU H z))))=true;rw[decide_eq_true hl,cP,ag,ag,bc,decide_eq_true_eq,decide_eq_true_eq];refine⟨cp,?_,fun y hy z hz=>by rw[ct y hy,ct z hz]⟩;show List.Pairwise (fun a b=>a≠b) _;rw[kl];intro i j hi hj hij e;rw[av]at hi hj;rw[cQ,cQ,(oz hnf d hn (ah hi)).2.1,(oz hnf d hn (ah hj)).2.1]at e;have :=hinj i j hi hj e;omega
end K21
namespace Lm
open PySem PySem.Spec PySem.W PyProof.Rows L2 Q
noncomputable abbrev Kp(h h':Heap):Prop:=∀b o,h.get? b=some o->h'.get? b=some o
section
variable {prog:Program}{w:World}{A:Around}{E:Value->Shared->Prop}{s:Shared}
theorem GI{Q:Value->Shared->Prop}{qual x:Str}{params:Arguments}{scope:Scope}{pm ctv k:Value}{c' f b:Addr}{p1 p2 p3:Pos}{j:Nat}{its:Array Value}
  (hf:s.heap.get? f=some (kla_obj "<lambda>" qual params (.Subscript (.Name x p1) (.Constant (.int 0) j p2) p3) scope [] pm c' ctv))(hc:s.heap.CodeRec (.ref c') qual)(hroom:A.depth<iO)(hnl:s.heap.NoLimit)
  (hb:∀v,iR (kla_fn "<lambda>" qual params (.Subscript (.Name x p1) (.Constant (.int 0) j p2) p3) scope [] pm (.ref c') ctv) ⟨[v],[]⟩=pure [(x,v)])
  (hx:scope.names.lookup x=some .local)(hd:(x==("__debug__":Str))=false)(hk:scope.kind=.function)(hcell:∀y∈scope.names,y.2≠.cell)(hco:scope.isCoroutine=false)(hgen:scope.isGenerator=false)
  (ht:IsTup s.heap b its)(h0:its[0]? =some k)(h:∀h' t',Kp s.heap h'->Q k {s with heap:=h',toks:=t'}):wpAny (model prog w) A (call (.ref f) [.ref b]) Q E s:=by
 refine fH (kla_callFunE hroom hf rfl hco hgen rfl hc ?_);rw[hb];refine ai (wpAny_newFunctionEnv hcell (fun y hy=>?_) (fun h₁ hns hsb=>⟨hnl.fresh _ hsb,?_⟩) hk)
 ·have e:y=(x,.ref b):=by simpa using hy
  rw[e];exact hx
 have hk₁:Kp s.heap h₁:=fun b o e=>hsb.extBut b o (aE (ax e)) (af _ e);refine kla_codeExpr (Subscript_ (Dw (wpAny_loadName_local hk hx hns (v:=.ref b) (by simp) ?_) hd));refine wpAny_Constant_int ?_;have ht':IsTup h₁ b its:=by
  obtain⟨o,e,c⟩:=ht;exact⟨o,hk₁ _ _ e,c⟩
 have hsz:0<its.size:=by
  rcases Nat.eq_zero_or_pos its.size with z|z
  ·rw[Array.getElem?_eq_none (by omega)]at h0;cases h0
  ·exact z
 exact oW (x:=k) ht'.typeIs slot_tuple_getitem.lookup
  (getItem_tuple (j:=0) (Q:=fun r s'=>r=k/\_) ht' (by decide) (by decide) (by rw[ze (by decide) (by omega)];rfl) h0 ⟨rfl,h _ _ hk₁⟩) rfl
noncomputable def Keys(prog:Program)(w:World)(A:Around)(f:Value)(vs:List Value)(ks:List Str)(h0:Heap):Prop:=
 ∀(i:Nat)(v:Value)(k:Str),vs[i]? =some v->ks[i]? =some k->∀(s1:Shared)(E:Value->Shared->Prop)(Q':Value->Shared->Prop),Kp h0 s1.heap->
  (∀t h' t',Kp s1.heap h'->Q' (.str k t) {s1 with heap:=h',toks:=t'})->wpAny (model prog w) A (call f [v]) Q' E s1
theorem strs_snoc{k:Str}{t:Tok}:∀{vs:List Value}{ks:List Str},wX vs ks->wX (vs++[.str k t]) (ks++[k])
 |_,_,.nil=>.cons k t .nil
 |_,_,.cons y u h=>.cons y u (strs_snoc h)
theorem AI{a kS:Addr}{kv out:List Value}{e e1:Nat}{st:SortSt}{P:dB->Shared->Prop}(hout:(arrOf st).map (·.2)=dF out)(hz:out.length<64)(hkz:kv.length<64)(hf:failedOf st=none)
  (hk:s.heap.get? kS=some (seqObj "list" kv.toArray e))(ha:s.heap.get? a=some (seqObj "list" #[] e1))(hne:kS≠a)
  (h:∀h' c,(∀b o,b≠a->b≠kS->s.heap.get? b=some o->h'.get? b=some o)->h'.get? a=some (seqObj "list" out.toArray c)->P (.done (.ret .none)) {s with heap:=h'}):
  wpAny (model prog w) A (ksk_tail a false e1 (.ref kS) st) P E s:=by
 have s1:=bO s.heap kS (aW fun _=>(#[]:Array Value));have ha1:(s.heap.update kS (aW fun _=>(#[]:Array Value))).get? a=some (seqObj "list" #[] e1):=(s1.2 a (bK hne)).trans ha;have s2:=bO (s.heap.update kS (aW fun _=>(#[]:Array Value))) a (aW fun _=>dF out);obtain⟨c2,hc2⟩:∃c2,((s.heap.update kS (aW fun _=>(#[]:Array Value))).update a (aW fun _=>dF out)).get? a=some (seqObj "list" (dF out) c2):=⟨_,oZ ha1 fun _=>dF out⟩;unfold ksk_tail;try dsimp only
 rw[hout];refine aa (eU hk rfl ?_ (by rw[ay];exact fb hkz) (bp _));refine aa (fE ?_);refine aa (qA ha1 rfl ?_);refine aa (eU ha1 rfl ?_ (bp _) (by simpa using AL hz));rw[hf];simp only[bne_self_eq_false,aL,if_false];exact ai (h _ c2 (fun b o h1 h2 q=>(s2.2 b h1).trans ((s1.2 b h2).trans q)) hc2)
theorem end_ok{a kS:Addr}{kv vs:List Value}{ks:List Str}{e e1:Nat}{P:dB->Shared->Prop}(nd:ks.Nodup)(r:wX kv ks)(hl:ks.length=vs.length)(h64:vs.length<64)
  (hk:s.heap.get? kS=some (seqObj "list" kv.toArray e))(ha:s.heap.get? a=some (seqObj "list" #[] e1))(hne:kS≠a)
  (h:∀h' c,(∀b o,b≠a->b≠kS->s.heap.get? b=some o->h'.get? b=some o)->h'.get? a=some (seqObj "list" (fK (lG ks) vs).toArray c)->P (.done (.ret .none)) {s with heap:=h'}):
  wpAny (model prog w) A (ksk_end a false vs.toArray e1 (.ref kS) (dF kv)) P E s:=by
 have hv:vs.toArray.size=vs.length:=by simp
 have hkl:=qX r;have hlen:kv.length=vs.length:=hkl.trans hl;unfold ksk_end;simp only[aL,if_false];by_cases hn:vs.length<2
 ·have eo:fK (lG ks) vs=vs:=if_pos hn
  rw[eo]at h;rw[if_pos (by rw[hv];exact hn),if_pos (by rw[hv];exact hn)];refine aa (ai (aa ?_));rw[StateT.run_pure];refine ai (AI (out:=vs) ?_ h64 (by omega) rfl hk ha hne h);show(kv.toArray.zip vs.toArray).map (·.2)=vs.toArray;apply xk;simp[List.map_snd_zip,hlen]
 ·have h2:2<=vs.length:=by omega
  have eo:fK (lG ks) vs=(run (lG ks) (dh vs.length)).toList.map fun i=>vs.getD i .none:=if_neg hn;rw[eo]at h;rw[if_neg (by rw[hv];exact hn),if_neg (by rw[hv];exact hn)];obtain⟨κ,hk1,hk2⟩:=Dq (prog:=prog) (w:=w) (A:=A) (h0:=s.heap) r (by omega) s (fun _ _ q=>q);have T:Tot (lG ks) vs.length:=by rw[<-hl];exact qU nd
  obtain⟨P1,U1,O1⟩:=fw T (by omega:1<=vs.length);refine aa (hk1 _ _ (aa ?_));have key:=kat_run (prog:=prog) (w:=w) (A:=A) (E:=E) (κ:=κ) (ks:=kv) (vs:=vs) (s:=s)
   (Q:=fun st' s'=>s'=s/\arrOf st'=(run (lG ks) (dh vs.length)).map (kas_item (kv.toArray.zip vs.toArray))/\failedOf st'=none)
   (G:=fun p s'=>s'=s/\p=run (lG ks) (dh vs.length)) hlen h2 h64
   (fun p st' s' _ e1 e2 e3=>⟨e3.1,by rw[e1,e3.2],e2⟩)
   (wp_run (S:=fun s'=>s'=s) (fun i j C s' hi hj hij hs hC=>by
    subst hs;exact hk2 i j C (by omega) (by omega) hij (hC _ rfl)) _ _ O1 rfl fun s' hs=>⟨hs,rfl⟩)
  refine cH key ?_ fun _ _ z=>z;rintro⟨⟨⟩,st'⟩ s' ⟨rfl,har,hf⟩;exact AI (kat_snds hlen har) (by rw[av,cq,P1.size];exact h64) (by omega) hf hk ha hne h
theorem Em{a:Addr}{n:Nat}{h0:Heap}{f:Value}{vs:List Value}{ks:List Str}{P:dB->Shared->Prop}(nd:ks.Nodup)(hl:ks.length=vs.length)(ho:s.heap.get? a=some (seqObj "list" vs.toArray n))
  (k0:∀b o,h0.get? b=some o->s.heap.get? b=some o/\b≠a)(h64:vs.length<64)(ky:Keys prog w A f vs ks h0)
  (h:∀h' t' c,(∀b o,b≠a->s.heap.get? b=some o->h'.get? b=some o)->h'.get? a=some (seqObj "list" (fK (lG ks) vs).toArray c)->P (.done (.ret .none)) {s with heap:=h',toks:=t'}):
  wpAny (model prog w) A (ksk_tree a f false) P E s:=by
 have hv:vs.toArray.size=vs.length:=by simp
 have ha0:a<s.heap.objs.size:=ax ho;have s1:=bO s.heap a (aW fun _=>(#[]:Array Value));obtain⟨e1,ho1⟩:∃e1,(s.heap.update a (aW fun _=>(#[]:Array Value))).get? a=some (seqObj "list" #[] e1):=⟨_,oZ ho fun _=> #[]⟩;unfold ksk_tree;refine aa (listItems_at ho rfl ?_);refine aa (eU ho rfl ?_ (by rw[hv];exact fb h64) (bp _));refine aa (qA ho1 rfl ?_);refine aa (wpAny_newTuple ?_ (show vs.length<=_ from fb h64));refine aa (mG ?_ (bp _));refine bz ?_;have ha1:((s.heap.update a (aW fun _=>(#[]:Array Value))).push (seqObj "tuple" vs.toArray 0)).get? a=some (seqObj "list" #[] e1):=af _ ho1;have kp1:∀b o,b≠a->s.heap.get? b=some o->((s.heap.update a (aW fun _=>(#[]:Array Value))).push (seqObj "tuple" vs.toArray 0)).get? b=some o:=fun b o hb q=>af _ ((s1.2 b hb).trans q);have hsz:s.heap.objs.size<((s.heap.update a (aW fun _=>(#[]:Array Value))).push (seqObj "tuple" vs.toArray 0)).objs.size:=by rw[Dy,lr];omega
 show wpAny _ _ (ksk_rest a f false vs.toArray e1 (.ref ((s.heap.update a (aW fun _=>(#[]:Array Value))).push (seqObj "tuple" vs.toArray 0)).objs.size)) _ _
  {s with heap:=((s.heap.update a (aW fun _=>(#[]:Array Value))).push (seqObj "tuple" vs.toArray 0)).push (seqObj "list" #[] 0)}
 generalize(s.heap.update a (aW fun _=>(#[]:Array Value))).push (seqObj "tuple" vs.toArray 0)=h1 at ha1 kp1 hsz⊢;have hne:h1.objs.size≠a:=cS (fj ha0 hsz);unfold ksk_rest;refine aa (fF ?_)
 first
  |rw[List.forIn_toArray]
  | (rw[<-Hh];simp only[Ha])
  |rw[<-Hh]
 refine aa (ksk_fold (fun i s'=>∃h2 t2 kv e,s'={s with heap:=h2,toks:=t2}/\wX kv (ks.take i)/\h2.get? h1.objs.size=some (seqObj "list" (dF kv) e)/\h2.get? a=some (seqObj "list" #[] e1)/\∀b o,b≠a->s.heap.get? b=some o->h2.get? b=some o)
  vs 0 _ ⟨_,s.toks,[],0,rfl,by rw[List.take_zero];exact .nil,au _ rfl,af _ ha1,fun b o hb q=>af _ (kp1 b o hb q)⟩ ?_ ?_)
 ·rintro j x s' hx ⟨h2,t2,kv,e,rfl,r,hk,ha,kp⟩
  rw[sR]at r;have hj:j<vs.length:=(aY.mp hx).1;have hkj:ks[j]? =some (ks[j]'(by omega)):=ah (by omega);have hkv:kv.length=j:=by rw[qX r,dD];omega
  refine aa (gX (ky j x _ hx hkj _ _ _ (fun b o q=>kp b o (k0 b o q).2 (k0 b o q).1) fun t h3 t3 k3=>?_));have s3:=bO h3 h1.objs.size (aW (·.push (fY (ks[j]'(by omega)) t)));have ea:(dF kv).push (fY (ks[j]'(by omega)) t)=dF (kv++[fY (ks[j]'(by omega)) t]):=by simp
  obtain⟨c2,hc2⟩:∃c2,(h3.update h1.objs.size (aW (·.push (fY (ks[j]'(by omega)) t)))).get? h1.objs.size=some (seqObj "list" (dF (kv++[fY (ks[j]'(by omega)) t])) c2):=⟨_,by rw[<-ea];exact oZ (k3 _ _ hk) (·.push _)⟩;try dsimp only
  refine aa (eU (k3 _ _ hk) rfl ?_ (by rw[ay];exact fb (by omega)) (aF (sS (Array.size_push ..)) (by rw[ay];exact AL (by omega))));refine ai ⟨rfl,_,t3,kv++[fY (ks[j]'(by omega)) t],c2,rfl,?_,hc2,(s3.2 a (bK hne)).trans (k3 _ _ ha),fun b o hb q=>(s3.2 b (aE (fj (ax q) hsz))).trans (k3 _ _ (kp b o hb q))⟩;rw[sR,dQ,hkj];exact strs_snoc r
 ·rintro s' ⟨h2,t2,kv,e,rfl,r,hk,ha,kp⟩
  rw[sR,BJ (by omega)]at r;try dsimp only
  refine aa (listItems_at hk rfl ?_);exact end_ok nd r hl h64 hk ha hne fun h' c k q=>h h' t2 c (fun b o hb z=>k b o hb (aE (fj (ax z) hsz)) (kp b o hb z)) q
theorem zH{l q:Addr}{vs:List Value}{ks:List Str}{Q:Value->Shared->Prop}(nd:ks.Nodup)(hlk:ks.length=vs.length)(hl:s.heap.IsList l vs.toArray)(h64:vs.length<64)(ky:Keys prog w A.in1.in1 (.ref q) vs ks s.heap)
  (h:∀h' t' c,Kp s.heap h'->h'.get? (s.heap.objs.size+1)=some (seqObj "list" (fK (lG ks) vs).toArray c)->Q (.ref (s.heap.objs.size+1)) {s with heap:=h',toks:=t'}):
  wpAny (model prog w) A (call (.builtin "sorted") [.ref l] [(ao "key",.ref q)]) Q E s:=by
 refine call_function_entry_kw kind_sorted plain_sorted entry_sorted (ksk_s1 _ _) ?_;unfold Builtin.«sorted»;refine aa (m:=checkCount "sorted" 1 1 _) (ai ?_);refine aa (collect_list hl ?_ (by simpa using fb h64));refine aa (mG ?_ (show vs.length<=_ from fb h64));have hz:((s.heap.push (seqObj "list" #[] 0)).update s.heap.objs.size (aW (·++vs.toArray))).objs.size=s.heap.objs.size+1:=by rw[lr,Dy]
 have kp:Kp s.heap ((s.heap.push (seqObj "list" #[] 0)).update s.heap.objs.size (aW (·++vs.toArray))):=fun b o e=>by
  have hb:=ax e;rw[aD _ _ (cS hb)];exact af _ e
 have hg:(((s.heap.push (seqObj "list" #[] 0)).update s.heap.objs.size (aW (·++vs.toArray))).push (seqObj "list" vs.toArray 0)).get? (s.heap.objs.size+1)=some (seqObj "list" vs.toArray 0):=by
  rw[<-hz];exact au _ rfl
 show wpAny _ _ _ _ _ {s with heap:=((s.heap.push (seqObj "list" #[] 0)).update s.heap.objs.size (aW (·++vs.toArray))).push (seqObj "list" vs.toArray 0)};rw[hz];have kp2:Kp s.heap (((s.heap.push (seqObj "list" #[] 0)).update s.heap.objs.size (aW (·++vs.toArray))).push (seqObj "list" vs.toArray 0)):=fun b o e=>af _ (kp b o e);generalize((s.heap.push (seqObj "list" #[] 0)).update s.heap.objs.size (aW (·++vs.toArray))).push (seqObj "list" vs.toArray 0)=h1 at hg kp2⊢;refine aa (bz (wpAny_call_entry_kw Dx ⟨_,hg,rfl⟩ AF ?_ (ksk_l1 _ _)));show wpAny (model prog w) A.in1.in1 (Builtin.«list.sort» ⟨[.ref (s.heap.objs.size+1)],[(ao "key",.ref q)]⟩) _ _ _;rw[ksk_t1];exact Em (s:={s with heap:=h1}) nd hlk hg (fun b o e=>⟨kp2 b o e,aE (bB (ax e))⟩) h64 ky fun h' t' c k z=>⟨_,rfl,ai ⟨_,rfl,h h' t' c (fun b o e=>k b o (aE (bB (ax e))) (kp2 b o e)) z⟩⟩
end
structure Tb where
 P:Addr
 pos:Pos
 q:Str
noncomputable def Tab(T:Tb)(H:Hp):Prop:=H T.P=some (.tbl #[])\/∃c' oc u vs t,H T.P=some (.tbl #[rawInt T.pos.line,rawInt T.pos.col,.ref c'])/\H c'=some (.frz oc u)/\oc.data=.fields vs/\vs[1]? =some (.str T.q t)
structure Gr(T:Tb)(H H':Hp):Prop where
 keep:∀b o,b≠T.P->H b=some o->H' b=some o
 tab:Tab T H->Tab T H'
theorem Gr.refl(T:Tb)(H:Hp):Gr T H H:=⟨fun _ _ _ e=>e,fun t=>t⟩
theorem Gr.trans{T:Tb}{H H1 H2:Hp}(a:Gr T H H1)(b:Gr T H1 H2):Gr T H H2:=⟨fun c o n e=>b.keep c o n (a.keep c o n e),fun t=>b.tab (a.tab t)⟩
theorem Gr.of{T:Tb}{H H':Hp}(e:aS H H'):Gr T H H':=
 ⟨fun b o _ q=>e b o q,fun t=>by
  rcases t with t|⟨c',oc,u,vs,tk,h1,h2,h3,h4⟩
  ·exact .inl (e _ _ t)
  ·exact .inr ⟨c',oc,u,vs,tk,e _ _ h1,e _ _ h2,h3,h4⟩⟩
theorem Tab.ne{T:Tb}{H:Hp}(t:Tab T H){b:Addr}{o:HO}(e:H b=some o)(n:∀ps,o≠.tbl ps):b≠T.P:=by
 intro z;subst z;rcases t with t|⟨c',oc,u,vs,tk,h1,h2,h3,h4⟩
 ·rw[t]at e;exact n _ (aP e).symm
 ·rw[h1]at e;exact n _ (aP e).symm
section
variable {K:ae}{T:Tb}{H H':Hp}{a:Addr}{xs:List V}
theorem Gr.at(g:Gr T H H')(t:Tab T H){o:HO}(e:H a=some o)(n:∀ps,o≠.tbl ps):H' a=some o:=g.keep a o (t.ne e n) e
theorem Gr.lst(g:Gr T H H')(t:Tab T H)(e:H a=some (.lst xs)):H' a=some (.lst xs):=g.at t e fun _ z=>by cases z
theorem Gr.zy(g:Gr T H H')(t:Tab T H)(e:H a=some (.tup xs)):H' a=some (.tup xs):=g.at t e fun _ z=>by cases z
theorem Gr.frz(g:Gr T H H')(t:Tab T H){o:Obj}{u:HO}(e:H a=some (.frz o u)):H' a=some (.frz o u):=g.at t e fun _ z=>by cases z
theorem Gr.seq(g:Gr T H H')(t:Tab T H)(h:SqL K H a xs):SqL K H' a xs:=by
 rcases h with(h|⟨o,h⟩) |h
 ·exact .inl (.inl (g.lst t h))
 ·exact .inl (.inr ⟨o,g.frz t h⟩)
 ·exact .inr h
end
theorem un_tab{P:Program}{w:World}{fs:List Addr}{H:Hp}{h h':Heap}{p c':Addr}{oc:Obj}{ps more:Array Value}(hok:HOk P w H h)(hx:∀b o,b≠p->h.get? b=some o->h'.get? b=some o)(hP:H p=some (.tbl ps))(hge:h.objs.size<=c')
  (hp':h'.get? p=some (tabObj (ps++more)))(hc:h'.get? c'=some oc):
  Un fs [] H (upd (upd H c' (.frz oc (.ext fun _=>True))) p (.tbl (ps++more))) h h'/\HOk P w (upd (upd H c' (.frz oc (.ext fun _=>True))) p (.tbl (ps++more))) h':=by
 have hn:H c'=none:=hok.fresh hge;have ne:c'≠p:=bK (bG hP hn);have out:∀{b:Addr}{o:HO},H b=some o->b≠p->upd (upd H c' (.frz oc (.ext fun _=>True))) p (.tbl (ps++more)) b=some o:=fun{b o} e n=>by
  rw[aN n,aN (bG e hn)];exact e
 have nt:∀{b:Addr}{o:HO},H b=some o->(∀vs,o≠.tbl vs)->b≠p:=fun{b o} e n z=>by
  subst z;rw[hP]at e;exact n _ (aP e).symm
 refine⟨⟨fun b o e n _ _=>hx b o (fun z=>by rw[z,hP]at n;cases n) e,fun b o e n _ _=>⟨o.slots,hx b o (fun z=>by rw[z,hP]at n;cases n) e⟩,fun b o e n _=>?_,fun b o e _=>?_,fun b xs e=>out e (nt e fun _ z=>by cases z),
  fun b o u e=>out e (nt e fun _ z=>by cases z),fun b vs e=>?_⟩,fun b o e=>?_⟩
 ·have hb:b≠p:=fun z=>by rw[z,hP]at n;cases n
  rw[aN hb,aN (aE (aZ (ax e) hge))];exact n
 ·by_cases hb:b=p
  ·exact⟨_,by rw[hb];exact hp'⟩
  ·exact⟨o,hx b o hb e⟩
 ·by_cases hb:b=p
  ·subst hb
   rw[hP]at e;cases e;exact⟨more,aq⟩
  ·exact⟨#[],by rw[out e hb];simp⟩
 ·by_cases hb:b=p
  ·subst hb
   rw[aq]at e;cases e;exact hp'
  ·rw[aN hb]at e
   by_cases hc2:b=c'
   ·subst hc2
    rw[aq]at e;cases e;exact⟨hc,trivial,⟨_,hc⟩,fun _ _ _ _=>trivial⟩
   ·rw[aN hc2]at e
    refine(hok b o e).pb (fun d v hd q=>hx d v ?_ q) (fun d q=>out q (nt q fun _ z=>by cases z)) fun d xs q=>out q (nt q fun _ z=>by cases z);rcases hd with z|z
    ·rw[z];exact hb
    ·exact nt z fun _ y=>by cases y
noncomputable def BM(mg:Str->Option Value)(h:Heap):Prop:=∃bm ob,mg "__builtins__"=some (.ref bm)/\bm≠lg/\bm≠bh/\h.get? bm=some ob/\ob.cls=.type "module"/\ob.dict=some lg/\ob.data=.plain
noncomputable def rSortK(K:ae)(T:Tb):List V->Hp->VK->Prop:=fun xs H Q=>∃a ys ks,xs=[V.ref a]/\SqL K H a ys/\ks.length<64/\ks.Nodup/\mr H ys ks/\Tab T H/\
 ∀H2 l,Gr T H H2->H2 l=none->Q (.ref l) (upd H2 l (.lst (sortBy .non ks ys)))
noncomputable def qV(K:ae)(T:Tb)(te:TE):TE:=fun σ H Q=>iB te iG σ H fun xs H1=>rSortK K T xs H1 Q
structure GV(env:Env)(params:Arguments)(x:Str)(body:Expr)(scope:Scope):Prop where
 cl:DC scope env=pure []
 df:defaultsOf params env=([],[])
 bd:∀(qual:Str)(pm ctv v:Value)(c':Addr),iR (kla_fn "<lambda>" qual params body scope [] pm (.ref c') ctv) ⟨[v],[]⟩=pure [(x,v)]
 lk:scope.names.lookup x=some .local
 dbg:(x==("__debug__":Str))=false
 kd:scope.kind=.function
 nc:∀y∈scope.names,y.2≠.cell
 co:scope.isCoroutine=false
 gn:scope.isGenerator=false
section
variable {X:Cx}{e:Expr}{te:TE}{T:Tb}{c:Addr}{p kp pos p1 p2 p3:Pos}{x:Str}{j:Nat}{params:Arguments}{scope:Scope}
theorem qJ{prog:Program}{w:World}{A:Around}{H:Hp}{s:Shared}{f c':Addr}{qual:Str}{pm ctv:Value}(O:GV X.env params x (.Subscript (.Name x p1) (.Constant (.int 0) j p2) p3) scope)(ok:HOk X.prog X.w H s.heap)
  (hf:s.heap.get? f=some (kla_obj "<lambda>" qual params (.Subscript (.Name x p1) (.Constant (.int 0) j p2) p3) scope [] pm c' ctv))(hc:s.heap.CodeRec (.ref c') qual)(hroom:A.depth<iO)(hnl:s.heap.NoLimit):
  ∀{ys:List V}{ks:List Str}{vs:List Value},mr H ys ks->bM ys vs->Keys prog w A (.ref f) vs ks s.heap
 |_,_,_,.nil,.nil=>fun i v k h1=>by simp at h1
 |_,_,_,.cons y t,.cons r q=>by
  intro i v k h1 h2 s1 E Q' kp hq;cases i with
  |zero=>
   obtain⟨a,rest,rfl,ea⟩:=y;cases r;have e1:v=aX a:=by simpa using h1.symm
   subst e1;obtain⟨_,its,rv,o,g1,g2,n,g3⟩:=ok a _ ea;cases rv with
   |cons r0 _=>
    obtain⟨tk,rfl⟩:=r0;obtain rfl:=aP h2;exact GI (kp _ _ hf) (hc.keeps kp) hroom (hnl.keeps kp) (fun v=>O.bd _ _ _ v _) O.lk O.dbg O.kd O.nc O.co O.gn ⟨o,kp _ _ g1,g2,n,g3⟩ (by simp) fun h' t' k'=>hq tk h' t' k'
  |succ i=>exact qJ O ok hf hc hroom hnl t q i v k (by simpa using h1) (by simpa using h2) s1 E Q' kp hq
theorem tU{pins:List (Addr×Obj)}{σ:L2.St}{H:Hp}{s:Shared}{Q:VK}{a f c':Addr}{ys:List V}{ks:List Str}{pm ctv:Value}(O:GV X.env params x (.Subscript (.Name x p1) (.Constant (.int 0) j p2) p3) scope)(I:Inv X pins σ H s)
  (hf:s.heap.get? f=some (kla_obj "<lambda>" T.q params (.Subscript (.Name x p1) (.Constant (.int 0) j p2) p3) scope [] pm c' ctv))(hc:s.heap.CodeRec (.ref c') T.q)(hroom:X.A.depth<iO)
  (hq:SqL X.K H a ys)(h64:ks.length<64)(nd:ks.Nodup)(hk:mr H ys ks)(q:∀l,H l=none->Q (.ref l) (upd H l (.lst (sortBy .non ks ys)))):
  wpAny (model X.prog X.w) X.A (call (.builtin "sorted") [.ref a] [(ao "key",.ref f)]) (EP X pins σ Q) X.xe s:=by
 obtain⟨its,r',pl,hz⟩:=I.list hq;have hl:ks.length=ys.length:=pU hk;have hlen:=r'.length;have hv:ks.length=its.length:=by omega
 refine zH nd hv pl.isList (by omega) (qJ (A:=X.A.in1.in1) O I.hok hf hc hroom I.nolimit hk r') fun h' t' cc k hc'=>?_;have hz2:(sortBy V.non ks ys).length<=sizeLine:=by
  unfold sortBy;rw[av,ord_len ks nd];omega
 exact⟨.ref (s.heap.objs.size+1),_,I.laid (t':=t') k (dv _) (show cZ X.prog X.w _ _ _ (.lst (sortBy .non ks ys))from⟨hz2,_,cc,Fj nd hl r',hc'⟩),rfl,q _ (I.hok.fresh (dv _))⟩
theorem E3(he:PE X e te)(hs:aM [e] X.env=(false,eval e X.env)::aM [] X.env)(hg:Gl X "sorted")(hm:X.mg "sorted"=none)(hcode:X.env.code=.ref c)(hC:CodeHd X.base c T.P)(hq:X.env.qual++"<lambda>"=T.q)(hb:BM X.mg X.base)
  (O:GV X.env params x (.Subscript (.Name x p1) (.Constant (.int 0) j p2) p3) scope)(hroom:X.A.depth<iO):
  PE X (.Call (.Name "sorted" p) [e] [⟨some (ao "key"),.Lambda params (.Subscript (.Name x p1) (.Constant (.int 0) j p2) p3) scope T.pos,kp⟩] pos) (qV X.K T te):=by
 intro pins s σ H Q I h;refine dN (kz (u:=.builtin "sorted") I hg hm (by decide+kernel) ?_);refine callWith_kw (thn (gb he jE hs pos pins s σ H _ I h) fun us s1 ⟨vs,H1,I1,r,a,ys,ks,ev,sq,h64,nd,hk,tb,q⟩=>?_) (by rw[hs];rfl) (by rw[hs];rfl);subst ev;obtain⟨u,rfl,rx⟩:=vals1 r;cases rx;obtain⟨bm,ob,b1,b2,b0,b3,b4,b5,b6⟩:=hb;have hgs:s1.heap.Ns bh X.mg:=I1.mod.glob.keeps I1.bk;have hbP:bm≠T.P:=fun z=>by
  have n:=(I1.bs _ _ b3).2;rw[z]at n;rcases tb with t|⟨_,_,_,_,_,t,_⟩<;>(rw[t]at n;cases n)
 have hgP:bh≠T.P:=fun z=>by
  obtain⟨o,es,ep,g1,g2,_⟩:=I1.mod.glob;have n:=(I1.bs _ _ g1).2;rw[z]at n;rcases tb with t|⟨_,_,_,_,_,t,_⟩<;>(rw[t]at n;cases n)
 have hB:s1.heap.BuiltinsAt X.mg T.P:=⟨bm,ob,b1,b2,b0,hbP,I1.bk _ _ b3,b4,b5,b6⟩;refine kws_cons (kla_eval O.df ?_);rw[hq];rcases tb with t|⟨c',oc,u,vs,tk,t,hcT,hoc,hvs⟩
 ·refine kla_makeFunction (mg:=X.mg) O.cl I1.ok.glob hgs hcode (hC.keeps I1.bk) (ps:= #[]) (I1.hok _ _ t) True.intro rfl hgP hB fun c' ctv h' tk hx hge hlt hrec htb=>kws_nil ?_
  obtain⟨c2,oc,vs,t2,ec,hoc,hd,hv⟩:=hrec;cases ec;have hx':∀b o,b≠T.P->s1.heap.get? b=some o->(h'.push (kla_obj "<lambda>" T.q params (.Subscript (.Name x p1) (.Constant (.int 0) j p2) p3) scope [] ((X.mg "__name__").getD .none) c' ctv)).get? b=some o:=fun b o n e=>af _ (hx b o n e);obtain⟨un,ok⟩:=un_tab (fs:=frs X.stack) I1.hok hx' t hge (af _ htb) (af _ hoc);have I2:=I1.call (g':=s1.gens) (t':=tk) (d':=s1.drawn) un ok I1.bare (fun b z=>absurd z (by simp));have tb1:Tab T H1:=.inl t;have gr:Gr T H1 (upd (upd H1 c' (.frz oc (.ext fun _=>True))) T.P (.tbl (#[]++ #[rawInt T.pos.line,rawInt T.pos.col,aX c']))):=by
   have hn:H1 c'=none:=I1.hok.fresh hge;refine⟨fun b o n e=>by rw[aN n,aN (bG e hn)];exact e,fun _=>.inr ⟨c',oc,.ext fun _=>True,vs,t2,?_,?_,hd,hv⟩⟩
   ·rw[aq];simp
   ·rw[aN (bK (bG t hn)),aq]
  exact tU O I2 (au _ rfl) ⟨c',oc,vs,t2,rfl,af _ hoc,hd,hv⟩ hroom (gr.seq tb1 sq) h64 nd (Paired.vZ hk fun v k ⟨b,rest,e1,e2⟩=>⟨b,rest,e1,gr.zy tb1 e2⟩) (q _ · gr)
 ·refine kla_makeFunctionHit (mg:=X.mg) O.cl I1.ok.glob hgs hcode (hC.keeps I1.bk) (I1.hok _ _ t) (by simp[TriplesOk,rawInt]) (cv:=.ref c') (by simp[codeAmong,rawInt]) hB fun ctv h' tk hk' hsz=>kws_nil ?_
  have I2:=I1.call (H':=H1) (h':=h'.push (kla_obj "<lambda>" T.q params (.Subscript (.Name x p1) (.Constant (.int 0) j p2) p3) scope [] ((X.mg "__name__").getD .none) c' ctv)) (g':=s1.gens) (t':=tk) (d':=s1.drawn) (ch:=[])
   (Un.kept fun b o e=>af _ (hk' b o e)) (I1.hok.kept fun b o e=>af _ (hk' b o e)) I1.bare (fun b z=>absurd z (by simp))
  exact tU O I2 (au _ rfl) ⟨c',oc,vs,_,rfl,af _ (hk' _ _ (I1.hok _ _ hcT).1),hoc,hvs⟩ hroom sq h64 nd hk fun l hl=>q H1 l (Gr.refl _ _) hl
end
end Lm
namespace Lm
open PySem PySem.Spec PySem.W PyProof.Rows L2 Q R
noncomputable def oo(lx:Str)(p:Pos):Arguments:={posonlyargs:=[],args:=[⟨lx,none,p⟩],vararg:=none,kwonlyargs:=[],kw_defaults:=[],kwarg:=none,defaults:=[]}
noncomputable def isArg(lx:Str):List Arg->Bool
 |x::r=>r.isEmpty&&(x.annotation.isNone&&x.arg==lx)
 | []=>false
noncomputable def uA(lx:Str)(a:Arguments):Bool:=a.posonlyargs.isEmpty&&(a.vararg.isNone&&(a.kwonlyargs.isEmpty&&(a.kw_defaults.isEmpty&&(a.kwarg.isNone&&(a.defaults.isEmpty&&isArg lx a.args)))))
theorem ix{a b:Bool}(h:(a&&b)=true):a=true/\b=true:=by rwa [ag]at h
theorem emp{α:Type}{l:List α}(h:l.isEmpty=true):l=[]:=List.isEmpty_iff.mp h
theorem non{α:Type}{l:Option α}(h:l.isNone=true):l=none:=Option.isNone_iff_eq_none.mp h
theorem Ag{lx:Str}{a:Arguments}(h:uA lx a=true):∃p,a=oo lx p:=by
 obtain⟨po,ar,va,ko,kd,kw,df⟩:=a;obtain⟨h1,h⟩:=ix h;obtain⟨h2,h⟩:=ix h;obtain⟨h3,h⟩:=ix h;obtain⟨h4,h⟩:=ix h;obtain⟨h5,h⟩:=ix h;obtain⟨h6,h⟩:=ix h;cases ar with
 |nil=>exact(aB h).elim
 |cons x r=>
  obtain⟨h7,h⟩:=ix h;obtain⟨h8,h9⟩:=ix h;obtain⟨y,an,p⟩:=x;cases emp h1;cases non h2;cases emp h3;cases emp h4;cases non h5;cases emp h6;cases emp h7;cases non h8;cases eq_of_beq h9;exact⟨p,rfl⟩
noncomputable def m8(lx:Str)(sc:Scope):Bool:=decide (sc.names=[(lx,.local)])&&(decide (sc.kind=.function)&&(decide (sc.isCoroutine=false)&&(decide (sc.isGenerator=false)&&(lx==("__debug__":Str))==false)))
noncomputable def isNm(lx:Str):Expr->Bool
 |.Name x _=>x==lx
 |_=>false
theorem Bk{lx:Str}{e:Expr}(h:isNm lx e=true):∃p,e=.Name lx p:=by
 cases e with
 |Name x p=>cases eq_of_beq h;exact⟨p,rfl⟩
 |_=>exact(aB h).elim
noncomputable def isZero:Expr->Bool
 |.Constant c _ _=>decide (c=.int 0)
 |_=>false
theorem CQ{e:Expr}(h:isZero e=true):∃j p,e=.Constant (.int 0) j p:=by
 cases e with
 |Constant c j p=>cases of_decide_eq_true h;exact⟨j,p,rfl⟩
 |_=>exact(aB h).elim
noncomputable def Bl(lx:Str):Expr->Bool
 |.Subscript a b _=>isNm lx a&&isZero b
 |_=>false
theorem Aj{lx:Str}{e:Expr}(h:Bl lx e=true):∃p1 j p2 p3,e=.Subscript (.Name lx p1) (.Constant (.int 0) j p2) p3:=by
 cases e with
 |Subscript a b p=>
  obtain⟨h1,h2⟩:=ix h;obtain⟨p1,rfl⟩:=Bk h1;obtain⟨j,p2,rfl⟩:=CQ h2;exact⟨_,_,_,_,rfl⟩
 |_=>exact(aB h).elim
noncomputable def GF(lx:Str)(pos:Pos):Expr->Bool
 |.Lambda params body scope lp=>decide (lp=pos)&&(uA lx params&&(m8 lx scope&&Bl lx body))
 |_=>false
theorem C9{lx:Str}{pos:Pos}{e:Expr}(h:GF lx pos e=true):∃pa scope p1 j p2 p3,e=.Lambda (oo lx pa) (.Subscript (.Name lx p1) (.Constant (.int 0) j p2) p3) scope pos/\m8 lx scope=true:=by
 cases e with
 |Lambda params body scope lp=>
  obtain⟨h1,h⟩:=ix h;obtain⟨h2,h⟩:=ix h;obtain⟨h3,h4⟩:=ix h;cases of_decide_eq_true h1;obtain⟨pa,rfl⟩:=Ag h2;obtain⟨p1,j,p2,p3,rfl⟩:=Aj h4;exact⟨_,_,_,_,_,_,rfl,h3⟩
 |_=>exact(aB h).elim
noncomputable def chkKw(lx:Str)(pos:Pos):List Keyword->Bool
 |k::r=>r.isEmpty&&(decide (k.arg=some (ao "key"))&&GF lx pos k.value)
 | []=>false
noncomputable def GG(sc:Scope)(N:List Str)(ce:CE)(lx:Str)(pos:Pos):Expr->Bool
 |.Call f es ks _=>isNm "sorted" f&&(j7 sc "sorted"&&(jJ sc N (.cons ce .nil) es&&chkKw lx pos ks))
 |_=>false
noncomputable def chkTg(sc:Scope)(N:List Str)(i:Nat):List Expr->Bool
 |g::r=>r.isEmpty&&lS sc N true (.name i) g
 | []=>false
noncomputable def GH(sc:Scope)(N:List Str)(i:Nat)(ce:CE)(lx:Str)(pos:Pos):Stmt->Bool
 |.Assign ts v _=>chkTg sc N i ts&&GG sc N ce lx pos v
 |_=>false
theorem Dc{sc:Scope}{N:List Str}{i:Nat}{ce:CE}{lx:Str}{pos:Pos}{s:Stmt}(h:GH sc N i ce lx pos s=true):∃g e pa scope p1 j p2 p3 p kp cp sp,s=.Assign [g] (.Call (.Name "sorted" p) [e] [⟨some (ao "key"),.Lambda (oo lx pa) (.Subscript (.Name lx p1) (.Constant (.int 0) j p2) p3) scope pos,kp⟩] cp) sp/\
  lS sc N true (.name i) g=true/\j7 sc "sorted"=true/\ba sc N ce e=true/\m8 lx scope=true:=by
 cases s with
 |Assign ts v sp=>
  obtain⟨h1,h2⟩:=ix h;cases ts with
  |nil=>exact(aB h1).elim
  |cons g r=>
   obtain⟨h3,h4⟩:=ix h1;cases emp h3;cases v with
   |Call f es ks cp=>
    obtain⟨h5,h2⟩:=ix h2;obtain⟨h6,h2⟩:=ix h2;obtain⟨h7,h8⟩:=ix h2;obtain⟨p,rfl⟩:=Bk h5;obtain⟨e,r',rfl,h9,h10⟩:=dk h7;cases dZ h10;cases ks with
    |nil=>exact(aB h8).elim
    |cons k ks=>
     obtain⟨h11,h12⟩:=ix h8;obtain⟨h13,h14⟩:=ix h12;cases emp h11;obtain⟨ka,kv,kp⟩:=k;cases of_decide_eq_true h13;obtain⟨pa,scope,p1,j,p2,p3,e1,h15⟩:=C9 h14;cases e1;exact⟨_,_,_,_,_,_,_,_,_,_,_,_,rfl,h4,h6,h9,h15⟩
   |_=>exact(aB h2).elim
 |_=>exact(aB h).elim
noncomputable def chkK(sc:Scope)(N:List Str)(c1:CS)(i:Nat)(ce:CE)(lx:Str)(pos:Pos)(c2:CB):List Stmt->Bool
 |s1::r=>iK sc N c1 s1&&rst r
 | []=>false
where rst:List Stmt->Bool
 |s2::rest=>GH sc N i ce lx pos s2&&jK sc N c2 rest
 | []=>false
section
variable {P:Program}{w:World}{K:ae}{mg:Str->Option Value}{base:Heap}
theorem Gk{x qual:Str}{st:Stmt}{f c:Addr}{fd:dI}{N ps:List Str}{k:Nat}{G:Gam}{sp:Sp}{c1:CS}{i:Nat}{ce:CE}{lx:Str}{c2:CB}{T:Tb}(F:Fun K x qual st f fd)(hd:jZ N ps (aG st)=true)
  (hc:chkK (aG st) N c1 i ce lx T.pos c2 (aU st)=true)(hcd:fd.code=.ref c)(hC:CodeHd base c T.P)(hq:qual++".<locals>."++"<lambda>"=T.q)(hb:BM mg base)
  (hbd:∀(p:Pos)(body:Expr)(scope:Scope)(qual:Str)(pm ctv v:Value)(c':Addr),iR (kla_fn "<lambda>" qual (oo lx p) body scope [] pm (.ref c') ctv) ⟨[v],[]⟩=pure [(lx,v)])
  (g:GOk P w K mg base (CXx P w) k G)(len:∀vs H Q E,sp vs H Q E->vs.length=ps.length)
  (h:∀vs H Q E,sp vs H Q E->td (wpS G K (fun _=>E) c1) (td (vg (qV K T (wpE G K (fun _=>E) ce)) (lL i)) (wpB G K (fun _=>E) c2)) {nx:=fun _ H'=>Q .non H',rt:=Q} (start N vs) H):fX P w K mg base (CXx P w) (k+1) f fd ps sp:=by
 have S:=xV hd;obtain⟨oc,od,kV,doc,pm,an,cdv,ct,osl,rfl,lk,hcd'⟩:=F.ex;have ecd:cdv=.ref c:=hcd;subst ecd;refine fn_of lk hcd' S len fun A outer s H vs Q E hr hsp=>?_;have o:Ok (CXx P w) G (fun _=>E) (aG st) N true (tF (CXx P w) P w K mg base N qual (aG st) f (.ref c) A outer s H E):=
  {names:=rfl,top:=fun _=>⟨rfl,rfl,rfl⟩,nd:=S.nd,loc:=fun _ z=>z,cel:=fun _ z=>z,fre:=fun y z=>absurd rfl (S.nofree _ (bq z)),glo:=fun _ z=>z,all:=fun _ _=>rfl,own:=fun _ _=>rfl,calm:=rfl,
   hu:=by have :=hr.units;show _+50<cLine;exact ki (Nat.add_le_add_left (by decide) _) this
   val:=g.val
   fn:=fun y n sp' dvs e=>by
    obtain⟨f',fd',ps',ds',j,hj,F',hm,hk,hb,hv⟩:=g.fn y n sp' dvs e;exact⟨f',fd',ps',ds',j,F',hr.mono hj,hm,hk,hb,hv⟩
   ini:=fun y n C sp' dvs e=>by
    obtain⟨f',fd',ps',ds',j,hj,M,F',hm,hb,hv⟩:=g.ini y n C sp' dvs e;exact⟨f',fd',ps',ds',j,M,F',hr.mono hj,hm,hb,hv⟩
   dic:=g.dic
   mak:=fun y n C sp' dvs e=>by
    obtain⟨f',fd',ps',ds',j,hj,M,F',hm,hb,hv⟩:=g.mak y n C sp' dvs e;exact⟨f',fd',ps',ds',j,M,F',hr.mono hj,hm,hb,hv⟩
   mth:=fun y n C sp' dvs e=>by
    obtain⟨f',fd',ps',ds',j,hj,c,M,F',hb,hv⟩:=g.mth y n C sp' dvs e;exact⟨f',fd',ps',ds',j,c,M,F',hr.mono hj,hb,hv⟩
   blt:=g.blt,px:=BI,pass:=uS,made:=uT,madeX:=sE,cx:=rfl}
 refine⟨_,?_,h vs H Q E hsp⟩;generalize hB:aU st=body at hc;cases body with
 |nil=>exact(aB hc).elim
 |cons s1 r=>
  obtain⟨h1,hc⟩:=ix hc;cases r with
  |nil=>exact(aB hc).elim
  |cons s2 rest=>
  obtain⟨h2,h3⟩:=ix hc;obtain⟨g',e,pa,scope,p1,j,p2,p3,p,kp,cp,sp',rfl,h4,h6,h7,h12⟩:=Dc h2;obtain⟨n1,h12⟩:=ix h12;obtain⟨n2,h12⟩:=ix h12;obtain⟨n3,h12⟩:=ix h12;obtain⟨n4,n5⟩:=ix h12;rw[decide_eq_true_eq]at n1 n2 n3 n4;have hG:=pf (CX:=CXx P w) (fun _ _ _ _ _ z=>C6 z) (.name i) _ o h4;refine nX (Ei (fun _ _ _ _ _ z=>C6 z) c1 s1 o (fun _ _ _ _ _=>S.kind) h1) (nX ?_ (m4 (fun _ _ _ _ _ z=>C6 z) c2 rest o (fun _ _ _ _ _=>S.kind) h3));refine zS (E3 (c:=c) (T:=T) (bD (fun _ _ _ _ _ z=>C6 z) ce e o h7) (bH h7 [] _) (o.gl h6) (g.blt _ (by decide+kernel)) rfl hC hq hb ?_ ?_) hG (xZ rfl _ _ _) (rL h4 (ee _) _) (by rw[n8 h4];rfl)
  ·refine⟨?_,rfl,fun qual pm ctv v c'=>hbd pa _ _ qual pm ctv v c',by rw[n1];simp,by simpa using n5,n2,?_,n3,n4⟩
   ·unfold DC
    rw[n1];rfl
   ·rw[n1]
    intro z hz;have :z=(lx,dH.local):=by simpa using hz
    rw[this];exact fun z=>by cases z
  ·exact hr.depth
end
noncomputable def i7(K:ae)(tabs:List Addr)(a:Addr)(vs:List Value)(ns:List Int):Hp:=fun b=>
 if b∈tabs then some (.tbl #[])else if b=a/\K.lookup a=none then some (.frz {cls:=.type "list",data:=.seq vs.toArray} (.lst (ns.map V.int)))else none
theorem CH{P:Program}{w:World}{K:ae}{mg mb:Str->Option Value}{CX:CXT}{k:Nat}{fa a:Addr}{fd:dI}{x:Str}{sp:Sp}{s₁:Shared}{vs:List Value}{ns:List Int}{tabs:List Addr}(KX:K.In s₁.heap)
  (hns:s₁.heap.Ns bh mg)(hb:s₁.heap.Ns lg mb)(hbb:∀x:Str,x≠"__name__"->mb x=eQ x)(hlim:s₁.heap.NoLimit)(hg:s₁.gens= #[])(ha:s₁.heap.get? a=some {cls:=.type "list",data:=.seq vs.toArray})
  (hi:b7 vs ns) (hl:ns.length<=sizeLine) (hr:gC k BE) (hT:∀p∈tabs,s₁.heap.get? p=some (tabObj #[])/\isCodeTable s₁.heap p/\K.lookup p=none)
  (F:∀base:Heap,K.In base->base.Ns bh mg->(∀b o,s₁.heap.get? b=some o->o.cls≠.none->o.cls≠.type "list"->base.get? b=some o)->fX P w K mg base CX k fa fd [x] sp)
  (hbind:∀(s:Shared)(u:Value),BindsTo s fd ⟨[u],[]⟩ [(x,u)])
  (hsp:∀H:Hp,(∀p∈tabs,H p=some (.tbl #[]))->SqL K H a (ns.map V.int)->sp [.ref a] H (fun v _=>v=.bl true) fun _ _ _=>False) (hCX:∀H e s',CX [] H s₁ (fun _ _ _=>False) e s'->False):
  eE (model P w) BE (.call (.ref fa) ⟨[.ref a],[]⟩) (fun r s'=>r=.ok (.ret (.bool true))/\OldK s₁.heap s'.heap/\s'.os=s₁.os/\mE s'.gens) s₁:=by
 have rv:=o8 hi;have lenV:=hi.length;have cases3:∀b,(b∈tabs/\i7 K tabs a vs ns b=some (.tbl #[]))\/(b=a/\K.lookup a=none/\i7 K tabs a vs ns b=some (.frz {cls:=.type "list",data:=.seq vs.toArray} (.lst (ns.map V.int))))\/i7 K tabs a vs ns b=none:=fun b=>by
  unfold i7;by_cases h1:b∈tabs
  ·exact .inl ⟨h1,if_pos h1⟩
  ·rw[if_neg h1]
   by_cases h2:b=a/\K.lookup a=none
   ·exact .inr (.inl ⟨h2.1,h2.2,if_pos h2⟩)
   ·exact .inr (.inr (if_neg h2))
 have tabH:∀p∈tabs,i7 K tabs a vs ns p=some (.tbl #[]):=fun p hp=>if_pos hp;have haT:a∉tabs:=fun z=>by
  have :=(hT a z).1
  rw[ha]at this;cases this
 --what is neither a table nor a list is not tracked
 have untr:∀{b:Addr}{o:Obj},s₁.heap.get? b=some o->o.cls≠.none\/(∃es ep,o.data=.dict es ep)->o.cls≠.type "list"\/(∃es ep,o.data=.dict es ep)->i7 K tabs a vs ns b=none:=fun{b o} e h1 h2=>by
  rcases cases3 b with⟨q,_⟩ |⟨rfl,_⟩ |q
  ·have :=(hT b q).1
   rw[e]at this;cases this;rcases h1 with z|⟨_,_,z⟩
   ·exact absurd rfl z
   ·cases z
  ·rw[ha]at e;cases e
   rcases h2 with z|⟨_,_,z⟩
   ·exact absurd rfl z
   ·cases z
  ·exact q
 have nsK:∀{b:Addr}{m:Str->Option Value},s₁.heap.Ns b m->(yl s₁.heap (i7 K tabs a vs ns)).Ns b m:=fun{b m} ⟨o,es,ep,e,d,r⟩=>⟨o,es,ep,rZ e (untr e (.inr ⟨_,_,d⟩) (.inr ⟨_,_,d⟩)),d,r⟩;have hKb:K.In (yl s₁.heap (i7 K tabs a vs ns)):=fun b o e=>rZ (KX b o e) (by
  rcases cases3 b with⟨q,_⟩ |⟨rfl,z,_⟩ |q
  ·rw[(hT b q).2.2]at e;cases e
  ·rw[z]at e;cases e
  ·exact q)
 have hok:HOk P w (i7 K tabs a vs ns) s₁.heap:=fun b o e=>by
  rcases cases3 b with⟨q,z⟩ |⟨rfl,_,z⟩ |z
  ·rw[z]at e;cases e
   exact(hT b q).1
  ·rw[z]at e;cases e
   exact⟨ha,by rw[av];exact hl,vs,_,rv,ha⟩
  ·rw[z]at e;cases e
 have hS:SqL K (i7 K tabs a vs ns) a (ns.map V.int):=by
  cases hk:K.lookup a with
  |none=>
   refine .inl (.inr ⟨{cls:=.type "list",data:=.seq vs.toArray},?_⟩);unfold i7;rw[if_neg haT,if_pos ⟨rfl,hk⟩]
  |some o=>
   have e:=KX a o hk;rw[ha]at e;cases e;exact .inr ⟨_,vs.toArray,_,hk,rfl,rfl,rfl,by rw[ay,lenV];exact hl,by simpa using rv⟩
 have hM:Mod K mg (yl s₁.heap (i7 K tabs a vs ns)):=⟨hKb,nsK hns,⟨mb,nsK hb,hbb⟩,let⟨mc,h1,h2⟩:=hlim;⟨mc,nsK h1,h2⟩⟩;have e0:AE P w K mg (yl s₁.heap (i7 K tabs a vs ns)) BE [] s₁ (i7 K tabs a vs ns):=⟨rfl,hM,fun b o e=>of_hidT e,sS (CZ _ _),trivial,fun b hb=>absurd (show b∈([]:List Addr)from hb) (by simp),hok,.of_eq hg⟩;have f0:=F _ hKb (nsK hns) fun b o e h1 h2=>rZ e (untr e (.inl h1) (.inl h2));refine gM (f0.run BE [] s₁ (i7 K tabs a vs ns) ⟨[.ref a],[]⟩ [.ref a] [.ref a] _ _ hr e0 (hbind s₁ (.ref a)) (.cons rfl .nil) (hsp _ tabH hS)) fun r s' h=>?_;cases r with
 |error e=>exact(hCX _ e s' h).elim
 |ok fl=>
  cases fl with
  |next =>exact d8 h
  |brk=>exact d8 h
  |cont=>exact d8 h
  |ret u=>
   obtain⟨v,H',os,bare,un,hok',r',q⟩:=h;have q':v=.bl true:=q;subst q';obtain rfl:u=pN true:=r';have kept:∀b o,s₁.heap.get? b=some o->b∉tabs->s'.heap.get? b=some o:=fun b o e nt=>by
    rcases cases3 b with⟨z,_⟩ |⟨rfl,_,z⟩ |z
    ·exact absurd z nt
    ·have z2:=un.frzs b _ _ z
     obtain⟨e2,_⟩:=hok' b _ z2;rw[ha]at e;cases e;exact e2
    ·exact un.keep b o e z (by intro z;exact absurd (show b∈([]:List Addr)from z) (by simp)) (by simp)
   have grown:∀b∈tabs,∃more,s'.heap.get? b=some (tabObj (#[]++more)):=fun b hb=>by
    obtain⟨more,z⟩:=un.tbls b _ (tabH b hb);exact⟨more,hok' b _ z⟩
   refine⟨rfl,⟨fun b o e=>?_,fun b o e=>?_⟩,os,bare⟩
   ·by_cases hb:b∈tabs
    ·obtain⟨e1,ct,_⟩:=hT b hb
     rw[e]at e1;cases e1;obtain⟨more,z⟩:=grown b hb;exact .inr (.inl ⟨ct,rfl,#[],more,rfl,z⟩)
    ·exact .inl (kept b o e hb)
   ·by_cases hb:b∈tabs
    ·obtain⟨more,z⟩:=grown b hb
     exact⟨_,z⟩
    ·exact⟨o,kept b o e hb⟩
theorem bm_of{mg:Str->Option Value}{h:Heap}(hg:h.Ns bh mg)(hb:∃bm ob,mg "__builtins__"=some (.ref bm)/\bm≠lg/\h.get? bm=some ob/\ob.cls=.type "module"/\ob.dict=some lg/\ob.data=.plain):BM mg h:=by
 obtain⟨bm,ob,b1,b2,b3,b4,b5,b6⟩:=hb;refine⟨bm,ob,b1,b2,fun q=>?_,b3,b4,b5,b6⟩;obtain⟨o,es,ep,e,hd,_⟩:=hg;rw[q,e]at b3;cases b3;rw[hd]at b6;cases b6
theorem DT{l:PySem.W.OpenLaw}{n k:Nat}{q:Program}{loose:List Str}{XP:(Str->Option Value)->Heap->Prop}{YP:World->Heap->Prop}{d:DefRec}{K:Params->ae}{CX:CXT}{sp:ae->Sp}{x:Str}{tabs:List Addr}
  (hn:l.most=some n)(hn2:n<=sizeLine)(hdf:d.params.defaults=[])(hr:gC k BE)(hY:∀(w:World)(h:Heap),YP w h->(K w.params).In h)
  (hT:∀(w:World)(s₀:Shared)(mg mb:Str->Option Value)(h:Heap),Ground q loose [] XP w s₀ mg mb h->YP w h->∀p∈tabs,h.get? p=some (tabObj #[])/\isCodeTable h p/\(K w.params).lookup p=none)
  (F:∀(w:World)(mg:Str->Option Value)(fa:Addr)(h:Heap),(K w.params).In h->h.Ns bh mg->mg d.name=some (.ref fa)->
   ∃fd:dI,(∀(s:Shared)(u:Value),BindsTo s fd ⟨[u],[]⟩ [(x,u)])/\
    ∀base:Heap,(K w.params).In base->base.Ns bh mg->BM mg base->fX l.prog w (K w.params) mg base CX k fa fd [x] (sp (K w.params)))
  (hsp:∀(K:ae)(H:Hp)(a:Addr)(ns:List Int),ns.length<=n->(∀p∈tabs,H p=some (.tbl #[]))->SqL K H a (ns.map V.int)->sp K [.ref a] H (fun v _=>v=.bl true) fun _ _ _=>False)
  (hCX:∀(H:Hp)(s:Shared)(e:Value)(s':Shared),CX [] H s (fun _ _ _=>False) e s'->False):
  PySem.W.WalkO q loose XP YP l.row.toRowW d [] (fun f vs=>PySem.call f vs):=by
 refine Att.yP hn hdf fun w s₀ s₁ mg mb fa o pm cd doc a vs ns G Y ho hd hcd hmg hobj hints hlen hg=>?_;have KX:=hY w _ Y;obtain⟨fd,hb,hF⟩:=F w mg fa _ KX G.T.g hmg;have hbm:=bm_of G.T.g G.T.bmain;refine CH KX G.T.g G.T.b G.T.builtins G.T.nolimit hg hobj hints (aF hlen hn2) hr (hT w s₀ mg mb _ G Y) (fun base k1 k2 k3=>hF base k1 k2 ?_) hb (fun H t S=>hsp _ H a ns hlen t S) fun H e s'=>hCX H s₁ e s';obtain⟨bm,ob,b1,b2,b0,b3,b4,b5,b6⟩:=hbm;exact⟨bm,ob,b1,b2,b0,k3 bm ob b3 (by rw[b4];nofun) (by rw[b4];decide),b4,b5,b6⟩
end Lm
namespace Cp
open PySem PySem.Spec PyProof.Rows L2 R Lm
noncomputable def nY:List Str:=["table"]
noncomputable def iI:List Str:=["table","ordered"]
noncomputable def jO:CS:=.expr (.call "need_table" (.cons (.var 0) .nil))
noncomputable def jN:CB:=.cons (.ret (.comp ["name","readings"] [] (.tup (.cons (.name 0) (.cons (.name 1) .nil))) (.seq (.var 1)) .no (.tup (.cons (.var 0) (.cons (.bfn .tuple (.cons (.bfn .list (.cons (.var 1) .nil)) .nil)) .nil))))) .nil
theorem _root_.Lm.Gr.free{T:Tb}{H H':Hp}(g:Gr T H H')(t:Tab T H){l:Addr}(h:H' l=none):H l=none:=by
 cases e:H l with
 |none=>rfl
 |some o=>
  by_cases n:l=T.P
  ·rcases g.tab t with z|⟨_,_,_,_,_,z,_⟩
   ·rw[n,z]at h;cases h
   ·rw[n,z]at h;cases h
  ·rw[g.keep l o n e]at h;cases h
noncomputable def srt(H:Hp):V->List V
 |.ref a=>match dE (H a)with
  |some ys=>_root_.Q.sortBy .non (ys.map (aK H)) ys
  |none=>[]
 |_=>[]
noncomputable def Copied(H H':Hp)(us zs:List V):Prop:=zs.length=us.length/\∀(i:Nat) z,zs[i]? =some z->∃b r,z=.ref b/\H' b=some (.tup [.str (aK H (us.getD i .non)),.ref r])/\H' r=some (.tup (nV H (us.getD i .non)))
noncomputable def rh(C:Addr)(T:Tb):Sp:=fun vs H Q E=>∃x,vs=[x]/\Kn4 H x/\Tab T H/\(cL H x=true->∀H' l zs,Gr T H H'->H l=none->H' l=some (.lst zs)->Copied H H' (srt H x) zs->Q (.ref l) H')/\(cL H x=false->∀H',aS H H'->E (.ref C) none H')
theorem tk_of{H H':Hp}(s:aS H H'):∀{xs:List V},(∀y∈xs,cB H y=true)->_root_.Q.mr H' xs (xs.map (aK H))
 | [],_=>.nil
 |y::xs,h=>by
  obtain⟨a,b,e,h1,_⟩:=iJ (h y (.head _));exact .cons ⟨a,_,e,s _ _ h1⟩ (tk_of s fun z hz=>h z (.tail _ hz))
theorem sW{G:Gam}{K:ae}{C:Addr}{T:Tb}(g1:G.fn "need_table" 1=some (pd C,[])):
  ∀vs H Q E,rh C T vs H Q E->td (R.wpS G K (fun _=>E) jO) (td (vg (qV K T (wpE G K (fun _=>E) (.var 0))) (lL 1)) (wpB G K (fun _=>E) jN)) {nx:=fun _ H'=>Q .non H',rt:=Q} (L2.start iI vs) H:=by
 rintro vs H Q E ⟨x,rfl,hk,tb,q1,q2⟩;unfold jO jN;change td _ _ _ [some x,none] H;unfold qV;walk_at "wp";refine⟨_,_,g1,x,rfl,hk,fun e H1 s1=>?_,q2⟩;obtain⟨a,ys,rfl,h1,h2,h3,h4,h5⟩:=dS e;have tb1:Tab T H1:=(Gr.of s1).tab tb;refine⟨a,ys,ys.map (aK H),rfl,s1.seq (i5 h1),by rw[av];omega,h4,tk_of s1 h3,tb1,fun H2 l gr hl=>?_⟩;have eu:srt H (.ref a)=_root_.Q.sortBy V.non (ys.map (aK H)) ys:=by
  show(match dE (H a)with |some ys=>_root_.Q.sortBy V.non (ys.map (aK H)) ys|none=>[])=_;rw[h1]
 have zp:(_root_.Q.sortBy V.non (ys.map (aK H)) ys).Perm ys:=_root_.Q.fu V.non h4 (by simp);have q0:=q1 e;rw[eu]at q0;generalize _root_.Q.sortBy V.non (ys.map (aK H)) ys=us at zp q0⊢;have gr0:Gr T H (upd H2 l (.lst us)):=(Gr.of s1).trans (gr.trans (Gr.of (az hl)));have el:upd H2 l (.lst us) l=some (.lst us):=aq;generalize upd H2 l (.lst us)=H3 at gr0 el⊢;have hul:us.length<=40:=by rw[zp.length_eq];exact h2
 refine fc (dP rfl (SqL.of el) (fC fv (aF hul (by decide)) (fun H4 s4=>SqL.of (s4 _ _ el)) (fun i v H'=>∃b r,v=V.ref b/\H' b=some (.tup [.str (aK H (us.getD i .non)),.ref r])/\H' r=some (.tup (nV H (us.getD i .non))))
  (fun i v H4 H5 s5 ⟨b,r,z1,z2,z3⟩=>⟨b,r,z1,s5 _ _ z2,s5 _ _ z3⟩) (fun τ=>∃t u,τ=[t,u]) ⟨none,none,rfl⟩ ?_ ?_))
 ·rintro j y τ H4 R hi ⟨t,u,rfl⟩ s4 hy k
  have hm:y∈ys:=zp.mem_iff.mp (bf hy);obtain⟨b,c,rfl,k1,k2,k3,k4⟩:=iJ (h3 y hm);have f1:=s4 _ _ (gr0.zy tb k1);have f2:=s4 _ _ (gr0.zy tb k2);refine⟨b,_,rfl,SqT.of f1,rfl,_,_,rfl,_,_,rfl,rfl,?_⟩;walk_at "wp";refine⟨c,_,rfl,.inr (SqT.of f2),fun l1 hl1=>⟨l1,_,rfl,.inl ⟨SqL.of aq,fun r hr=>⟨aF (by simp :_<=2) (by decide),fun p hp=>k _ _ _ ⟨_,_,rfl⟩ ((az hl1).trans ((az hr).trans (az hp))) ?_⟩⟩⟩⟩;rw[getD_some hy];exact⟨p,r,rfl,aq,by rw[aN (bG aq hp)];exact aq⟩
 ·intro vs H4 l2 hvl hF s4 hl2
  have gr4:Gr T H H4:=gr0.trans (Gr.of s4);have s5:aS H4 (upd H4 l2 (.lst vs)):=az hl2;refine q0 _ l2 vs (gr4.trans (Gr.of s5)) (gr4.free tb hl2) aq ⟨hvl,fun i z hz=>?_⟩;obtain⟨b,r,z1,z2,z3⟩:=hF i z hz;exact⟨b,r,z1,s5 _ _ z2,s5 _ _ z3⟩
end Cp
namespace K22
open PySem R
noncomputable def p_clash:List Str:=["table"]
noncomputable def Bb:List Str:=["table","copies","count","one","other","names"]
noncomputable def uP:CB:=
  (.cons (.ret (.con .none))
  .nil)
noncomputable def uQ:CB:=
  (.cons (.forr (.name 3) (.range1 (.var 2))
  (.cons (.forr (.name 4) (.range2 (.bin .Add (.var 3) (.con (.int 1))) (.var 2))
  (.cons (.asg (.name 5) (.call "first_of_kinds" (.cons (.var 1) (.cons (.var 3) (.cons (.var 4) .nil)))))
  (.cons (.iff (.cmp .IsNot (.var 5) (.con .none))
  (.cons (.ret (.tup (.cons (.var 3) (.cons (.var 4) (.cons (.var 5) .nil)))))
  .nil)
  .nil)
  .nil)))
  .nil))
  uP)
noncomputable def uR:CB:=
  (.cons (.asg (.name 2) (.call "place_count" (.cons (.var 1) .nil)))
  uQ)
noncomputable def By:CB:=
  (.cons (.asg (.name 1) (.call "table_list" (.cons (.var 0) .nil)))
  uR)
end K22
namespace K22
open PySem PySem.Spec PyProof.Rows L2 R Cp Lt Kc K21 Lm
noncomputable def cd(H:Hp)(y:V):Str×List V:=(aK H y,nV H y)
noncomputable def numD(i:Int)(p:Str×List V):Int:=match p.2.getD i.toNat .non with
 |.int n=>n
 |_=>0
noncomputable def isK(i j:Int)(k:Int×Int)(p:Str×List V):Bool:=decide (numD i p=k.1/\numD j p=k.2)
noncomputable def i8(rows:List (Str×List V))(i j:Int):Bool:=KP.all fun k=>rows.any (isK i j k)
noncomputable def um(rows:List (Str×List V))(i j:Int)(k:Int×Int):Str:=((rows.find? (isK i j k)).map (·.1)).getD ""
theorem Bp{H:Hp}{xs:List V}{i j:Int}:jH H xs i j=i8 (xs.map (cd H)) i j:=by
 unfold jH i8;congr 1;funext k;rw[qP];rfl
theorem Fu{H:Hp}{xs:List V}{i j:Int}(h:jH H xs i j=true):KP.map (firstOf H xs i j)=(KP.map (um (xs.map (cd H)) i j)).map V.str:=by
 rw[di];refine dj fun k hk=>?_;have hall:xs.any (fun y=>decide (num H i y=k.1/\num H j y=k.2))=true:=by
  unfold jH at h;exact bc.mp h k hk
 have ep:(fun y=>decide (kf H i j y=m6 k))=(isK i j k)∘(cd H):=by
  funext y
  exact decide_eq_decide.mpr kf_eq
 show firstOf H xs i j k=V.str (um (xs.map (cd H)) i j k);unfold firstOf um;rw[ep,List.find?_map];obtain⟨y0,hy0,e0⟩:=bS.mp hall;cases hf:xs.find? ((isK i j k)∘(cd H))with
 |none=>
  rw[qm]at hf;exact absurd e0 (hf y0 hy0)
 |some y=>rfl
structure GX(rows:List (Str×List V))(n i j:Nat):Prop where
 ij:i<j
 jn:j<n
 four:i8 rows i j=true
 no:∀a b:Nat,a<b->b<n->(a<i\/a=i/\b<j)->i8 rows a b=false
noncomputable def NoC(rows:List (Str×List V))(n:Nat):Prop:=∀a b:Nat,a<b->b<n->i8 rows a b=false
noncomputable def Res(H:Hp)(rows:List (Str×List V))(n:Nat)(v:V):Prop:=(v=.non/\NoC rows n)\/∃(i j:Nat)(a l:Addr),v=.ref a/\GX rows n i j/\H a=some (.tup [.int i,.int j,.ref l])/\H l=some (.tup ((KP.map (um rows i j)).map V.str))
noncomputable def rowsOf(H:Hp)(x:V):List (Str×List V):=(srt H x).map (cd H)
theorem EH{H:Hp}{b r:Addr}{z:Str}{zs:List V}(h1:H b=some (.tup [.str z,.ref r]))(h2:H r=some (.tup zs)):cd H (.ref b)=(z,zs):=by
 have e1:aK H (.ref b)=z:=by
  show(match cj (H b)with |some (.str z::_)=>z|_=>("":Str))=_;rw[h1];rfl
 have e2:nV H (.ref b)=zs:=by
  show(match cj (H b)with |some [_,.ref b]=>(cj (H b)).getD [] |_=>[])=zs;rw[h1];show(cj (H r)).getD []=zs;rw[h2];rfl
 unfold cd;rw[e1,e2]
theorem vi{H:Hp}{t:Addr}{ys:List V}(h:dE (H t)=some ys):srt H (.ref t)=_root_.Q.sortBy .non (ys.map (aK H)) ys:=by
 show(match dE (H t)with |some ys=>_root_.Q.sortBy V.non (ys.map (aK H)) ys|none=>[])=_;rw[h]
theorem uj{H:Hp}{x:V}(h:cB H x=true):cY (aK H x)=true:=by
 obtain⟨_,_,_,_,_,_,_,h4,_,_,h7,_⟩:=gu h;rw[h7];exact h4
theorem ni{H H':Hp}{x:V}{l:Addr}{zs:List V}(e:cL H x=true)(el:H' l=some (.lst zs))(c:Copied H H' (srt H x) zs):
  Kn4 H' (.ref l)/\cL H' (.ref l)=true/\count H' (.ref l)=count H x/\zs.map (cd H')=rowsOf H x:=by
 obtain⟨a,ys,rfl,h1,h2,h3,h4,h5⟩:=dS e;have eu:=vi h1;have zp:(srt H (.ref a)).Perm ys:=by rw[eu];exact _root_.Q.fu V.non h4 (by simp)
 unfold rowsOf;generalize srt H (.ref a)=us at c zp⊢;have hul:us.length<=40:=by rw[zp.length_eq];exact h2
 have hu:∀u∈us,cB H u=true/\bU H u=count H (.ref a):=fun u hm=>⟨h3 u (zp.mem_iff.mp hm),h5 u (zp.mem_iff.mp hm)⟩;have nd:(us.map (aK H)).Nodup:=(zp.map (aK H)).nodup_iff.mpr h4;have get:∀{i:Nat}{z:V},zs[i]? =some z->us[i]? =some (us.getD i .non)/\us.getD i .non∈us:=fun{i z} hz=>by
  have hi:i<us.length:=by
   have :=(aY.mp hz).1
   rw[<-c.1];exact this
  have e:us[i]? =some (us.getD i .non):=by rw[aj,ah hi];rfl
  exact⟨e,bf e⟩
 let nf:Nat->Str:=fun i=>if i<us.length then aK H (us.getD i .non)else "a"
 have hnf:∀i,cY (nf i)=true:=fun i=>by
  show cY (if i<us.length then aK H (us.getD i .non)else "a")=true;split
  ·rename_i hi
   have e:us[i]? =some (us.getD i .non):=by rw[aj,ah hi];rfl
   exact uj (hu _ (bf e)).1
  ·decide+kernel
 have dr:Dr H' nf (count H (.ref a)) zs:=fun i z hz=>by
  obtain⟨b,r,hb,h6,h7⟩:=c.2 i z hz;obtain⟨g1,g2⟩:=get hz;have hi:i<us.length:=(aY.mp g1).1;obtain⟨c1,c2⟩:=hu _ g2;obtain⟨_,_,_,_,_,k3,k4⟩:=iJ c1;refine⟨b,r,_,hb,?_,h7,by rw[k3,c2],k4⟩;show H' b=some (.tup [.str (if i<us.length then aK H (us.getD i .non)else "a"),.ref r]);rw[if_pos hi];exact h6
 have hn60:ys=[]\/count H (.ref a)<=60:=by
  cases ys with
  |nil=>exact .inl rfl
  |cons y r=>
   right
   rw[<-h5 y (.head _)];obtain⟨_,_,_,_,_,_,_,_,h60,_,_,h8⟩:=gu (h3 y (.head _));rw[h8];exact h60
 have hinj:∀i j,i<zs.length->j<zs.length->nf i=nf j->i=j:=fun i j hi hj e=>by
  rw[c.1]at hi hj;have e':(if i<us.length then aK H (us.getD i .non)else "a")=(if j<us.length then aK H (us.getD j .non)else "a"):=e;rw[if_pos hi,if_pos hj]at e';have g:∀k (hk:k<us.length),(us.map (aK H))[k]'(by simpa using hk)=aK H (us.getD k .non):=fun k hk=>by
   rw[cQ,aj,ah hk];rfl
  rw[<-g i hi,<-g j hj]at e';exact(d7 nd).mp e'
 have hz0:zs=[]↔us=[]:=by
  rw[<-b8,c.1,b8]
 have map_eq:zs.map (cd H')=us.map (cd H):=by
  apply kJ
  intro i;rw[aQ,aQ];cases hz:zs[i]? with
  |none=>
   have :us.length<=i:=by
    have :=List.getElem?_eq_none_iff.mp hz
    rw[c.1]at this;exact this
   rw[dz this];rfl
  |some z=>
   obtain⟨b,r,rfl,h6,h7⟩:=c.2 i z hz;rw[(get hz).1];show some (cd H' (.ref b))=some (cd H (us.getD i .non));rw[EH h6 h7];rfl
 rcases hn60 with hy|hn60
 ·have hus:us=[]:=by rw[hy]at zp;exact List.perm_nil.mp zp
  have hzs:=hz0.mpr hus;subst hzs;have dr0:Dr H' nf 0 []:=fun i y e=>by simp at e
  obtain⟨t1,t2,_,_⟩:=yz hnf (fun i j hi=>absurd hi (by simp)) el dr0 (by simp) (by decide);refine⟨t1,t2,?_,map_eq⟩;have e1:count H' (.ref l)=0:=by
   show(match dE (H' l)with |some (y::_)=>bU H' y|_=>0)=0;rw[el];rfl
  have e2:count H (.ref a)=0:=by
   show(match dE (H a)with |some (y::_)=>bU H y|_=>0)=0;rw[h1,hy]
  rw[e1,e2]
 ·obtain⟨t1,t2,_,t4⟩:=yz hnf hinj el dr (by rw[c.1];exact hul) hn60
  refine⟨t1,t2,?_,map_eq⟩;cases zs with
  |nil=>
   have hus:=hz0.mp rfl;have hy:ys=[]:=by rw[hus]at zp;exact List.nil_perm.mp zp
   have e1:count H' (.ref l)=0:=by
    show(match dE (H' l)with |some (y::_)=>bU H' y|_=>0)=0;rw[el];rfl
   have e2:count H (.ref a)=0:=by
    show(match dE (H a)with |some (y::_)=>bU H y|_=>0)=0;rw[h1,hy]
   rw[e1,e2]
  |cons z r=>
   show(match dE (H' l)with |some (y::_)=>bU H' y|_=>0)=_;rw[el];exact t4 z (.head _)
noncomputable def vo(C:Addr)(T:Tb):Sp:=fun vs H Q E=>∃x,vs=[x]/\Kn4 H x/\Tab T H/\(cL H x=true->∀H' v,Gr T H H'->Res H' (rowsOf H x) (count H x) v->Q v H')/\(cL H x=false->∀H',aS H H'->E (.ref C) none H')
theorem DS{G:Gam}{K:ae}{C:Addr}{T:Tb}(g1:G.fn "table_list" 1=some (rh C T,[]))(g2:G.fn "place_count" 1=some (vn C,[]))(g3:G.fn "first_of_kinds" 3=some (vm,[])):
  Sat G K (vo C T) By Bb:=by
 rintro vs H Q E ⟨x,rfl,hk,tb,q1,q2⟩;unfold By uR;change wpB G K _ _ _ [some x,none,none,none,none,none] H;walk_at "wp";refine⟨_,_,g1,x,rfl,hk,tb,fun e H1 l zs gr hl el cpd=>?_,q2⟩;obtain⟨kn,tt,ct,rows⟩:=ni e el cpd;have qq:=q1 e;generalize rowsOf H x=rw0 at rows qq;generalize hn:count H x=n at ct qq;refine⟨_,_,g2,.ref l,rfl,kn,fun _ H2 s2=>?_,fun z=>by rw[tt]at z;cases z⟩;rw[ct];have hx:dE (H1 l)=some zs:=by rw[el];rfl
 have pl:∀z:Nat,z<n->isPlace H1 (.ref l) (.int z)=true:=fun z hz=>decide_eq_true ⟨by omega,by omega⟩;have hn60:n<=60:=by
  obtain⟨a',xs',ea,f1,f2,f3,f4,f5⟩:=dS tt;cases ea;rw[hx]at f1;cases f1;rw[<-ct];cases zs with
  |nil=>
   show(match dE (H1 l)with |some (y::_)=>bU H1 y|_=>0)<=60;rw[el];exact bp _
  |cons y r=>
   rw[<-f5 y (.head _)];obtain⟨_,_,_,_,_,_,_,_,h60,_,_,h8⟩:=gu (f3 y (.head _));rw[h8];exact h60
 unfold uQ;walk_at "wp";refine lM ?_;walk_at "wp";refine⟨(n:Int),rfl,by omega,by omega,?_⟩;refine kB gy (fun i σ H'=>aS H1 H'/\(∀a b:Nat,a<i->a<b->b<n->i8 rw0 a b=false)/\∃u v w,σ=[some x,some (.ref l),some (.int n),u,v,w])
  ⟨s2,fun a b h=>absurd h (by omega),none,none,none,rfl⟩ (fun _ _ _ _ _=>trivial) ?_ ?_
 ·rintro i y σ H3 H4 D2 hi ⟨s3,no,u,v,w,rfl⟩ rfl s4 hD2 hr2
  have hi':i<n:=by omega
  walk_at "wp"
  simp only[mI];refine lM ?_;walk_at "wp";refine⟨_,_,rfl,⟨by omega,by omega,by omega,by omega⟩,?_⟩;refine kB gy (fun m σ H'=>aS H1 H'/\(∀b:Nat,i<b->b<i+1+m->i8 rw0 i b=false)/\∃v w,σ=[some x,some (.ref l),some (.int n),some (.int i),v,w])
   ⟨s3.trans s4,fun b h1 h2=>absurd h2 (by omega),_,_,rfl⟩ (fun _ _ _ _ _=>trivial) ?_ ?_
  ·rintro m y σ H5 H6 D3 hm ⟨s5,no2,v,w,rfl⟩ rfl s6 hD3 hr3
   have hj:i+1+m<n:=by omega
   have ej:(i:Int)+1+(m:Int)=((i+1+m:Nat):Int):=by omega
   walk_at "wp"
   rw[ej];generalize hjj:i+1+m=j at hj no2⊢;have s7:aS H1 H6:=s5.trans s6;refine⟨_,_,g3,l,zs,i,j,H1,rfl,s7,tt,hx,pl i hi',pl j hj,fun f H7 s8=>?_,fun f H7 p s8 hp ep=>?_⟩
   ·show if(!decide (V.non=V.non))=true then _ else _
    rw[if_neg (by simp)];refine hD3 _ _ ⟨s7.trans s8,fun b h1 h2=>?_,_,_,rfl⟩;by_cases hb:b=j
    ·rw[hb,<-rows,<-Bp]
     exact f
    ·exact no2 b h1 (by omega)
   ·show if(!decide (V.ref p=V.non))=true then _ else _
    rw[if_pos (by simp)];refine⟨short (by simp),fun a ha=>?_⟩;rw[hr3,hr2];refine qq _ _ (gr.trans (Gr.of (s7.trans (s8.trans (az ha))))) (.inr ⟨i,j,a,p,rfl,⟨by omega,hj,by rw[<-rows,<-Bp];exact f,fun a' b' h1 h2 h3=>?_⟩,aq,?_⟩)
    ·rcases h3 with h3|⟨rfl,h3⟩
     ·exact no a' b' h3 h1 h2
     ·exact no2 b' h1 (by omega)
    ·rw[az ha _ _ ep,Fu f,rows]
  ·rintro σ H5 ⟨s5,no2,v,w,rfl⟩
   refine hD2 _ _ ⟨s5,fun a b h1 h2 h3=>?_,_,_,_,rfl⟩;by_cases ha:a=i
   ·subst ha
    exact no2 b h2 (by omega)
   ·exact no a b (by omega) h2 h3
 ·rintro σ H3 ⟨s3,no,u,v,w,rfl⟩
  unfold uP;walk_at "wp";exact qq H3 .non (gr.trans (Gr.of s3)) (.inl ⟨rfl,fun a b h1 h2=>no a b (by simp;omega) h1 h2⟩)
theorem rT{α β:Type}{f:α->β}{ys:List α}(hf:∀a∈ys,∀b∈ys,f a=f b->a=b):∀{l m:List α},(∀a∈l,a∈ys)->(∀a∈m,a∈ys)->l.map f=m.map f->l=m
 | [],[],_,_,_=>rfl
 | [],_::_,_,_,e=>by simp at e
 |_::_,[],_,_,e=>by simp at e
 |a::l,b::m,h1,h2,e=>by
  rw[bC,bC]at e;injection e with e1 e2
  rw[hf a (h1 a (.head _)) b (h2 b (.head _)) e1,rT hf (fun x hx=>h1 x (.tail _ hx)) (fun x hx=>h2 x (.tail _ hx)) e2]
theorem Cs{α β:Type}{f:α->β}{ys:List α}(nd:(ys.map f).Nodup):∀a∈ys,∀b∈ys,f a=f b->a=b:=fun a ha b hb e=>by
 obtain⟨i,hi,rfl⟩:=fQ.mp ha;obtain⟨j,hj,rfl⟩:=fQ.mp hb;have e':(ys.map f)[i]'(by simpa using hi)=(ys.map f)[j]'(by simpa using hj):=by rw[cQ,cQ];exact e
 have :=(d7 nd).mp e'
 subst this;rfl
end K22
namespace Q
open PySem PySem.Spec PySem.W PyProof.Rows L2
theorem ue{ns:List Int}(nd:ns.Nodup):(z7 ns).Perm (aI ns.length):=by
 unfold z7;split
 ·exact eH _
 ·have P:=(fw (totI nd) (by omega)).1
  have :=fO.mp P.perm
  simpa using this
end Q
namespace M3
open PySem
theorem and_nat(m n:Nat):gT (m:Int) (n:Int)=((m&&& n:Nat):Int):=by
 unfold gT;simp
theorem xor_bit{a b:Int}(ha:a=0\/a=1)(hb:b=0\/b=1):jo a b=if a=b then 0 else 1:=by
 rcases ha with rfl|rfl<;>rcases hb with rfl|rfl<;>decide
noncomputable def num:List Bool->Nat->Nat
 | [],n=>n
 |b::bs,n=>num bs (n*2+b.toNat)
theorem xW:∀(bs:List Bool)(b:Bool)(n:Nat),num (bs++[b]) n=num bs n*2+b.toNat
 | [],_,_=>rfl
 |c::bs,b,n=>xW bs b _
end M3
namespace M4
open Q
noncomputable def bl(f:Nat->Int)(n:Nat)(P:Nat->Bool):List Int:=(aI n).map fun p=>if P p=true then 1-f p else f p
theorem iw(f:Nat->Int)(n:Nat)(P:Nat->Bool):(bl f n P).length=n:=by simp[bl]
theorem uU{f:Nat->Int}{n:Nat}{P Q:Nat->Bool}(h:bl f n P=bl f n Q)(hf:∀p,p<n->f p=0\/f p=1){p:Nat}(hp:p<n):P p=Q p:=by
 have e:(bl f n P)[p]? =(bl f n Q)[p]? :=by rw[h]
 simp[bl,hp]at e;rcases hf p hp with z|z<;>cases hP:P p<;>cases hQ:Q p<;>simp[hP,hQ,z]at e⊢
noncomputable def sub(grp:Nat->Nat)(g p:Nat):Bool:=decide (grp p&&& g=g)
noncomputable def above(grp:Nat->Nat)(g p:Nat):Bool:=decide (grp p&&& g=g/\grp p≠g)
variable {f:Nat->Int}{n:Nat}{grp:Nat->Nat}(hf:∀p,p<n->f p=0\/f p=1)
include hf
theorem yO{p:Nat}(hp:p<n):bl f n (sub grp (grp p))≠bl f n fun _=>false:=fun h=>by
 have :=uU h hf hp
 simp[sub]at this
theorem yN{p q:Nat}(hp:p<n)(hq:q<n)(hne:grp p≠grp q):bl f n (sub grp (grp p))≠bl f n (sub grp (grp q)):=fun h=>by
 have a:=uU h hf hp;have b:=uU h hf hq;simp[sub]at a b;exact hne (by rw[<-b,Nat.and_comm,a])
theorem GC{p q:Nat}(hp:p<n)(hq:q<n)(h1:bl f n (sub grp (grp p))=bl f n (above grp (grp q)))(h2:bl f n (sub grp (grp q))=bl f n (above grp (grp p))):False:=by
 have a:=uU h1 hf hp;have b:=uU h2 hf hq;simp[sub,above]at a b;exact a.2 (by rw[<-b.1,Nat.and_comm,a.1])
theorem AM{p:Nat}(hp:p<n):bl f n (above grp (grp p))≠bl f n (sub grp (grp p)):=fun h=>by
 have :=uU h hf hp
 simp[sub,above]at this
noncomputable def lo(a b:List Int):List Int:=if llt b a=true then b else a
noncomputable def hi(a b:List Int):List Int:=if llt a b=true then b else a
omit hf in
theorem lohi{a b c d:List Int}(h1:lo a b=lo c d)(h2:hi a b=hi c d)(nab:a≠b)(ncd:c≠d):(a=c/\b=d)\/(a=d/\b=c):=by
 have t1:=qI (bK nab);have t2:=qI (bK ncd);unfold lo at h1;unfold hi at h2;rw[t1,t2]at h1;cases x:llt a b<;>cases y:llt c d<;>rw[x,y]at h1 h2<;>simp only[Bool.not_false,d4,if_true,aL,if_false]at h1 h2
 ·exact .inl ⟨h2,h1⟩
 ·exact .inr ⟨h2,h1⟩
 ·exact .inr ⟨h1,h2⟩
 ·exact .inl ⟨h1,h2⟩
theorem Dj{p q:Nat}(hp:p<n)(hq:q<n)(hne:grp p≠grp q):
  lo (bl f n (above grp (grp p))) (bl f n (sub grp (grp p)))++hi (bl f n (above grp (grp p))) (bl f n (sub grp (grp p)))≠
  lo (bl f n (above grp (grp q))) (bl f n (sub grp (grp q)))++hi (bl f n (above grp (grp q))) (bl f n (sub grp (grp q))):=fun h=>by
 have len:∀P Q:Nat->Bool,(lo (bl f n P) (bl f n Q)).length=n:=fun P Q=>by unfold lo;split <;>exact iw _ _ _
 obtain⟨h1,h2⟩:=List.append_inj h ((len _ _).trans (len _ _).symm);rcases lohi h1 h2 (AM hf hp) (AM hf hq)with⟨_,z⟩ |⟨z1,z2⟩
 ·exact yN hf hp hq hne z
 ·exact GC hf hp hq z2 z1.symm
end M4
namespace Q
open L2
theorem B1{ns:List Int}(nd:ns.Nodup):∃qs:List Int,sortI ns=qs.map V.int/\qs.Perm ns:=by
 refine⟨(z7 ns).map fun i=>ns.getD i 0,?_,?_⟩
 ·unfold sortI
  rw[di];refine dj fun i hi=>?_;have hi':i<ns.length:=cw.mp ((ue nd).mem_iff.mp hi);show(ns.map V.int).getD i .non=V.int (ns.getD i 0);rw[aj,aj,aQ,ah hi'];rfl
 ·have h:=(ue nd).map fun i=>ns.getD i 0
  rw[range_getD]at h;exact h
end Q
namespace M5
open M3 M4 Q L2
noncomputable def plc(n:Nat)(P:Nat->Bool):List Int:=((aI n).filter P).map fun p:Nat=>(p:Int)
theorem qH{n:Nat}{P:Nat->Bool}{i:Nat}(h:i<n):(i:Int)∈plc n P↔P i=true:=by
 unfold plc;rw[aV];constructor
 ·rintro⟨p,hp,e⟩
  have :p=i:=by omega
  rw[<-this];exact(dm.mp hp).2
 ·intro e
  exact⟨i,dm.mpr ⟨cw.mpr h,e⟩,rfl⟩
noncomputable def trn(zs:List Int)(ms:List Int):List Int:=(aI zs.length).map fun i:Nat=>if(i:Int)∈ms then 1-zs.getD i 0 else zs.getD i 0
theorem BV{zs:List Int}{P:Nat->Bool}:trn zs (plc zs.length P)=bl (fun p=>zs.getD p 0) zs.length P:=by
 unfold trn bl;refine dj fun i hi=>?_;have hi:=cw.mp hi;by_cases h:P i=true
 ·rw[if_pos ((qH hi).mpr h),if_pos h]
 ·rw[if_neg (fun z=>h ((qH hi).mp z)),if_neg h]
theorem bl_getD{f:Nat->Int}{n:Nat}{P:Nat->Bool}{i:Nat}(h:i<n):(bl f n P).getD i 0=if P i=true then 1-f i else f i:=by
 unfold bl;rw[aj,aQ,gA h];rfl
theorem trn_bl{f:Nat->Int}{n:Nat}{S E:Nat->Bool}(h:∀p,E p=true->S p=true):trn (bl f n S) (plc n E)=bl f n fun p=>S p&& !E p:=by
 unfold trn;rw[iw];refine dj fun i hi=>?_;have hi:=cw.mp hi;rw[bl_getD hi];show _=if(S i&& !E i)=true then 1-f i else f i
 cases hE:E i with
 |true=>
  rw[if_pos ((qH hi).mpr hE),h i hE,if_pos rfl];show 1-(1-f i)=if(true&& !true)=true then _ else f i
  rw[if_neg (by simp)];omega
 |false=>
  rw[if_neg (fun z=>by rw[(qH hi).mp z]at hE;cases hE)];cases S i<;>rfl
theorem Gn(zs:List Int):bl (fun p=>zs.getD p 0) zs.length (fun _=>false)=zs:=by
 unfold bl;apply cE
 ·simp
 ·intro i h1 h2
  simp[h2]
noncomputable def own(grp:Nat->Nat)(g p:Nat):Bool:=decide (grp p=g)
theorem own_sub{grp:Nat->Nat}{g p:Nat}(h:own grp g p=true):sub grp g p=true:=by
 have :grp p=g:=of_decide_eq_true h;refine decide_eq_true ?_;rw[this];exact Nat.and_self g
theorem GR(grp:Nat->Nat)(g:Nat):(fun p=>sub grp g p&& !own grp g p)=above grp g:=by
 funext p
 unfold sub own above;by_cases h1:grp p&&& g=g<;>by_cases h2:grp p=g<;>simp[h1,h2]
noncomputable def nB(f:Nat->Int)(n:Nat)(grp:Nat->Nat)(q:Int):List Int:=bl f n (sub grp q.toNat)
noncomputable def nA(f:Nat->Int)(n:Nat)(grp:Nat->Nat)(q:Int):List Int:=bl f n (above grp q.toNat)
noncomputable def iC(f:Nat->Int)(n:Nat)(grp:Nat->Nat)(qs:List Int):List (List Int):=bl f n (fun _=>false)::qs.map (nB f n grp)
noncomputable def brK(f:Nat->Int)(n:Nat)(grp:Nat->Nat)(qs:List Int):List (List Int×List Int):=qs.map fun q=>(lo (nA f n grp q) (nB f n grp q),hi (nA f n grp q) (nB f n grp q))
noncomputable def Grs(n:Nat)(grp:Nat->Nat)(qs:List Int):Prop:=qs.Nodup/\∀q∈qs,∃p,p<n/\q=(grp p:Int)
section
variable {f:Nat->Int}{n:Nat}{grp:Nat->Nat}{qs:List Int}(hf:∀p,p<n->f p=0\/f p=1)(hq:Grs n grp qs)
include hf hq
theorem FE{β:Type}{F:Int->β}(h:∀p q,p<n->q<n->grp p≠grp q->F (grp p:Int)≠F (grp q:Int)):(qs.map F).Nodup:=by
 refine qO.mpr ?_;have p:List.Pairwise (fun a b=>a≠b) qs:=hq.1;refine(List.Pairwise.and_mem.mp p).imp ?_;rintro a b ⟨ha,hb,hne⟩;obtain⟨x,hx,rfl⟩:=hq.2 a ha;obtain⟨y,hy,rfl⟩:=hq.2 b hb;exact h x y hx hy (fun e=>hne (by rw[e]))
theorem Fq:(iC f n grp qs).Nodup:=by
 unfold iC;refine cO.mpr ⟨fun z=>?_,FE hf hq fun p q hp hq' hne=>?_⟩
 ·obtain⟨q,hq',e⟩:=aV.mp z
  obtain⟨p,hp,rfl⟩:=hq.2 q hq';exact yO hf hp (by unfold nB at e;rw[bw]at e;exact e)
 ·unfold nB
  rw[bw,bw];exact yN hf hp hq' hne
theorem brK_nd:((brK f n grp qs).map mF).Nodup:=by
 unfold brK;rw[di];refine FE hf hq fun p q hp hq' hne=>?_;show lo (nA f n grp (grp p:Int)) (nB f n grp (grp p:Int))++hi (nA f n grp (grp p:Int)) (nB f n grp (grp p:Int))≠lo (nA f n grp (grp q:Int)) (nB f n grp (grp q:Int))++hi (nA f n grp (grp q:Int)) (nB f n grp (grp q:Int));unfold nA nB;rw[bw,bw];exact Dj hf hp hq' hne
end
theorem Ct{f:Nat->Int}{n:Nat}{grp:Nat->Nat}{qs:List Int}:∀k∈iC f n grp qs,k.length=n:=fun k hk=>by
 rcases aA.mp hk with rfl|hk
 ·exact iw _ _ _
 ·obtain⟨q,_,rfl⟩:=aV.mp hk
  exact iw _ _ _
theorem lo_len{a b:List Int}{n:Nat}(ha:a.length=n)(hb:b.length=n):(lo a b).length=n:=by unfold lo;split <;>assumption
theorem hi_len{a b:List Int}{n:Nat}(ha:a.length=n)(hb:b.length=n):(hi a b).length=n:=by unfold hi;split <;>assumption
theorem brK_len{f:Nat->Int}{n:Nat}{grp:Nat->Nat}{qs:List Int}:∀k∈brK f n grp qs,k.1.length=n/\k.2.length=n:=fun k hk=>by
 obtain⟨q,_,rfl⟩:=aV.mp hk;exact⟨lo_len (iw _ _ _) (iw _ _ _),hi_len (iw _ _ _) (iw _ _ _)⟩
theorem Bm{n:Nat}{grp:Nat->Nat}{qs:List Int}(h:Grs n grp qs):qs.length<=n:=by
 have e:qs.length<=((aI n).map fun p:Nat=>(grp p:Int)).length:=by
  refine List.Nodup.length_le_of_subset h.1 fun q hq=>?_;obtain⟨p,hp,rfl⟩:=h.2 q hq;exact aV.mpr ⟨p,cw.mpr hp,rfl⟩
 simpa using e
end M5
namespace K32
open PySem R
noncomputable def zY:List Str:=["copies","place"]
noncomputable def rO:List Str:=["copies","place","first","group","name","readings"]
noncomputable def oH:CB:=
  (.cons (.ret (.var 3))
  .nil)
noncomputable def oJ:CB:=
  (.cons (.forr (.tup (.cons (.name 4) (.cons (.name 5) .nil))) (.seq (.var 0))
  (.cons (.asg (.name 3) (.bin .Add (.bin .Mult (.var 3) (.con (.int 2))) (.bin .BitXor (.idx (.var 5) (.var 1)) (.var 2))))
  .nil))
  oH)
noncomputable def oK:CB:=
  (.cons (.asg (.name 3) (.con (.int 0)))
  oJ)
noncomputable def sA:CB:=
  (.cons (.asg (.name 2) (.idx (.idx (.idx (.var 0) (.con (.int 0))) (.con (.int 1))) (.var 1)))
  oK)
noncomputable def Fi:List Str:=["readings","places"]
noncomputable def x8:List Str:=["readings","places"]
noncomputable def yJ:CB:=
  (.cons (.ret (.bfn .tuple (.cons (.comp ["place","reading"] [1] (.tup (.cons (.name 0) (.cons (.name 1) .nil))) (.enumt (.var 0)) .no (.ite (.cmp .In (.var 0) (.var 2)) (.bin .Sub (.con (.int 1)) (.var 1)) (.var 1))) .nil)))
  .nil)
noncomputable def p_grown:List Str:=["copies"]
noncomputable def Ba:List Str:=["copies","first","groups","nodes","branches","group","places","around","below","above"]
noncomputable def uK:CB:=
  (.cons (.ret (.tup (.cons (.bfn .sortl (.cons (.var 3) .nil)) (.cons (.bfn .sortt (.cons (.var 4) .nil)) .nil))))
  .nil)
noncomputable def lY:CB:=
  (.cons (.expr (.meth1 .append (.var 4) (.tup (.cons (.bfn .minl (.cons (.var 9) (.cons (.var 8) .nil))) (.cons (.bfn .maxl (.cons (.var 9) (.cons (.var 8) .nil))) (.cons (.bfn .tuple (.cons (.var 6) .nil)) .nil))))))
  .nil)
noncomputable def lZ:CB:=
  (.cons (.expr (.meth1 .append (.var 3) (.var 8)))
  lY)
noncomputable def qi:CB:=
  (.cons (.asg (.name 9) (.call "turned" (.cons (.var 8) (.cons (.var 6) .nil))))
  lZ)
noncomputable def l5:CB:=
  (.cons (.asg (.name 8) (.call "turned" (.cons (.var 1) (.cons (.var 7) .nil))))
  qi)
noncomputable def qj:CB:=
  (.cons (.asgc 7 (.comp ["place"] [5,2] (.name 0) (.range1 (.bfn .len (.cons (.var 1) .nil))) (.yes (.cmp .Eq (.bin .BitAnd (.idx (.var 2) (.var 0)) (.var 1)) (.var 1))) (.var 0)))
  l5)
noncomputable def l7:CB:=
  (.cons (.asgc 6 (.comp ["place"] [5,2] (.name 0) (.range1 (.bfn .len (.cons (.var 1) .nil))) (.yes (.cmp .Eq (.idx (.var 2) (.var 0)) (.var 1))) (.var 0)))
  qj)
noncomputable def uL:CB:=
  (.cons (.forr (.name 5) (.lseq (.sortset (.var 2)))
  (.cons (.iff (.cmp .Eq (.var 5) (.con (.int 0)))
  (.cons (.cont)
  .nil)
  .nil)
  l7))
  uK)
noncomputable def uM:CB:=
  (.cons (.asg (.name 4) (.lst .nil))
  uL)
noncomputable def uN:CB:=
  (.cons (.asg (.name 3) (.lst (.cons (.var 1) .nil)))
  uM)
noncomputable def uO:CB:=
  (.cons (.asgc 2 (.comp ["place"] [0] (.name 0) (.range1 (.bfn .len (.cons (.var 1) .nil))) .no (.call "group_at" (.cons (.var 1) (.cons (.var 0) .nil)))))
  uN)
noncomputable def Bx:CB:=
  (.cons (.asg (.name 1) (.idx (.idx (.var 0) (.con (.int 0))) (.con (.int 1))))
  uO)
end K32
namespace K32
open PySem PySem.Spec PyProof.Rows L2 R Cp Lt Kc K21 K22 Lm M3 M4 M5
theorem vy{n:Nat}(h:n<=63):n<=sizeLine:=aF h (by decide)
theorem lt60{n:Nat}(h:n<=63):n<sizeLine:=ki h (by decide)
theorem xor_ii{K:ae}{i j:Int}{H:Hp}{Q:VK}:kZ K .BitXor (.int i) (.int j) H Q↔Q (.int (jo i j)) H:=by simp[kZ,rI0]
theorem and_ii{K:ae}{i j:Int}{H:Hp}{Q:VK}:kZ K .BitAnd (.int i) (.int j) H Q↔Q (.int (gT i j)) H:=by simp[kZ,rI0]
theorem in_ints(a:Int)(l:List Int):inV (V.int a) (l.map V.int)=decide (a∈l):=by
 unfold inV;rw[qP,jd,bS,decide_eq_true_eq];constructor
 ·rintro⟨x,hx,e⟩
  have :x=a:=by simpa[eqV]using e
  rw[<-this];exact hx
 ·intro h
  exact⟨a,h,by simp[eqV]⟩
theorem C4(ms:List Int):(ms.map V.int).all ow=true:=by
 rw[bc];intro v hv;obtain⟨m,_,rfl⟩:=aV.mp hv;rfl
theorem B7{K:ae}{a:Addr}{xs:List V}:sI (Itet K a) xs.length (fun i x H=>∃p v,x=.ref p/\H p=some (.tup [.int i,v])/\xs[i]? =some v) (fun H=>SqT K H a xs) where
 go:=fun i H h hi=>⟨xs,xs[i],h,by simp[hi]⟩
 stop:=fun i H h hi=>⟨xs,h,hi⟩
 yld:=fun i H x H' h hi y=>by
  obtain⟨p,v,hp,e,ex,y⟩:=y;subst e ex;exact⟨⟨p,v,rfl,aq,y xs h⟩,az hp⟩
theorem ju{zs:List Int}{i:Nat}(h:i<zs.length):(zs.map V.int)[i]? =some (.int (zs.getD i 0)):=by
 rw[aQ,ah h,aj,ah h];rfl
structure Cps(H:Hp)(c:Addr)(ys:List V)(n:Nat)(rows:List (List Int)):Prop where
 ec:H c=some (.lst ys)
 len:ys.length<=40
 rl:rows.length=ys.length
 n60:n<=60
 at_:∀(i:Nat) y,ys[i]? =some y->∃b z r,y=.ref b/\H b=some (.tup [.str z,.ref r])/\H r=some (.tup ((rows.getD i []).map V.int))
 rd:∀zs∈rows,zs.length=n/\∀x∈zs,x=0\/x=1
theorem Cps.same{H H':Hp}{c:Addr}{ys:List V}{n:Nat}{rows:List (List Int)}(d:Cps H c ys n rows)(s:aS H H'):Cps H' c ys n rows:=
 {d with ec:=s _ _ d.ec,at_:=fun i y e=>let⟨b,z,r,h1,h2,h3⟩:=d.at_ i y e;⟨b,z,r,h1,s _ _ h2,s _ _ h3⟩}
theorem Cps.row{H:Hp}{c:Addr}{ys:List V}{n:Nat}{rows:List (List Int)}(d:Cps H c ys n rows){i:Nat}(hi:i<ys.length):(rows.getD i []).length=n/\∀p,p<n->(rows.getD i []).getD p 0=0\/(rows.getD i []).getD p 0=1:=by
 have hi':i<rows.length:=by rw[d.rl];exact hi
 have e:rows.getD i []=rows[i]:=by rw[aj,ah hi'];rfl
 obtain⟨h1,h2⟩:=d.rd rows[i] (bQ hi');rw[e];refine⟨h1,fun p hp=>h2 _ ?_⟩;rw[aj,ah (by omega)];exact bQ _
noncomputable def fr(rows:List (List Int))(p:Nat):Int:=(rows.getD 0 []).getD p 0
noncomputable def bt(rows:List (List Int))(p:Nat)(r:List Int):Bool:= !decide (r.getD p 0=fr rows p)
noncomputable def grp(rows:List (List Int))(p:Nat):Nat:=M3.num (rows.map (bt rows p)) 0
noncomputable def vk:Sp:=fun vs H Q _=>∃(c:Addr)(p:Nat)(ys:List V)(n:Nat)(rows:List (List Int)),vs=[.ref c,.int p]/\Cps H c ys n rows/\ys≠[]/\p<n/\∀H',aS H H'->Q (.int (grp rows p)) H'
theorem DQ{G:Gam}{K:ae}:Sat G K vk sA rO:=by
 rintro vs H Q E ⟨c,p,ys,n,rows,rfl,d,hy,hp,q⟩;unfold sA;change wpB G K _ _ _ [some (.ref c),some (.int p),none,none,none,none] H;walk_at "wp";have h0:0<ys.length:=Hd.mpr hy;obtain⟨b,z,r,e1,e2,e3⟩:=d.at_ 0 ys[0] (ah h0);obtain⟨r1,r2⟩:=d.row h0;have g0:ys[0]? =some (.ref b):=by rw[ah h0,e1]
 refine .inl ⟨c,ys,0,_,rfl,rfl,SqL.of d.ec,d0 (j:=0) g0,?_⟩;refine .inr (.inl ⟨b,_,1,_,rfl,rfl,SqT.of e2,rfl,?_⟩);refine .inr (.inl ⟨r,_,p,_,rfl,rfl,SqT.of e3,d0 (ju (by omega)),?_⟩);unfold oK;walk_at "wp";unfold oJ;walk_at "wp";refine lM (dP rfl (SqL.of d.ec) (kB fv (fun k σ H'=>aS H H'/\∃u v,σ=[some (.ref c),some (.int p),some (.int (fr rows p)),some (.int (M3.num ((rows.take k).map (bt rows p)) 0:Nat)),u,v])
  ⟨aS.refl _,none,none,rfl⟩ (fun k σ H' _ s=>s.1.seq (SqL.of d.ec)) ?_ ?_))
 ·rintro k y σ H1 H2 D2 hk ⟨s1,u,v,rfl⟩ hy' s2 hD _
  obtain⟨b',z',r',rfl,f2,f3⟩:=d.at_ k y hy';have s3:=s1.trans s2;obtain⟨t1,t2⟩:=d.row hk;have hk':k<rows.length:=by rw[d.rl];exact hk
  refine⟨b',_,rfl,SqT.of (s3 _ _ f2),rfl,_,_,rfl,_,_,rfl,rfl,?_⟩;walk_at "wp";refine⟨Bw (by decide) (by decide),.inr (.inl ⟨r',_,p,_,rfl,rfl,SqT.of (s3 _ _ f3),d0 (ju (by omega)),?_⟩)⟩;refine xor_ii.mpr (Az.mpr ?_);rw[show jo ((rows.getD k []).getD p 0) (fr rows p)=if(rows.getD k []).getD p 0=(rows.getD 0 []).getD p 0 then 0 else 1 from xor_bit (t2 p hp) (r2 p hp)];have et:rows.take (k+1)=rows.take k++[rows.getD k []]:=by
   rw[dQ,aj,ah hk'];rfl
  have eb:(if(rows.getD k []).getD p 0=(rows.getD 0 []).getD p 0 then(0:Int)else 1)=((bt rows p (rows.getD k [])).toNat:Int):=by
   unfold bt fr;by_cases h:(rows.getD k []).getD p 0=(rows.getD 0 []).getD p 0
   ·rw[if_pos h,decide_eq_true h];rfl
   ·rw[if_neg h,decide_eq_false h];rfl
  have e4:((M3.num ((rows.take k).map (bt rows p)) 0:Nat):Int)*2+((bt rows p (rows.getD k [])).toNat:Int)=((M3.num ((rows.take (k+1)).map (bt rows p)) 0:Nat):Int):=by
   rw[et,eD,bC,jB,xW];push_cast;rfl
  rw[eb,e4];exact hD _ _ ⟨s3,_,_,rfl⟩
 ·rintro σ H1 ⟨s1,u,v,rfl⟩
  unfold oH;walk_at "wp";rw[<-d.rl,eS];exact q H1 s1
noncomputable def lu(K:ae):Sp:=fun vs H Q _=>∃(r b:Addr)(zs ms:List Int),vs=[.ref r,.ref b]/\SqT K H r (zs.map V.int)/\SqL K H b (ms.map V.int)/\zs.length<=60/\
 ∀(H':Hp)(p:Addr),aS H H'->H p=none->H' p=some (.tup ((trn zs ms).map V.int))->Q (.ref p) H'
theorem BP{G:Gam}{K:ae}:Sat G K (lu K) yJ x8:=by
 rintro vs H Q E ⟨r,b,zs,ms,rfl,hr,hb,hl,q⟩;unfold yJ;change wpB G K _ _ _ [some (.ref r),some (.ref b)] H;walk_at "wp";refine fc ⟨_,rfl,r,rfl,⟨_,hr⟩,?_⟩;refine fC B7 (vy (by rw[av];omega)) (fun H3 s3=>s3.tup hr) (fun i v _=>v=.int (if(i:Int)∈ms then 1-zs.getD i 0 else zs.getD i 0)) (fun _ _ _ _ _ h=>h) (fun τ=>∃u v,τ=[u,v,some (.ref b)]) ⟨none,none,rfl⟩ ?_ ?_
 ·rintro i x τ H3 R hi ⟨u,v,rfl⟩ s3 ⟨p,v,rfl,hp,hv⟩ k
  rw[av]at hi;rw[ju hi]at hv;cases hv;refine⟨p,_,rfl,SqT.of hp,rfl,_,_,rfl,_,_,rfl,rfl,?_⟩;walk_at "wp";refine .inr ⟨b,_,rfl,.inl (s3.seq hb),rfl,C4 ms,_,rfl,?_⟩;show if inV (V.int (i:Int)) (ms.map V.int)=true then _ else _
  rw[in_ints];by_cases h:(i:Int)∈ms
  ·rw[decide_eq_true h,if_pos rfl]
   exact k _ _ _ ⟨_,_,rfl⟩ (aS.refl _) (by rw[if_pos h])
  ·rw[decide_eq_false h,if_neg aB]
   exact k _ _ _ ⟨_,_,rfl⟩ (aS.refl _) (by rw[if_neg h])
 ·intro vs H2 l hvl hF s2 hl2
  rw[av]at hvl;have e:vs=(trn zs ms).map V.int:=by
   unfold trn;apply kJ;intro i;rw[aQ,aQ];by_cases hi:i<vs.length
   ·rw[ah hi,gA (by omega),hF i _ (ah hi)]
    rfl
   ·rw[dz (by omega),dz (by rw[dR];omega)]
    rfl
  rw[e];exact⟨l,_,rfl,.inl ⟨SqL.of aq,fun p hp=>q _ p (s2.trans ((az hl2).trans (az hp))) ((s2.trans (az hl2)).free hp) aq⟩⟩
theorem Gh{J:It}{n:Nat}{it:Nat->V->Hp->Prop}{Hc:Hp->Prop}{g:TG}{tb:TS}{D:Ends}{σ:L2.St}{H:Hp}(S:sI J n it Hc)(Pv:Nat->L2.St->Hp->Prop)(h0:Pv 0 σ H)(hl:∀i σ H,i<=n->Pv i σ H->Hc H)
  (hs:∀i x σ H H' (D2:Ends),i<n->Pv i σ H->it i x H'->aS H H'->(∀σ2 H2,Pv (i+1) σ2 H2->D2.nx σ2 H2)->(∀σ2 H2,Pv (i+1) σ2 H2->D2.ct σ2 H2)->g x σ H' fun σ2 H2=>tb D2 σ2 H2)(hd:∀σ H,Pv n σ H->D.nx σ H):ForB J g tb D σ H:=
 Bq S Pv h0 hl (fun i x σ H H' a b c d=>hs i x σ H H' _ a b c d (fun _ _ h=>h) (fun _ _ h=>h)) hd
theorem Ep{n:Nat}:sI (Itr 0 n) (nats n).length (fun i x _=>(nats n)[i]? =some x) (fun _=>True) where
 go:=fun i H h hi=>gy.go i H h (by simpa[nats]using hi)
 stop:=fun i H h hi=>gy.stop i H h (by simpa[nats]using hi)
 yld:=fun i H x H' h hi y=>by
  have hi':i<n:=by simpa[nats]using hi
  obtain⟨e,s⟩:=gy.yld i H x H' h hi' y;refine⟨?_,s⟩;subst e;unfold nats;rw[aQ,gA hi',mI];rfl
theorem Cu{n:Nat}{t:V->Bool}{P:Nat->Bool}(h:∀p,p<n->t (.int p)=P p):((nats n).filter t).map id=(plc n P).map V.int:=by
 unfold nats plc;rw[DN,List.filter_map,di];rw[show(aI n).filter (t∘fun i:Nat=>V.int (i:Int))=(aI n).filter P from List.filter_congr fun p hp=>h p (cw.mp hp)];rfl
theorem Paired.snoc{α β:Type}{F:α->β->Prop}{a:α}{b:β}(h:F a b){l:List α}{m:List β}(p:Paired F l m):Paired F (l++[a]) (m++[b]):=by
 induction p with
 |nil=>exact .cons h .nil
 |cons x r ih=>exact .cons x ih
noncomputable def Tk(H H':Hp):Prop:=∀a xs,H a=some (.tup xs)->H' a=some (.tup xs)
theorem Tk.of{H H':Hp}(s:aS H H'):Tk H H':=fun a _ e=>s a _ e
theorem DZ{H:Hp}{a:Addr}{xs ys:List V}(h:H a=some (.lst xs)):Tk H (upd H a (.lst ys)):=fun b _ e=>by
 rw[aN (fun z=>by rw[z,h]at e;cases e)];exact e
theorem nr{H H':Hp}(t:Tk H H'){ys:List V}{ps:List (List Int)}(h:_root_.Q.IntKeys H ys ps):_root_.Q.IntKeys H' ys ps:=Paired.vZ h fun v k z=>by
 obtain⟨a,e,f⟩:=z;exact⟨a,e,t _ _ f⟩
noncomputable def BrOf(f:Nat->Int)(n:Nat)(g:Nat->Nat)(H:Hp)(v:V)(q:Int):Prop:=∃a x y z,v=V.ref a/\H a=some (.tup [.ref x,.ref y,.ref z])/\H x=some (.tup ((lo (nA f n g q) (nB f n g q)).map V.int))/\H y=some (.tup ((hi (nA f n g q) (nB f n g q)).map V.int))/\H z=some (.tup ((plc n (own g q.toNat)).map V.int))
noncomputable def kC(f:Nat->Int)(n:Nat)(g:Nat->Nat)(H:Hp)(bs:List V)(qs:List Int):Prop:=Paired (BrOf f n g H) bs qs
theorem kC.tk{f:Nat->Int}{n:Nat}{g:Nat->Nat}{H H':Hp}(t:Tk H H'){bs:List V}{qs:List Int}(h:kC f n g H bs qs):kC f n g H' bs qs:=Paired.vZ h fun v k w=>by
 obtain⟨a,x,y,z,e,e1,e2,e3,e4⟩:=w;exact⟨a,x,y,z,e,t _ _ e1,t _ _ e2,t _ _ e3,t _ _ e4⟩
theorem kC.two{f:Nat->Int}{n:Nat}{g:Nat->Nat}{H:Hp}{bs:List V}{qs:List Int}(h:kC f n g H bs qs):_root_.Q.ke H bs (brK f n g qs):=by
 unfold kC at h
 induction h with
 |nil=>exact .nil
 |cons x r ih=>
  obtain⟨a,x,y,z,e,e1,e2,e3,_⟩:=x;exact .cons ⟨a,x,y,_,e,e1,e2,e3⟩ ih
theorem iZ{α β:Type}{F:α->β->Prop}{l:List α}{m:List β}(h:Paired F l m):m.length=l.length:=by
 induction h with
 |nil=>rfl
 |cons _ _ ih=>simp[ih]
noncomputable def gsI(rows:List (List Int))(n:Nat):List Int:=(aI n).map fun p:Nat=>(grp rows p:Int)
theorem wj{rows:List (List Int)}{n:Nat}:(gsI rows n).length=n:=by simp[gsI]
theorem Gd{rows:List (List Int)}{n p:Nat}(h:p<n):(gsI rows n).getD p 0=(grp rows p:Int):=by
 unfold gsI;rw[aj,aQ,gA h];rfl
noncomputable def dn(qs:List Int)(k:Nat):List Int:=(qs.take k).filter fun q=> !decide (q=0)
theorem dn_zero{qs:List Int}{k:Nat}(h:qs[k]? =some 0):dn qs (k+1)=dn qs k:=by
 unfold dn;rw[dQ,h,jV];simp
theorem Bu{qs:List Int}{k:Nat}{q:Int}(h:qs[k]? =some q)(qne:q≠0):dn qs (k+1)=dn qs k++[q]:=by
 unfold dn;rw[dQ,h,jV];simp[qne]
theorem Gz{qs:List Int}{k n:Nat}{g:Nat->Nat}(h:Grs n g qs):Grs n g (dn qs k):=by
 have s:(dn qs k).Sublist qs:=jm.trans (kG k qs);exact⟨h.1.sublist s,fun q hq=>h.2 q (s.subset hq)⟩
theorem Gy{qs:List Int}{k n:Nat}{g:Nat->Nat}(h:Grs n g qs):(dn qs k).length<=n:=Bm (Gz h)
structure Fx(H:Hp)(gl nd br so:Addr):Prop where
 fnd:H nd=none
 fbr:H br=none
 n1:nd≠br
 n2:nd≠gl
 n3:nd≠so
 n4:br≠gl
 n5:br≠so
structure Gx(rows:List (List Int))(n:Nat)(qs:List Int)(H:Hp)(gl nd br so:Addr)(ds:List Int)(ks bs:List V)(H':Hp):Prop where
 s:aS H H'
 eg:H' gl=some (.lst ((gsI rows n).map V.int))
 eo:H' so=some (.lst (qs.map V.int))
 en:H' nd=some (.lst ks)
 eb:H' br=some (.lst bs)
 nk:_root_.Q.IntKeys H' ks (iC (fr rows) n (grp rows) ds)
 bk:kC (fr rows) n (grp rows) H' bs ds
section
variable {rows:List (List Int)}{n:Nat}{qs:List Int}{H:Hp}{gl nd br so c r0:Addr}{ds:List Int}{ks bs:List V}{H':Hp}{G:Gam}{K:ae}{E:XS}{D:Ends}
theorem Gx.same{H2:Hp}(g:Gx rows n qs H gl nd br so ds ks bs H')(s:aS H' H2):Gx rows n qs H gl nd br so ds ks bs H2:=
 ⟨g.s.trans s,s _ _ g.eg,s _ _ g.eo,s _ _ g.en,s _ _ g.eb,nr (Tk.of s) g.nk,g.bk.tk (Tk.of s)⟩
theorem Gx.ksl(g:Gx rows n qs H gl nd br so ds ks bs H'):ks.length=ds.length+1:=by
 have :=iZ g.nk
 simpa[iC]using this.symm
theorem Gx.bsl(g:Gx rows n qs H gl nd br so ds ks bs H'):bs.length=ds.length:=(iZ g.bk).symm
noncomputable def Gv(rows:List (List Int))(n:Nat)(qs:List Int)(H:Hp)(c r0 gl nd br so:Addr)(k:Nat)(σ:L2.St)(H':Hp):Prop:=
 (∃ks bs,Gx rows n qs H gl nd br so (dn qs k) ks bs H')/\∃u v w x y,σ=[some (.ref c),some (.ref r0),some (.ref gl),some (.ref nd),some (.ref br),u,v,w,x,y]
theorem z9{f:Nat->Int}{g:Nat->Nat}{q:Int}:iC f n g (ds++[q])=iC f n g ds++[nB f n g q]:=by simp[iC]
theorem pick{p:Prop}[Decidable p]{x y:Addr}{A B:List Int}(hx:H x=some (.tup (A.map V.int)))(hy:H y=some (.tup (B.map V.int))):∃z,(if p then V.ref y else V.ref x)=V.ref z/\H z=some (.tup ((if p then B else A).map V.int)):=by
 split
 ·exact⟨y,rfl,hy⟩
 ·exact⟨x,rfl,hx⟩
theorem u7(F:Fx H gl nd br so)(hn:n<=60)(hq:Grs n (grp rows) qs){k:Nat}{q:Int}(hk:qs[k]? =some q)(h0:q≠0)(hD:∀σ2 H2,Gv rows n qs H c r0 gl nd br so (k+1) σ2 H2->D.nx σ2 H2){pl ar be ab:Addr}
  (s:aS H H')(eg:H' gl=some (.lst ((gsI rows n).map V.int)))(eo:H' so=some (.lst (qs.map V.int)))(en:H' nd=some (.lst ks))(er:H' br=some (.lst bs))(nk:_root_.Q.IntKeys H' ks (iC (fr rows) n (grp rows) (dn qs (k+1))))(bk:kC (fr rows) n (grp rows) H' bs (dn qs k))
  (ep:H' pl=some (.lst ((plc n (own (grp rows) q.toNat)).map V.int)))(eb:H' be=some (.tup ((nB (fr rows) n (grp rows) q).map V.int)))(ea:H' ab=some (.tup ((nA (fr rows) n (grp rows) q).map V.int))):
  wpB G K E lY D [some (.ref c),some (.ref r0),some (.ref gl),some (.ref nd),some (.ref br),some (.int q),some (.ref pl),some (.ref ar),some (.ref be),some (.ref ab)] H':=by
 have hdn:(dn qs k).length<=n:=Gy hq;have hbl:=iZ bk;unfold lY;walk_at "wp";have hlen:(nA (fr rows) n (grp rows) q).length=(nB (fr rows) n (grp rows) q).length:=(iw _ _ _).trans (iw _ _ _).symm;obtain⟨x,ex,hx⟩:=pick (p:=_root_.Q.llt (nB (fr rows) n (grp rows) q) (nA (fr rows) n (grp rows) q)=true) ea eb;obtain⟨y,ey,hy⟩:=pick (p:=_root_.Q.llt (nA (fr rows) n (grp rows) q) (nB (fr rows) n (grp rows) q)=true) ea eb;refine⟨.inl ⟨rfl,_,SqL.of er⟩,ab,be,_,_,rfl,SqT.of ea,SqT.of eb,hlen,ab,be,_,_,rfl,SqT.of ea,SqT.of eb,hlen,?_⟩;rw[ex,ey];refine⟨pl,_,rfl,.inl ⟨SqL.of ep,fun z hz=>⟨short (by simp),fun a ha=>?_⟩⟩⟩;have s1:aS H' (upd (upd H' z (.tup ((plc n (own (grp rows) q.toNat)).map V.int))) a (.tup [.ref x,.ref y,.ref z])):=(az hz).trans (az ha);have e1:upd (upd H' z (.tup ((plc n (own (grp rows) q.toNat)).map V.int))) a (.tup [.ref x,.ref y,.ref z]) a=some (.tup [.ref x,.ref y,.ref z]):=aq;have e2:upd (upd H' z (.tup ((plc n (own (grp rows) q.toNat)).map V.int))) a (.tup [.ref x,.ref y,.ref z]) z=some (.tup ((plc n (own (grp rows) q.toNat)).map V.int)):=az ha _ _ aq;generalize upd (upd H' z (.tup ((plc n (own (grp rows) q.toNat)).map V.int))) a (.tup [.ref x,.ref y,.ref z])=H1 at s1 e1 e2⊢;have er1:=s1 _ _ er;refine⟨br,bs,_,rfl,rfl,er1,lt60 (by omega),hD _ _ ⟨⟨ks,bs++[.ref a],?_⟩,_,_,_,_,_,rfl⟩⟩;have t1:Tk H1 (upd H1 br (.lst (bs++[V.ref a]))):=DZ er1;have t2:Tk H' (upd H1 br (.lst (bs++[V.ref a]))):=fun b xs e=>t1 b xs (s1 _ _ e);refine⟨rp (s.trans s1) F.fbr,?_,?_,?_,aq,nr t2 nk,?_⟩
 ·rw[aN (bK F.n4)];exact s1 _ _ eg
 ·rw[aN (bK F.n5)];exact s1 _ _ eo
 ·rw[aN F.n1];exact s1 _ _ en
 ·rw[Bu hk h0]
  exact Paired.snoc ⟨a,x,y,z,rfl,t1 _ _ e1,t2 _ _ hx,t2 _ _ hy,t1 _ _ e2⟩ (bk.tk t2)
theorem u9(F:Fx H gl nd br so)(hn:n<=60)(hq:Grs n (grp rows) qs){k:Nat}{q:Int}(hk:qs[k]? =some q)(h0:q≠0)(hD:∀σ2 H2,Gv rows n qs H c r0 gl nd br so (k+1) σ2 H2->D.nx σ2 H2){pl ar be ab:Addr}
  (g:Gx rows n qs H gl nd br so (dn qs k) ks bs H')(np:pl≠nd)(ep:H' pl=some (.lst ((plc n (own (grp rows) q.toNat)).map V.int)))(eb:H' be=some (.tup ((nB (fr rows) n (grp rows) q).map V.int)))(ea:H' ab=some (.tup ((nA (fr rows) n (grp rows) q).map V.int))):
  wpB G K E lZ D [some (.ref c),some (.ref r0),some (.ref gl),some (.ref nd),some (.ref br),some (.int q),some (.ref pl),some (.ref ar),some (.ref be),some (.ref ab)] H':=by
 have hdn:(dn qs k).length<=n:=Gy hq;have hkl:=g.ksl;unfold lZ;walk_at "wp";refine⟨.inl ⟨rfl,_,SqL.of g.en⟩,nd,ks,_,rfl,rfl,g.en,lt60 (by omega),?_⟩;have t1:Tk H' (upd H' nd (.lst (ks++[V.ref be]))):=DZ g.en;refine u7 F hn hq hk h0 hD (rp g.s F.fnd) ?_ ?_ aq ?_ ?_ (g.bk.tk t1) ?_ (t1 _ _ eb) (t1 _ _ ea)
 ·rw[aN (bK F.n2)];exact g.eg
 ·rw[aN (bK F.n3)];exact g.eo
 ·rw[aN (bK F.n1)];exact g.eb
 ·rw[Bu hk h0,z9]
  exact Paired.snoc ⟨be,rfl,t1 _ _ eb⟩ (nr t1 g.nk)
 ·rw[aN np];exact ep
theorem qa{P:Nat->Bool}{q:Int}{Q:VK}{tc:TT}{H1:Hp}(eg:H1 gl=some (.lst ((gsI rows n).map V.int)))(hn:n<=60)
  (step:∀(p:Nat)(u:Option V)(H3:Hp)(R:Bool->Hp->Prop),p<n->aS H1 H3->R (P p) H3->tc [some (.int p),some (.int q),some (.ref gl)] H3 R)
  (fin:∀H2 l,aS H1 H2->H2 l=none->Q (.ref l) (upd H2 l (.lst ((plc n P).map V.int)))):
  BB (Itr 0 n) (lL 0) tc (iF 0) [none,some (.int q),some (.ref gl)] H1 Q:=by
 refine uF (xs:=nats n) Ep (vy (by unfold nats;simp;omega)) (fun _ _=>trivial) (fun v=>match v with |.int i=>P i.toNat|_=>false) id (fun τ=>∃u,τ=[u,some (.int q),some (.ref gl)]) ⟨none,rfl⟩ ?_ ?_
 ·rintro x τ H3 Rt Rf hx ⟨u,rfl⟩ s3 kt kf
  unfold nats at hx;obtain⟨p,hp,rfl⟩:=aV.mp hx;have hp:=cw.mp hp;refine step p u H3 _ hp s3 ?_;have e:P ((p:Int)).toNat=P p:=by rw[bw]
  cases h:P p with
  |true=>
   rw[if_pos rfl];exact⟨_,rfl,kt _ _ ⟨_,rfl⟩ (aS.refl _) (e.trans h)⟩
  |false=>
   rw[if_neg aB];exact kf _ _ ⟨_,rfl⟩ (aS.refl _) (e.trans h)
 ·intro H2 l s2 hl
  rw[Cu (P:=P) fun p hp=>by show P ((p:Int)).toNat=P p;rw[bw]];exact fin H2 l s2 hl
theorem vb(g2:G.fn "turned" 2=some (lu K,[]))(F:Fx H gl nd br so)(hn:n<=60)(hl:(rows.getD 0 []).length=n)(hr:H r0=some (.tup ((rows.getD 0 []).map V.int)))(hq:Grs n (grp rows) qs){k:Nat}{q:Int}(hk:qs[k]? =some q)(h0:q≠0)(hD:∀σ2 H2,Gv rows n qs H c r0 gl nd br so (k+1) σ2 H2->D.nx σ2 H2){pl ar:Addr}{x y:Option V}
  (g:Gx rows n qs H gl nd br so (dn qs k) ks bs H')(np:pl≠nd)(ep:H' pl=some (.lst ((plc n (own (grp rows) q.toNat)).map V.int)))(er:H' ar=some (.lst ((plc n (M4.sub (grp rows) q.toNat)).map V.int))):
  wpB G K E l5 D [some (.ref c),some (.ref r0),some (.ref gl),some (.ref nd),some (.ref br),some (.int q),some (.ref pl),some (.ref ar),x,y] H':=by
 unfold l5;walk_at "wp";refine⟨_,_,g2,r0,ar,_,_,rfl,SqT.of (g.s _ _ hr),SqL.of er,by omega,fun H1 be s1 _ eb=>?_⟩;have e1:trn (rows.getD 0 []) (plc n (M4.sub (grp rows) q.toNat))=nB (fr rows) n (grp rows) q:=by
  rw[<-hl];exact BV
 rw[e1]at eb;unfold qi;walk_at "wp";refine⟨_,_,g2,be,pl,_,_,rfl,SqT.of eb,SqL.of (s1 _ _ ep),by unfold nB;rw[iw];exact hn,fun H2 ab s2 _ ea=>?_⟩;have e2:trn (nB (fr rows) n (grp rows) q) (plc n (own (grp rows) q.toNat))=nA (fr rows) n (grp rows) q:=by
  unfold nB nA;rw[trn_bl fun p=>own_sub,GR]
 rw[e2]at ea;exact u9 F hn hq hk h0 hD (g.same (s1.trans s2)) np (s2 _ _ (s1 _ _ ep)) (s2 _ _ eb) ea
theorem vc(g2:G.fn "turned" 2=some (lu K,[]))(F:Fx H gl nd br so)(hn:n<=60)(hl:(rows.getD 0 []).length=n)(hr:H r0=some (.tup ((rows.getD 0 []).map V.int)))(hq:Grs n (grp rows) qs){k:Nat}{q:Int}(hk:qs[k]? =some q)(h0:q≠0)(hD:∀σ2 H2,Gv rows n qs H c r0 gl nd br so (k+1) σ2 H2->D.nx σ2 H2){v w x y:Option V}
  (g:Gx rows n qs H gl nd br so (dn qs k) ks bs H'):
  wpB G K E l7 D [some (.ref c),some (.ref r0),some (.ref gl),some (.ref nd),some (.ref br),some (.int q),v,w,x,y] H':=by
 obtain⟨p0,hp0,eq0⟩:=hq.2 q (bf hk);have hqt:q=(q.toNat:Int):=by rw[eq0,bw]
 have lenr:((rows.getD 0 []).map V.int).length=n:=by rw[av];exact hl
 unfold l7;walk_at "wp";refine fc ?_;walk_at "wp";refine Or.inl ⟨r0,_,rfl,.inr (SqT.of (g.s _ _ hr)),_,rfl,by omega,by omega,?_⟩;rw[lenr,bw];refine qa (rows:=rows) (P:=own (grp rows) q.toNat) g.eg hn ?_ ?_
 ·intro p u H3 R hp s3 hR
  walk_at "wp"
  refine .inl ⟨gl,_,p,_,rfl,rfl,SqL.of (s3 _ _ g.eg),d0 (ju (by rw[wj];exact hp)),?_⟩;rw[Gd hp];refine uD.mpr ?_;refine⟨_,rfl,?_⟩;have e:decide ((grp rows p:Int)=q)=own (grp rows) q.toNat p:=by
   unfold M5.own;rw[hqt,bw];exact decide_eq_decide.mpr (by omega)
  rw[e];exact hR
 intro H1 pl s1 hpl;have s2:aS H' (upd H1 pl (.lst ((plc n (own (grp rows) q.toNat)).map V.int))):=s1.trans (az hpl);have ep:upd H1 pl (.lst ((plc n (own (grp rows) q.toNat)).map V.int)) pl=some (.lst ((plc n (own (grp rows) q.toNat)).map V.int)):=aq;have np:pl≠nd:=fun z=>by rw[z,s1 _ _ g.en]at hpl;cases hpl
 have g:=g.same s2;generalize upd H1 pl (.lst ((plc n (own (grp rows) q.toNat)).map V.int))=H2 at ep g⊢;unfold qj;walk_at "wp";refine fc ?_;walk_at "wp";refine Or.inl ⟨r0,_,rfl,.inr (SqT.of (g.s _ _ hr)),_,rfl,by omega,by omega,?_⟩;rw[lenr,bw];refine qa (rows:=rows) (P:=M4.sub (grp rows) q.toNat) g.eg hn ?_ ?_
 ·intro p u H3 R hp s3 hR
  walk_at "wp"
  refine .inl ⟨gl,_,p,_,rfl,rfl,SqL.of (s3 _ _ g.eg),d0 (ju (by rw[wj];exact hp)),?_⟩;rw[Gd hp];refine and_ii.mpr (uD.mpr ⟨_,rfl,?_⟩);have e:decide (gT (grp rows p:Int) q=q)=M4.sub (grp rows) q.toNat p:=by
   unfold M4.sub;rw[hqt,and_nat,bw];exact decide_eq_decide.mpr (by omega)
  rw[e];exact hR
 intro H3 ar s3 har;exact vb g2 F hn hl hr hq hk h0 hD (g.same (s3.trans (az har))) np ((s3.trans (az har)) _ _ ep) aq
end
noncomputable def sJ(rows:List (List Int))(n:Nat)(H:Hp)(H':Hp)(p:Addr):Prop:=∃(nl bl:Addr)(ks bs:List V)(qs:List Int),H' p=some (.tup [.ref nl,.ref bl])/\H nl=none/\H bl=none/\nl≠bl/\Grs n (grp rows) qs/\0∉qs/\(∀p,p<n->grp rows p≠0->(grp rows p:Int)∈qs)/\
 _root_.Q.IntKeys H' ks (iC (fr rows) n (grp rows) qs)/\kC (fr rows) n (grp rows) H' bs qs/\H' nl=some (.lst (_root_.Q.hX .non (iC (fr rows) n (grp rows) qs) ks))/\H' bl=some (.lst (_root_.Q.hX .non ((brK (fr rows) n (grp rows) qs).map _root_.Q.mF) bs))
noncomputable def rj:Sp:=fun vs H Q _=>∃(c:Addr)(ys:List V)(n:Nat)(rows:List (List Int)),vs=[.ref c]/\Cps H c ys n rows/\ys≠[]/\∀H' p,aS H H'->H p=none->sJ rows n H H' p->Q (.ref p) H'
theorem BS{G:Gam}{K:ae}(g1:G.fn "group_at" 2=some (vk,[]))(g2:G.fn "turned" 2=some (lu K,[])):Sat G K rj Bx Ba:=by
 rintro vs H Q E ⟨c,ys,n,rows,rfl,d,hy,q⟩;unfold Bx;change wpB G K _ _ _ [some (.ref c),none,none,none,none,none,none,none,none,none] H;walk_at "wp";have h0:0<ys.length:=Hd.mpr hy;obtain⟨b,z,r0,e1,e2,e3⟩:=d.at_ 0 ys[0] (ah h0);obtain⟨hl,hf⟩:=d.row h0;have hf:∀p,p<n->fr rows p=0\/fr rows p=1:=hf;have hn:=d.n60;have lenr:((rows.getD 0 []).map V.int).length=n:=by rw[av];exact hl
 have g0:ys[0]? =some (.ref b):=by rw[ah h0,e1]
 refine .inl ⟨c,ys,0,_,rfl,rfl,SqL.of d.ec,d0 (j:=0) g0,?_⟩;refine .inr (.inl ⟨b,_,1,_,rfl,rfl,SqT.of e2,rfl,?_⟩);unfold uO;walk_at "wp";refine fc ?_;walk_at "wp";refine Or.inl ⟨r0,_,rfl,.inr (SqT.of e3),_,rfl,by omega,by omega,?_⟩;rw[lenr,bw];refine fC gy (vy (by omega)) (fun _ _=>trivial) (fun i v _=>v=.int (grp rows i)) (fun _ _ _ _ _ h=>h) (fun τ=>∃u,τ=[u,some (.ref c)]) ⟨none,rfl⟩ ?_ ?_
 ·rintro i x τ H3 R hi ⟨u,rfl⟩ s3 rfl k
  walk_at "wp"
  simp only[mI];exact⟨_,_,g1,c,i,ys,n,rows,rfl,d.same s3,hy,by omega,fun H4 s4=>k _ _ _ ⟨_,rfl⟩ s4 rfl⟩
 intro vs H1 gl hvl hF s1 hgl;have ev:vs=(gsI rows n).map V.int:=by
  unfold gsI;apply kJ;intro i;rw[aQ,aQ];by_cases hi:i<vs.length
  ·rw[ah hi,gA (by omega),hF i _ (ah hi)]
   rfl
  ·rw[dz (by omega),dz (by rw[dR];omega)]
   rfl
 rw[ev];have s2:aS H (upd H1 gl (.lst ((gsI rows n).map V.int))):=s1.trans (az hgl);have eg:upd H1 gl (.lst ((gsI rows n).map V.int)) gl=some (.lst ((gsI rows n).map V.int)):=aq;generalize upd H1 gl (.lst ((gsI rows n).map V.int))=H2 at s2 eg⊢;unfold uN;walk_at "wp";refine⟨short (by simp),fun nd hnd=>?_⟩;have s3:aS H2 (upd H2 nd (.lst [.ref r0])):=az hnd;have en:upd H2 nd (.lst [.ref r0]) nd=some (.lst [.ref r0]):=aq;have n2:nd≠gl:=fun z=>by rw[z,eg]at hnd;cases hnd
 have fnd:H nd=none:=s2.free hnd;generalize upd H2 nd (.lst [.ref r0])=H3 at s3 en⊢;unfold uM;walk_at "wp";refine⟨short (by simp),fun br hbr=>?_⟩;have s4:aS H3 (upd H3 br (.lst [])):=az hbr;have eb:upd H3 br (.lst []) br=some (.lst []):=aq;have n1:nd≠br:=fun z=>by rw[<-z,en]at hbr;cases hbr
 have n4:br≠gl:=fun z=>by rw[z,s3 _ _ eg]at hbr;cases hbr
 have fbr:H br=none:=(s2.trans s3).free hbr;have en:=s4 _ _ en;have eg:=s4 _ _ (s3 _ _ eg);have s5:=s2.trans (s3.trans s4);generalize upd H3 br (.lst [])=H4 at s5 eb en eg⊢;unfold uL;walk_at "wp";refine lM ?_;walk_at "wp";refine⟨_,rfl,gl,gsI rows n,rfl,SqL.of eg,by rw[wj];omega,fun ms so nd' mem hso=>?_⟩;obtain⟨qs,eq,pm⟩:=_root_.Q.B1 nd';have hq:Grs n (grp rows) qs:=⟨pm.nodup_iff.mpr nd',fun q hq=>by
  have h:=(mem q).mp (pm.mem_iff.mp hq);unfold gsI at h;obtain⟨p,hp,e⟩:=aV.mp h;exact⟨p,cw.mp hp,e.symm⟩⟩
 rw[eq];have s6:aS H4 (upd H4 so (.lst (qs.map V.int))):=az hso;have eo:upd H4 so (.lst (qs.map V.int)) so=some (.lst (qs.map V.int)):=aq;have n3:nd≠so:=fun z=>by rw[<-z,en]at hso;cases hso
 have n5:br≠so:=fun z=>by rw[<-z,eb]at hso;cases hso
 have F:Fx H gl nd br so:=⟨fnd,fbr,n1,n2,n3,n4,n5⟩;generalize upd H4 so (.lst (qs.map V.int))=H5 at s6 eo⊢;have gx:Gx rows n qs H gl nd br so (dn qs 0) [.ref r0] [] H5:=by
  refine⟨s5.trans s6,s6 _ _ eg,eo,s6 _ _ en,s6 _ _ eb,?_,.nil⟩;refine .cons ⟨r0,rfl,?_⟩ .nil;have ef:bl (fr rows) n (fun _=>false)=rows.getD 0 []:=by rw[<-hl];exact Gn _
  rw[ef];exact(s5.trans s6) _ _ e3
 refine⟨so,rfl,⟨_,SqL.of eo⟩,Gh (fv (xs:=qs.map V.int)) (Gv rows n qs H c r0 gl nd br so) ⟨⟨_,_,gx⟩,_,_,_,_,_,rfl⟩ (fun k σ H' _ g=>?_) ?_ ?_⟩
 ·obtain⟨⟨ks,bs,g⟩,_⟩:=g
  exact SqL.of g.eo
 ·rintro k x σ H6 H7 D2 hk ⟨⟨ks,bs,g⟩,u,v,w,x',y,rfl⟩ hx s7 hD hC
  have g:=g.same s7;rw[av]at hk;have hk':qs[k]? =some qs[k]:=ah hk;rw[aQ,hk']at hx;cases hx;generalize qs[k]=q at hk';walk_at "wp";by_cases h0:q=0
  ·rw[decide_eq_true h0,if_pos rfl]
   refine hC _ _ ⟨⟨ks,bs,?_⟩,_,_,_,_,_,rfl⟩;rw[dn_zero (by rw[hk',h0])];exact g
  ·rw[decide_eq_false h0,if_neg aB]
   exact vc g2 F hn hl e3 hq hk' h0 hD g
 ·rintro σ H6 ⟨⟨ks,bs,g⟩,u,v,w,x',y,rfl⟩
  rw[av]at g;have gq:Grs n (grp rows) (dn qs qs.length):=Gz hq;have edn:dn qs qs.length=qs.filter fun q=> !decide (q=0):=by unfold dn;rw[eS]
  have z0:(0:Int)∉dn qs qs.length:=fun z=>by
   rw[edn]at z;simpa using(dm.mp z).2
  have all:∀p,p<n->grp rows p≠0->(grp rows p:Int)∈dn qs qs.length:=fun p hp h=>by
   rw[edn];refine dm.mpr ⟨pm.mem_iff.mpr ((mem _).mpr ?_),?_⟩
   ·unfold gsI
    exact aV.mpr ⟨p,cw.mpr hp,rfl⟩
   ·have :¬((grp rows p:Int)=0):=by omega
    rw[decide_eq_false this];rfl
  generalize dn qs qs.length=ds at g gq z0 all;have hds:ds.length<=n:=Bm gq;have hkl:=g.ksl;have hbl:=g.bsl;have nkl:=iZ g.nk;have bkl:=iZ g.bk.two;unfold uK;walk_at "wp";refine⟨nd,ks,_,n,rfl,SqL.of g.en,by omega,Fq hf gq,Ct,g.nk,fun nl hnl=>?_⟩;have t1:aS H6 (upd H6 nl (.lst (_root_.Q.hX .non (iC (fr rows) n (grp rows) ds) ks))):=az hnl;have enl:upd H6 nl (.lst (_root_.Q.hX .non (iC (fr rows) n (grp rows) ds) ks)) nl=some (.lst (_root_.Q.hX .non (iC (fr rows) n (grp rows) ds) ks)):=aq;have g':=g.same t1;generalize upd H6 nl (.lst (_root_.Q.hX .non (iC (fr rows) n (grp rows) ds) ks))=H7 at t1 enl g'⊢;refine⟨br,bs,_,n,rfl,SqL.of g'.eb,by omega,brK_nd hf gq,brK_len,g'.bk.two,fun bl hbl2=>⟨short (by simp),fun p hp=>?_⟩⟩;have t2:=az (o:=.lst (_root_.Q.hX .non ((brK (fr rows) n (grp rows) ds).map _root_.Q.mF) bs)) hbl2;have t3:=az (o:=.tup [.ref nl,.ref bl]) hp;have g2:=g'.same (t2.trans t3);refine q _ p g2.s (((g'.s).trans t2).free hp) ⟨nl,bl,ks,bs,ds,aq,g.s.free hnl,g'.s.free hbl2,fun z=>by(rw[<-z,enl]at hbl2;cases hbl2),gq,z0,all,g2.nk,g2.bk,(t2.trans t3) _ _ enl,t3 _ _ aq⟩
end K32
namespace K32
open PySem R
noncomputable def kN:List Str:=["self","one","other","names"]
noncomputable def il:List Str:=["self","one","other","names"]
noncomputable def jw:CB:=
  (.cons (.fldX (.var 0) "names" (.var 3))
  .nil)
noncomputable def jx:CB:=
  (.cons (.fldX (.var 0) "other" (.var 2))
  jw)
noncomputable def jy:CB:=
  (.cons (.fldX (.var 0) "one" (.var 1))
  jx)
noncomputable def iu:CB:=
  (.cons (.expr (.base "KinError" (.cons (.var 0) (.cons (.var 1) (.cons (.var 2) (.cons (.var 3) .nil))))))
  jy)
noncomputable def xP:List Str:=["table","name"]
noncomputable def pX:List Str:=["table","name"]
noncomputable def mT:CB:=
  (.cons (.iff (.or (.not (.call "is_name" (.cons (.var 1) .nil))) (.not (.bfn .any (.cons (.comp ["copy"] [1] (.name 0) (.seq (.var 0)) .no (.cmp .Eq (.var 1) (.idx (.var 0) (.con (.int 0))))) .nil))))
  (.cons (.rais "NoName" (.cons (.con (.str "this is no name of a copy of the table")) .nil))
  .nil)
  .nil)
  .nil)
noncomputable def qg:CB:=
  (.cons (.expr (.call "need_table" (.cons (.var 0) .nil)))
  mT)
noncomputable def rG:List Str:=["table"]
noncomputable def lC:List Str:=["table","found"]
noncomputable def j9:CB:=
  (.cons (.iff (.cmp .IsNot (.var 1) (.con .none))
  (.cons (.raisX "Clash" (.cons (.idx (.var 1) (.con (.int 0))) (.cons (.idx (.var 1) (.con (.int 1))) (.cons (.idx (.var 1) (.con (.int 2))) .nil))))
  .nil)
  .nil)
  .nil)
noncomputable def lU:CB:=
  (.cons (.asg (.name 1) (.call "clash" (.cons (.var 0) .nil)))
  j9)
noncomputable def p_tree:List Str:=["table"]
noncomputable def Fv:List Str:=["table","copies"]
noncomputable def yK:CB:=
  (.cons (.ret (.call "grown" (.cons (.var 1) .nil)))
  .nil)
noncomputable def yL:CB:=
  (.cons (.iff (.cmp .Eq (.bfn .len (.cons (.var 1) .nil)) (.con (.int 0)))
  (.cons (.ret (.tup (.cons (.lst .nil) (.cons (.lst .nil) .nil))))
  .nil)
  .nil)
  yK)
noncomputable def yM:CB:=
  (.cons (.expr (.call "refuse_clash" (.cons (.var 1) .nil)))
  yL)
noncomputable def GL:CB:=
  (.cons (.asg (.name 1) (.call "table_list" (.cons (.var 0) .nil)))
  yM)
end K32
namespace K32
open PySem PySem.Spec PyProof.Rows L2 R Cp Lt Kc K21 K22 Lm M5
theorem put2{x y:V}:gR (ao "other") y [(ao "one",x)]=[(ao "one",x),(ao "other",y)]:=by
 unfold gR gR;rw[if_neg (by decide+kernel)]
theorem put3{x y z:V}:gR (ao "names") z [(ao "one",x),(ao "other",y)]=[(ao "one",x),(ao "other",y),(ao "names",z)]:=by
 unfold gR gR gR;rw[if_neg (by decide+kernel),if_neg (by decide+kernel)]
structure Cl(K:ae)(B C:Addr):Prop where
 bs:BsX K B
 s1:StX K C "one"
 s2:StX K C "other"
 s3:StX K C "names"
 ex:∃f,ng K C f bmV "ValueError.__new__"=true
noncomputable def flds(x y z:V):List (Str×V):=[("one",x),("other",y),("names",z)]
noncomputable def vj(C:Addr):Sp:=fun vs H Q _=>∃a x y z,vs=[.ref a,x,y,z]/\H a=some (exO a C none)/\∀dd H',dd≠a->H dd=none->H' a=some (exO a C (some dd))->H' dd=some (xdO dd (flds x y z))->(∀b,b≠a->b≠dd->H' b=H b)->Q .non H'
theorem DP{G:Gam}{K:ae}{B C:Addr}(v1:G.val "KinError"=some (.ref B))(n:Cl K B C):
  Sat G K (vj C) iu il:=by
 rintro vs H Q E ⟨a,x,y,z,rfl,ha,q⟩;unfold iu;change wpB G K _ _ _ [some (.ref a),some x,some y,some z] H;walk_at "wp";obtain⟨f,hf⟩:=n.ex;refine⟨B,v1,n.bs,?_⟩;refine⟨_,rfl,_,rfl,_,rfl,_,rfl,a,C,f,[x,y,z],rfl,ha,short (by show 3<=40;decide),hf,?_⟩;unfold jy;refine⟨_,rfl,_,rfl,a,C,rfl,n.s1,.inl ⟨ha,fun dd hd=>?_⟩⟩;have ne:dd≠a:=fun e=>by rw[e,ha]at hd;cases hd
 unfold jx;refine⟨_,rfl,_,rfl,a,C,rfl,n.s2,.inr ⟨dd,_,aq,by rw[aN ne];exact aq,by simp,?_⟩⟩;unfold jw;rw[put2];refine⟨_,rfl,_,rfl,a,C,rfl,n.s3,.inr ⟨dd,_,by rw[aN (bK ne)];exact aq,aq,by simp,?_⟩⟩;rw[put3];refine q dd _ ne hd ?_ aq fun b h1 h2=>?_
 ·rw[aN (bK ne),aN (bK ne)]
  exact aq
 ·rw[aN h2,aN h2,aN h1,aN h2]
noncomputable def nS(C CC:Addr)(T:Tb):Sp:=fun vs H Q E=>∃x,vs=[x]/\Kn4 H x/\Tab T H/\(cL H x=false->∀H',aS H H'->E (.ref C) none H')/\
 (cL H x=true->(NoC (rowsOf H x) (count H x)->∀H',Gr T H H'->Q .non H')/\
  ∀H' (i j:Nat)(l dd:Addr),Gr T H H'->GX (rowsOf H x) (count H x) i j->H' l=some (.tup ((KP.map (um (rowsOf H x) i j)).map V.str))->H' dd=some (xdO dd (flds (.int i) (.int j) (.ref l)))->E (.ref CC) (some dd) H')
theorem BQ{G:Gam}{K:ae}{C CC:Addr}{T:Tb}(g1:G.fn "clash" 1=some (vo C T,[]))(gI:G.ini "Clash" 3=some (CC,vj CC,[])):
  Sat G K (nS C CC T) lU lC:=by
 rintro vs H Q E ⟨x,rfl,hk,tb,q1,q2⟩;unfold lU;change wpB G K _ _ _ [some x,none] H;walk_at "wp";refine⟨_,_,g1,x,rfl,hk,tb,fun e H1 v gr rs=>?_,q1⟩;obtain⟨qn,qc⟩:=q2 e;unfold j9;walk_at "wp";rcases rs with⟨rfl,hc⟩ |⟨i,j,a,l,rfl,fi,ea,el⟩
 ·rw[if_neg (by simp)]
  exact qn hc H1 gr
 ·rw[if_pos (by simp)]
  refine⟨CC,_,_,gI,?_⟩;refine⟨_,rfl,.inr (.inl ⟨a,_,0,_,rfl,rfl,SqT.of ea,rfl,?_⟩)⟩;refine⟨_,rfl,.inr (.inl ⟨a,_,1,_,rfl,rfl,SqT.of ea,rfl,?_⟩)⟩;refine⟨_,rfl,.inr (.inl ⟨a,_,2,_,rfl,rfl,SqT.of ea,rfl,?_⟩)⟩;refine⟨short (by show 3<=40;decide),fun p hp=>⟨p,_,_,_,rfl,aq,fun dd H2 ne hd e1 e2 e3=>⟨rfl,some dd,e1,?_⟩⟩⟩;have hd1:H1 dd=none:=by rw[aN ne]at hd;exact hd
  have s2:aS H1 (del H2 p):=fun b u eb=>by
   have n1:b≠p:=bG eb hp;have n2:b≠dd:=bG eb hd1;rw[ir n1,e3 b n1 n2,aN n1];exact eb
  exact qc _ i j l dd (gr.trans (Gr.of s2)) fi (s2 _ _ el) (by rw[ir ne];exact e2)
theorem xG{H H':Hp}{x:V}{l:Addr}{zs:List V}(e:cL H x=true)(el:H' l=some (.lst zs))(hr:zs.map (cd H')=rowsOf H x)(tt:cL H' (.ref l)=true):rowsOf H' (.ref l)=rowsOf H x/\srt H' (.ref l)=zs:=by
 have hz:dE (H' l)=some zs:=by rw[el];rfl
 obtain⟨l',zs',ez,z1,z2,z3,z4,z5⟩:=dS tt;cases ez;rw[hz]at z1;cases z1;obtain⟨a,ys,rfl,h1,h2,h3,h4,h5⟩:=dS e;have ft:∀l:List V,l.filter (fun _=>true)=l:=fun l=>List.filter_eq_self.mpr fun _ _=>rfl;have r1:(_root_.Q.sortBy V.non (ys.map (aK H)) ys).map (aK H)=_root_.Q.sortBy ("":Str) (ys.map (aK H)) (ys.map (aK H)):=by
  have :=_root_.Q.pV V.non (aK H) (fun _=>true) h4
  rwa [ft,ft]at this
 have r2:(_root_.Q.sortBy V.non (zs.map (aK H')) zs).map (aK H')=_root_.Q.sortBy ("":Str) (zs.map (aK H')) (zs.map (aK H')):=by
  have :=_root_.Q.pV V.non (aK H') (fun _=>true) z4
  rwa [ft,ft]at this
 have en:zs.map (aK H')=_root_.Q.sortBy ("":Str) (ys.map (aK H)) (ys.map (aK H)):=by
  rw[<-r1,<-vi h1];have :=congrArg (List.map Prod.fst) hr;unfold rowsOf at this;rw[di,di]at this;exact this
 have p2:=_root_.Q.fu V.non z4 (ys:=zs) (by simp);have e2:_root_.Q.sortBy V.non (zs.map (aK H')) zs=zs:=by
  refine rT (Cs z4) (fun a ha=>p2.mem_iff.mp ha) (fun a ha=>ha) ?_;rw[r2];refine _root_.Q.jD (_root_.Q.fu ("":Str) z4 rfl) (_root_.Q.hJ z4) ?_;rw[en];exact _root_.Q.hJ h4
 have e3:srt H' (.ref l)=zs:=by rw[vi hz,e2]
 refine⟨?_,e3⟩;show(srt H' (.ref l)).map (cd H')=_;rw[e3];exact hr
noncomputable def intOf:V->Int
 |.int i=>i
 |_=>0
theorem pz{zs:List V}(h:∀z∈zs,aR z=true):(zs.map intOf).map V.int=zs/\∀x∈zs.map intOf,x=0\/x=1:=by
 constructor
 ·rw[di]
  conv =>rhs;rw[<-DN zs]
  refine dj fun z hz=>?_;rcases dw (h z hz)with e|e<;>rw[e]<;>rfl
 ·intro x hx
  obtain⟨z,hz,rfl⟩:=aV.mp hx;rcases dw (h z hz)with e|e<;>rw[e]
  ·exact .inl rfl
  ·exact .inr rfl
noncomputable def rI(R:List (Str×List V)):List (List Int):=R.map fun p=>p.2.map intOf
theorem cps_of{H:Hp}{l:Addr}{zs:List V}(el:H l=some (.lst zs))(tt:cL H (.ref l)=true):Cps H l zs (count H (.ref l)) (rI (zs.map (cd H))):=by
 have hz:dE (H l)=some zs:=by rw[el];rfl
 obtain⟨l',zs',ez,z1,z2,z3,z4,z5⟩:=dS tt;cases ez;rw[hz]at z1;cases z1;refine⟨el,z2,by simp[rI],?_,fun i y e=>?_,fun r hr=>?_⟩
 ·cases zs with
  |nil=>
   show(match dE (H l)with |some (y::_)=>bU H y|_=>0)<=60;rw[hz];exact bp _
  |cons y r=>
   rw[<-z5 y (.head _)];obtain⟨_,_,_,_,_,_,_,_,h60,_,_,h8⟩:=gu (z3 y (.head _));rw[h8];exact h60
 ·obtain⟨b,r,rfl,k1,k2,k3,k4⟩:=iJ (z3 y (bf e))
  refine⟨b,_,r,rfl,k1,?_⟩;have er:(rI (zs.map (cd H))).getD i []=(nV H (.ref b)).map intOf:=by
   unfold rI;rw[aj,aQ,aQ,e];rfl
  rw[er,(pz k4).1];exact k2
 ·obtain⟨p,hp,rfl⟩:=aV.mp hr
  obtain⟨y,hy,rfl⟩:=aV.mp hp;obtain⟨b,r,rfl,k1,k2,k3,k4⟩:=iJ (z3 y hy);refine⟨?_,(pz k4).2⟩;rw[av,<-z5 _ hy];exact k3
theorem gr_free{T:Tb}{H H':Hp}{p:Addr}(g:Gr T H H')(t:Tab T H')(h:H' p=none):H p=none:=by
 cases e:H p with
 |none=>rfl
 |some o=>
  have hp:p≠T.P:=fun z=>by
   rw[z]at h;rcases t with t|⟨_,_,_,_,_,t,_⟩<;>(rw[h]at t;cases t)
  rw[g.keep p o hp e]at h;cases h
theorem Cps.gr{T:Tb}{H H':Hp}{c:Addr}{ys:List V}{n:Nat}{rows:List (List Int)}(d:Cps H c ys n rows)(g:Gr T H H')(tt:Tab T H):Cps H' c ys n rows:=
 {d with ec:=g.lst tt d.ec,at_:=fun i y e=>let⟨b,z,r,h1,h2,h3⟩:=d.at_ i y e;⟨b,z,r,h1,g.zy tt h2,g.zy tt h3⟩}
theorem sJ.old{rows:List (List Int)}{n:Nat}{H H0 H':Hp}{p:Addr}(g:sJ rows n H H' p)(f:∀p,H p=none->H0 p=none):sJ rows n H0 H' p:=by
 obtain⟨nl,bl,ks,bs,qs,h1,h2,h3,h4⟩:=g;exact⟨nl,bl,ks,bs,qs,h1,f _ h2,f _ h3,h4⟩
noncomputable def TreeK(R:List (Str×List V))(n:Nat)(H H':Hp)(p:Addr):Prop:=
 (R=[]/\∃a b,H' p=some (.tup [.ref a,.ref b])/\H a=none/\H b=none/\a≠b/\H' a=some (.lst [])/\H' b=some (.lst []))\/(R≠[]/\sJ (rI R) n H H' p)
noncomputable def zE(C CC:Addr)(T:Tb):Sp:=fun vs H Q E=>∃x,vs=[x]/\Kn4 H x/\Tab T H/\(cL H x=false->∀H',aS H H'->E (.ref C) none H')/\
 (cL H x=true->(NoC (rowsOf H x) (count H x)->∀H' p,Gr T H H'->H p=none->TreeK (rowsOf H x) (count H x) H H' p->Q (.ref p) H')/\
  ∀H' (i j:Nat)(l dd:Addr),Gr T H H'->GX (rowsOf H x) (count H x) i j->H' l=some (.tup ((KP.map (um (rowsOf H x) i j)).map V.str))->H' dd=some (xdO dd (flds (.int i) (.int j) (.ref l)))->E (.ref CC) (some dd) H')
theorem wp_tree{G:Gam}{K:ae}{C CC:Addr}{T:Tb}(g1:G.fn "table_list" 1=some (rh C T,[]))(g2:G.fn "refuse_clash" 1=some (nS C CC T,[]))(g3:G.fn "grown" 1=some (rj,[])):
  Sat G K (zE C CC T) GL Fv:=by
 rintro vs H Q E ⟨x,rfl,hk,tb,q1,q2⟩;unfold GL;change wpB G K _ _ _ [some x,none] H;walk_at "wp";refine⟨_,_,g1,x,rfl,hk,tb,fun e H1 l zs gr hl el cpd=>?_,q1⟩;obtain⟨qn,qc⟩:=q2 e;obtain⟨kn,tt,ct,rows⟩:=ni e el cpd;obtain⟨ro,_⟩:=xG e el rows tt;have cps:=cps_of el tt;rw[ct,rows]at cps;have hlen:zs.length=(rowsOf H x).length:=by rw[<-rows,av]
 have tb1:=gr.tab tb;generalize rowsOf H x=R at qn qc ro cps hlen;generalize count H x=n at qn qc ct cps;unfold yM;walk_at "wp";refine⟨_,_,g2,.ref l,rfl,kn,tb1,fun z=>by(rw[tt]at z;cases z),fun _=>⟨fun nc H2 gr2=>?_,fun H2 i j l' dd gr2 fi el' ed=>?_⟩⟩
 ·rw[ro,ct]at nc
  have cps:=cps.gr gr2 tb1;have tb2:=gr2.tab tb1;have fre:∀p,H2 p=none->H p=none:=fun p=>gr_free (gr.trans gr2) tb2;unfold yL;walk_at "wp";refine Or.inl ⟨l,zs,rfl,.inl (SqL.of cps.ec),?_⟩;refine uD.mpr ⟨_,rfl,?_⟩;by_cases hz:zs=[]
  ·have hR:R=[]:=b8.mp (by rw[<-hlen,hz];rfl)
   rw[hz,if_pos (by simp)];refine⟨short (by simp),fun a ha=>⟨short (by simp),fun b hb=>⟨short (by simp),fun p hp=>?_⟩⟩⟩;have s1:=az (o:=.lst []) ha;have s2:=az (o:=.lst []) hb;have s3:=az (o:=.tup [.ref a,.ref b]) hp;refine qn nc _ p ((gr.trans gr2).trans (Gr.of (s1.trans (s2.trans s3)))) (fre _ ((s1.trans s2).free hp)) (.inl ⟨hR,a,b,aq,fre _ ha,fre _ (s1.free hb),fun z=>?_,(s2.trans s3) _ _ aq,s3 _ _ aq⟩);rw[<-z,aq]at hb;cases hb
  ·rw[if_neg (fun z=>hz (b8.mp (by have :=of_decide_eq_true z;omega)))]
   unfold yK;walk_at "wp";refine⟨_,_,g3,l,zs,n,rI R,rfl,cps,hz,fun H3 p s3 hp gk=>?_⟩;exact qn nc H3 p ((gr.trans gr2).trans (Gr.of s3)) (fre _ hp) (.inr ⟨fun z=>hz (b8.mp (by rw[hlen,z];rfl)),gk.old fre⟩)
 ·rw[ro,ct]at fi
  rw[ro]at el';exact qc H2 i j l' dd (gr.trans gr2) fi el' ed
noncomputable def C0(H:Hp)(x y:V):Prop:=∃(a:Addr)(ys:List V)(z:Str)(c:V),x=.ref a/\dE (H a)=some ys/\y=.str z/\c∈ys/\aK H c=z
noncomputable def rg(C CN:Addr):Sp:=fun vs H Q E=>∃x y,vs=[x,y]/\Kn4 H x/\Known H y/\(∀z,y=.str z->z.length<=20000)/\(cL H x=false->∀H',aS H H'->E (.ref C) none H')/\
 (cL H x=true->(C0 H x y->∀H',aS H H'->Q .non H')/\(¬C0 H x y->∀H',aS H H'->E (.ref CN) none H'))
theorem BR{G:Gam}{K:ae}{C CN:Addr}(g1:G.fn "need_table" 1=some (pd C,[]))(g2:G.fn "is_name" 1=some (spN,[]))(v1:G.val "NoName"=some (.ref CN))(xc:XC K CN):
  Sat G K (rg C CN) qg pX:=by
 rintro vs H Q E ⟨x,y,rfl,hk,ky,hyl,q1,q2⟩;unfold qg;change wpB G K _ _ _ [some x,some y] H;walk_at "wp";refine⟨_,_,g1,x,rfl,hk,fun e H1 s1=>?_,q1⟩;obtain⟨qy,qn⟩:=q2 e;obtain⟨a,ys,rfl,h1,h2,h3,h4,h5⟩:=dS e;unfold mT;walk_at "wp";refine⟨_,_,g2,y,rfl,(ky.same s1).1,hyl,fun H2 s2=>⟨_,rfl,?_⟩⟩;have s2:aS H H2:=s1.trans s2;cases hn:isName y with
 |false=>
  rw[if_pos (by simp)];have hno:¬C0 H (.ref a) y:=by
   rintro⟨a',ys',z,c,e1,e2,rfl,hc,e4⟩;cases e1;rw[h1]at e2;cases e2;have :=uj (h3 c hc);rw[e4]at this;rw[show isName (V.str z)=cY z from rfl,this]at hn;cases hn
  exact⟨CN,v1,xc.1,xc.2,short (by simp),qn hno H2 s2⟩
 |true=>
  rw[if_neg (by simp)];obtain⟨z,rfl⟩:∃z,y=.str z:=by
   cases y with
   |str z=>exact⟨z,rfl⟩
   |_=>cases hn
  have et:SqL K H2 a ys:=s2.seq (i5 h1);refine fc (dP rfl et (fC fv (short h2) (fun H3 s3=>s3.seq et) (fun i v _=>∃c,ys[i]? =some c/\v=.bl (decide (z=aK H c))) (fun _ _ _ _ _ h=>h) (fun τ=>∃u,τ=[u,some (.str z)]) ⟨none,rfl⟩ ?_ ?_))
  ·rintro i c τ H3 R hi ⟨u,rfl⟩ s3 hc kk
   obtain⟨b,r,rfl,k1,k2,k3,k4⟩:=iJ (h3 c (bf hc));walk_at "wp";refine .inr (.inl ⟨b,_,0,_,rfl,rfl,SqT.of (s3 _ _ (s2 _ _ k1)),rfl,?_⟩);walk_at "wp";exact kk _ _ _ ⟨_,rfl⟩ (aS.refl _) ⟨_,hc,rfl⟩
  ·intro vs H3 l hvl hF s3 hl3
   have ev:vs=(ys.map fun c=>decide (z=aK H c)).map V.bl:=by
    apply kJ
    intro i;rw[aQ,aQ];by_cases hi:i<vs.length
    ·obtain⟨c,hc,hv⟩:=hF i _ (ah hi)
     rw[ah hi,hv,hc];rfl
    ·rw[dz (by omega),dz (by omega)]
     rfl
   rw[ev];have s4:=s2.trans (s3.trans (az (o:=.lst ((ys.map fun c=>decide (z=aK H c)).map V.bl)) hl3));refine⟨l,_,rfl,SqL.of aq,_,rfl,?_⟩;have ea:(ys.map fun c=>decide (z=aK H c)).any id=true↔C0 H (.ref a) (.str z):=by
    rw[qP,bS];constructor
    ·rintro⟨c,hc,e⟩
     exact⟨a,ys,z,c,rfl,h1,rfl,hc,(of_decide_eq_true e).symm⟩
    ·rintro⟨a',ys',z',c,e1,e2,e3,hc,e4⟩
     cases e1;rw[h1]at e2;cases e2;cases e3;exact⟨c,hc,decide_eq_true e4.symm⟩
   by_cases hh:C0 H (.ref a) (.str z)
   ·rw[ea.mpr hh,if_neg (by simp)]
    exact qy hh _ s4
   ·rw[Bool.eq_false_iff.mpr fun z=>hh (ea.mp z),if_pos (by simp)]
    exact⟨CN,v1,xc.1,xc.2,short (by simp),qn hh _ s4⟩
end K32
namespace K02
open PySem PySem.Spec PyProof.Rows L2 R Cp Lt Lm
theorem kn1_ref{H:Hp}{p:Addr}(h:Known H (.ref p)):Kn1 H (.ref p):=⟨h,fun z e=>nomatch e⟩
theorem Bg{H:Hp}{p:Addr}{xs:List V}(h:H p=some (.lst xs))(hl:xs.length<=20000)(hy:∀y∈xs,Kn3 H y):Kn4 H (.ref p):=⟨kn1_ref (wc h),fun a ys e g=>by
 injection e with e;subst e;rw[h]at g;cases g;exact⟨hl,hy⟩⟩
theorem are_lst{H:Hp}{p:Addr}{xs:List V}(h:H p=some (.lst xs)):bE H (.ref p)=false:=by
 show(match cj (H p)with |some xs=>decide (xs.length<=60)&&xs.all aR|none=>false)=false;rw[h];rfl
noncomputable def Sh(H:Hp)(ws:List V)(L:List (Str×List V)):Prop:=Paired (fun w l=>∃b r,w=V.ref b/\H b=some (.tup [.str l.1,.ref r])/\H r=some (.tup l.2)/\∀y∈l.2,aR y=true) ws L
theorem Sh.same{H H':Hp}{ws:List V}{L:List (Str×List V)}(h:Sh H ws L)(s:aS H H'):Sh H' ws L:=Paired.vZ h fun w l ⟨b,r,e1,e2,e3,e4⟩=>⟨b,r,e1,s _ _ e2,s _ _ e3,e4⟩
theorem Sh.gr{T:Tb}{H H':Hp}{ws:List V}{L:List (Str×List V)}(h:Sh H ws L)(g:Gr T H H')(t:Tab T H):Sh H' ws L:=Paired.vZ h fun w l ⟨b,r,e1,e2,e3,e4⟩=>⟨b,r,e1,g.zy t e2,g.zy t e3,e4⟩
noncomputable def rdD:V->D
 |.int i=>.int i
 |_=>.non
noncomputable def toD(l:Str×List V):D:=.tup [.str l.1,.tup (l.2.map rdD)]
theorem rq{K:ae}{H:Hp}:∀{rs:List V},(∀y∈rs,aR y=true)->jf K H (rs.map rdD) rs
 | [],_=>rfl
 |y::rs,h=>by
  refine⟨y,rs,rfl,?_,rq fun z hz=>h z (.tail _ hz)⟩;rcases dw (h y (.head _))with rfl|rfl<;>rfl
theorem ym:∀{rs:List V},(∀y∈rs,aR y=true)->i6 (rs.map rdD)=0
 | [],_=>rfl
 |y::rs,h=>by
  have e:=ym (rs:=rs) fun z hz=>h z (.tail _ hz);rcases dw (h y (.head _))with rfl|rfl<;>(show max 0 (i6 (rs.map rdD))=0;rw[e];rfl)
theorem nU{K:ae}{H:Hp}:∀{ws:List V}{L:List (Str×List V)},Sh H ws L->jf K H (L.map toD) ws
 |_,_,.nil=>rfl
 |_,_,.cons ⟨b,r,e1,e2,e3,e4⟩ t=>⟨_,_,rfl,⟨b,_,e1,SqT.of e2,_,_,rfl,rfl,_,_,rfl,⟨r,_,rfl,SqT.of e3,rq e4⟩,rfl⟩,nU t⟩
theorem wg{H:Hp}:∀{ws:List V}{L:List (Str×List V)},Sh H ws L->i6 (L.map toD)<=2
 |_,_,.nil=>by decide
 |_,_,.cons ⟨b,r,e1,e2,e3,e4⟩ t=>by
  have :=wg t
  show max (max 0 (max (i6 (_:List D)+1) 0)+1) (i6 _)<=2;rw[ym e4];omega
noncomputable def say(H:Hp)(us:List V):List (Str×List V):=us.map fun u=>(aK H u,nV H u)
theorem tV{H:Hp}:∀{us:List V},(∀u∈us,cB H u=true)->Sh H us (say H us)
 | [],_=>.nil
 |u::us,h=>by
  obtain⟨a,b,e,h1,h2,_,h4⟩:=iJ (h u (.head _));exact .cons ⟨a,b,e,h1,h2,h4⟩ (tV fun z hz=>h z (.tail _ hz))
theorem srt_lst{H:Hp}{h:Addr}{ws:List V}(e:H h=some (.lst ws)):srt H (.ref h)=_root_.Q.sortBy V.non (ws.map (aK H)) ws:=by
 show(match dE (H h)with |some ys=>_root_.Q.sortBy V.non (ys.map (aK H)) ys|none=>[])=_;rw[e];rfl
end K02
namespace K11
open PySem PySem.Spec PyProof.Rows L2 R Cp Lt Lm K02
theorem sH{H:Hp}:∀{ws:List V}{L:List (Str×List V)}{i:Nat}{w:V},Sh H ws L->ws[i]? =some w->∃l,L[i]? =some l/\∃b r,w=V.ref b/\H b=some (.tup [.str l.1,.ref r])/\H r=some (.tup l.2)/\∀y∈l.2,aR y=true
 |_,_,0,w,.cons p t,e=>by
  cases e;exact⟨_,rfl,p⟩
 |_,_,i+1,w,.cons p t,e=>by
  obtain⟨l,e1,h⟩:=sH (i:=i) t (by simpa using e);exact⟨l,by simpa using e1,h⟩
end K11
namespace K12
open PySem PySem.Spec PyProof.Rows L2 R Cp Lt Lm K02 K11
theorem AN{H:Hp}{w:V}{l:Str×List V}(h:∃b r,w=V.ref b/\H b=some (.tup [.str l.1,.ref r])/\H r=some (.tup l.2)/\∀y∈l.2,aR y=true)(hn:cY l.1=true)(hl:l.2.length<=60):
  cB H w=true/\aK H w=l.1/\bU H w=l.2.length/\Kn3 H w:=by
 obtain⟨b,r,rfl,h1,h2,h4⟩:=h;have ar:bE H (.ref r)=true:=by
  show(match cj (H r)with |some xs=>decide (xs.length<=60)&&xs.all aR|none=>false)=true;rw[h2];show(decide (l.2.length<=60)&&l.2.all aR)=true;rw[decide_eq_true hl,cP,bc];exact h4
 have hz:l.1.length<=20000:=by
  have :=hn
  unfold cY at this;rw[ag,decide_eq_true_eq]at this;omega
 refine⟨?_,?_,?_,⟨jG h1,fun z e=>nomatch e⟩,fun a xs e hx=>?_⟩
 ·show(match cj (H b)with |some [n,r]=>isName n&&bE H r|_=>false)=true
  rw[h1];show(cY l.1&&bE H (.ref r))=true;rw[hn,ar];rfl
 ·show(match cj (H b)with |some (.str z::_)=>z|_=>("":Str))=_
  rw[h1];rfl
 ·show(match cj (H b)with |some [_,.ref b]=>(cj (H b)).elim 0 gS|_=>0)=l.2.length
  rw[h1];show(cj (H r)).elim 0 gS=l.2.length;rw[h2];rfl
 ·injection e with e
  subst e;rw[h1]at hx;cases hx;refine⟨by show 2<=20000;decide,fun y hy=>?_⟩;simp only[aA,bP,or_false]at hy;rcases hy with rfl|rfl
  ·exact⟨⟨kA,fun z e=>by injection e with e;rw[<-e];exact hz⟩,fun a xs e=>nomatch e⟩
  ·refine⟨⟨jG h2,fun z e=>nomatch e⟩,fun a xs e hx=>?_⟩
   injection e with e;subst e;rw[h2]at hx;cases hx;refine⟨by omega,fun z hz=>?_⟩;rcases dw (h4 z hz)with rfl|rfl
   ·exact⟨gW,fun z e=>nomatch e⟩
   ·exact⟨gW,fun z e=>nomatch e⟩
structure Good(L:List (Str×List V)):Prop where
 len:L.length<=40
 nm:∀l∈L,cY l.1=true
 rd:∀l∈L,∀y∈l.2,aR y=true
 nd:(L.map (·.1)).Nodup
 ct:∃n≤60,∀l∈L,l.2.length=n
theorem Good.take{L:List (Str×List V)}(g:Good L)(i:Nat):Good (L.take i) where
 len:=by rw[dD];have :=g.len;omega
 nm:=fun l h=>g.nm l (nJ h)
 rd:=fun l h=>g.rd l (nJ h)
 nd:=by rw[List.map_take];exact g.nd.sublist (kG _ _)
 ct:=let⟨n,hn,h⟩:=g.ct;⟨n,hn,fun l hl=>h l (nJ hl)⟩
theorem lz{H:Hp}{ws:List V}{L:List (Str×List V)}(sh:Sh H ws L)(hn:∀l∈L,cY l.1=true)(hl:∀l∈L,l.2.length<=60):ws.map (aK H)=L.map (·.1)/\∀w∈ws,cB H w=true/\Kn3 H w/\∃l∈L,bU H w=l.2.length:=by
 induction sh with
 |nil=>exact⟨rfl,fun w h=>nomatch h⟩
 | @cons w l ws L h t ih=>
  obtain⟨e,k⟩:=ih (fun l h=>hn l (aJ _ h)) (fun l h=>hl l (aJ _ h));obtain⟨c1,c2,c3,c4⟩:=AN h (hn l aH) (hl l aH);refine⟨by rw[bC,bC,e,c2],fun x hx=>?_⟩;rcases aA.mp hx with rfl|hx
  ·exact⟨c1,c4,l,aH,c3⟩
  ·obtain⟨a,b,l',hl',d⟩:=k x hx
   exact⟨a,b,l',aJ _ hl',d⟩
theorem jC{H:Hp}{ws:List V}{L:List (Str×List V)}(sh:Sh H ws L):ws.length=L.length:=iy sh
theorem ly{H:Hp}{t:Addr}{ws:List V}{L:List (Str×List V)}(ht:H t=some (.lst ws))(sh:Sh H ws L)(g:Good L):Kn4 H (.ref t)/\cL H (.ref t)=true/\∀y∈ws,cB H y=true:=by
 obtain⟨n,hn,hc⟩:=g.ct;obtain⟨e,k⟩:=lz sh g.nm fun l hl=>by rw[hc l hl];exact hn
 have hwl:ws.length<=40:=by rw[jC sh];exact g.len
 have cp:∀y∈ws,cB H y=true:=fun y hy=>(k y hy).1;have ct:∀y∈ws,bU H y=n:=fun y hy=>let⟨_,_,l,hl,z⟩:=k y hy;z.trans (hc l hl);refine⟨Bg ht (by omega) fun y hy=>(k y hy).2.1,?_,cp⟩;show(match dE (H t)with |some xs=>decide (xs.length<=40)&&(xs.all (cB H)&&(decide ((xs.map (aK H)).Nodup)&&decide (∀y∈xs,∀z∈xs,bU H y=bU H z))) |none=>false)=true;rw[ht];show(decide (ws.length<=40)&&(ws.all (cB H)&&(decide ((ws.map (aK H)).Nodup)&&decide (∀y∈ws,∀z∈ws,bU H y=bU H z))))=true;rw[decide_eq_true hwl,cP,ag,ag,bc,decide_eq_true_eq,decide_eq_true_eq];exact⟨cp,by rw[e];exact g.nd,fun y hy z hz=>by rw[ct y hy,ct z hz]⟩
end K12
namespace K91
open PySem PySem.Spec PyProof.Rows L2 R Cp Lt Lm K02 K11 K12
theorem n9{n:Str}(h:cY n=true):n.length<=8:=by
 unfold cY at h;rw[ag,decide_eq_true_eq]at h;exact h.1.2
end K91
namespace K13
open PySem PySem.Spec PyProof.Rows L2 R Cp Lt Lm K02 K11 K12 K91
structure sM(l:Str×List V):Prop where
 nm:cY l.1=true
 len:l.2.length<=60
 rd:∀y∈l.2,aR y=true
theorem sh_tab2{H:Hp}{t:Addr}{ws:List V}{L:List (Str×List V)}(ht:H t=some (.lst ws))(sh:Sh H ws L)(f:∀l∈L,sM l)(hl:L.length<=41):Kn4 H (.ref t)/\(cL H (.ref t)=true->Good L):=by
 obtain⟨e,k⟩:=lz sh (fun l h=>(f l h).nm) (fun l h=>(f l h).len);refine⟨Bg ht (by rw[jC sh];omega) fun y hy=>(k y hy).2.1,fun h=>?_⟩;change(match dE (H t)with |some xs=>decide (xs.length<=40)&&(xs.all (cB H)&&(decide ((xs.map (aK H)).Nodup)&&decide (∀y∈xs,∀z∈xs,bU H y=bU H z))) |none=>false)=true at h;rw[ht]at h;change(decide (ws.length<=40)&&(ws.all (cB H)&&(decide ((ws.map (aK H)).Nodup)&&decide (∀y∈ws,∀z∈ws,bU H y=bU H z))))=true at h;rw[ag,ag,ag,decide_eq_true_eq,decide_eq_true_eq,decide_eq_true_eq]at h;obtain⟨h1,_,h2,h3⟩:=h;have at':∀(i:Nat)(l:Str×List V),L[i]? =some l->∃w∈ws,bU H w=l.2.length:=fun i l hi=>by
  have hlt:i<L.length:=(aY.mp hi).1;obtain⟨l',e1,o⟩:=sH (i:=i) (w:=ws[i]'(by rw[jC sh];exact hlt)) sh (ah _);obtain rfl:l'=l:=aP (e1.symm.trans hi);have hm:=bf hi;exact⟨_,bQ _,(AN o (f _ hm).nm (f _ hm).len).2.2.1⟩
 refine⟨by rw[<-jC sh];exact h1,fun l h=>(f l h).nm,fun l h=>(f l h).rd,by rw[<-e];exact h2,?_⟩;cases hL:L with
 |nil=>exact⟨0,by decide,fun l h=>nomatch h⟩
 |cons l0 L0=>
  refine⟨l0.2.length,(f l0 (by rw[hL];exact aH)).len,fun l hl=>?_⟩;rw[<-hL]at hl;obtain⟨i,hi⟩:=DO hl;obtain⟨w,hw,ew⟩:=at' i l hi;obtain⟨w0,hw0,ew0⟩:=at' 0 l0 (by rw[hL];rfl);rw[<-ew,<-ew0];exact h3 w hw w0 hw0
end K13
namespace K82
open PySem R
noncomputable def xO:List Str:=["table","name","readings"]
noncomputable def pW:List Str:=["table","name","readings","behind"]
noncomputable def mP:CB:=
  (.cons (.ret (.var 3))
  .nil)
noncomputable def mQ:CB:=
  (.cons (.expr (.call "need_table" (.cons (.var 3) .nil)))
  mP)
noncomputable def mR:CB:=
  (.cons (.asg (.name 3) (.bin .Add (.var 0) (.lst (.cons (.tup (.cons (.var 1) (.cons (.bfn .tuple (.cons (.bfn .list (.cons (.var 2) .nil)) .nil)) .nil))) .nil))))
  mQ)
noncomputable def qf:CB:=
  (.cons (.iff (.bfn .any (.cons (.comp ["copy"] [1] (.name 0) (.seq (.var 0)) .no (.cmp .Eq (.var 1) (.idx (.var 0) (.con (.int 0))))) .nil))
  (.cons (.rais "Twice" (.cons (.con (.str "a copy has this name already")) .nil))
  .nil)
  .nil)
  mR)
noncomputable def rF:List Str:=["table","name"]
noncomputable def lB:List Str:=["table","name"]
noncomputable def lT:CB:=
  (.cons (.expr (.call "need_name" (.cons (.var 0) (.cons (.var 1) .nil))))
  (.cons (.ret (.comp ["copy"] [1] (.name 0) (.seq (.var 0)) (.yes (.cmp .NotEq (.idx (.var 0) (.con (.int 0))) (.var 1))) (.var 0)))
  .nil))
noncomputable def qt:List Str:=["self"]
noncomputable def kP:List Str:=["self"]
noncomputable def kR:CB:=
  (.cons (.fldI (.var 0) "copies" (.lst .nil))
  .nil)
noncomputable def zZ:List Str:=["self","name","readings"]
noncomputable def rP:List Str:=["self","name","readings","behind"]
noncomputable def oN:CB:=
  (.cons (.fldI (.var 0) "copies" (.var 3))
  .nil)
noncomputable def oO:CB:=
  (.cons (.expr (.call "refuse_clash" (.cons (.var 3) .nil)))
  oN)
noncomputable def oP:CB:=
  (.cons (.asg (.name 3) (.call "with_copy" (.cons (.fldI (.var 0) "copies") (.cons (.var 1) (.cons (.var 2) .nil)))))
  oO)
noncomputable def oQ:CB:=
  (.cons (.iff (.not (.call "are_readings" (.cons (.var 2) .nil)))
  (.cons (.rais "NoReading" (.cons (.con (.str "these are no readings")) .nil))
  .nil)
  .nil)
  oP)
noncomputable def sC:CB:=
  (.cons (.iff (.not (.call "is_name" (.cons (.var 1) .nil)))
  (.cons (.rais "NoName" (.cons (.con (.str "this is no name")) .nil))
  .nil)
  .nil)
  oQ)
noncomputable def z6:List Str:=["self","name"]
noncomputable def rQ:List Str:=["self","name"]
noncomputable def sD:CB:=
  (.cons (.fldI (.var 0) "copies" (.call "without_copy" (.cons (.fldI (.var 0) "copies") (.cons (.var 1) .nil))))
  .nil)
noncomputable def vO:List Str:=["self"]
noncomputable def oi:List Str:=["self"]
noncomputable def oM:CB:=
  (.cons (.ret (.call "table_list" (.cons (.fldI (.var 0) "copies") .nil)))
  .nil)
noncomputable def xR:List Str:=["self"]
noncomputable def pZ:List Str:=["self"]
noncomputable def qk:CB:=
  (.cons (.ret (.call "tree_trees" (.cons (.fldI (.var 0) "copies") .nil)))
  .nil)
end K82
namespace K82
open PySem PySem.Spec PyProof.Rows L2 R Cp Lt Lm K02 K11 K12
noncomputable abbrev Row:=Str×List V
noncomputable def sL(L:List Row):List Row:=_root_.Q.sortBy (("":Str),([]:List V)) (L.map (·.1)) L
theorem jr{L:List Row}(nd:(L.map (·.1)).Nodup):(sL L).Perm L:=_root_.Q.fu _ nd (by simp)
theorem sh_cd{H:Hp}{ys:List V}{L:List Row}(sh:Sh H ys L):ys.map (K22.cd H)=L:=by
 induction sh with
 |nil=>rfl
 | @cons w l ws L h t ih=>
  obtain⟨b,r,rfl,h1,h2,h3⟩:=h;rw[bC,ih,K22.EH h1 h2]
theorem vB{H:Hp}{t:Addr}{ys:List V}{L:List Row}(et:H t=some (.lst ys))(sh:Sh H ys L)(g:Good L):K22.rowsOf H (.ref t)=sL L:=by
 obtain⟨n,hn,hc⟩:=g.ct;obtain⟨e,_⟩:=lz sh g.nm fun l hl=>by rw[hc l hl];exact hn
 unfold K22.rowsOf sL;rw[srt_lst et,_root_.Q.zI,sh_cd sh,e];rfl
theorem C3{R L:List Row}(p:R.Perm L)(i j:Int):K22.i8 R i j=K22.i8 L i j:=by
 unfold K22.i8;congr 1;funext k;rw[jd,bS,bS];exact⟨fun⟨x,hx,h⟩=>⟨x,p.mem_iff.mp hx,h⟩,fun⟨x,hx,h⟩=>⟨x,p.mem_iff.mpr hx,h⟩⟩
theorem noC_of{L:List Row}{n:Nat}(nd:(L.map (·.1)).Nodup)(h:K22.NoC L n):K22.NoC (sL L) n:=fun a b hab hb=>by rw[C3 (jr nd)];exact h a b hab hb
theorem count_is{H:Hp}{t:Addr}{ys:List V}{L:List Row}(et:H t=some (.lst ys))(sh:Sh H ys L)(g:Good L){l:Row}(hl:l∈L):count H (.ref t)=l.2.length:=by
 obtain⟨n,hn,hc⟩:=g.ct;obtain⟨_,k⟩:=lz sh g.nm fun l hl=>by rw[hc l hl];exact hn
 show(match dE (H t)with |some (y::_)=>bU H y|_=>0)=_;rw[et];cases ys with
 |nil=>rw[show L=[]from b8.mp (jC sh).symm]at hl;cases hl
 |cons y ys=>
  show bU H y=_;obtain⟨_,_,l',hl',e⟩:=k y aH;rw[e,hc l' hl',hc l hl]
structure Tl(H:Hp)(t:Addr)(ys:List V)(L:List Row):Prop where
 et:H t=some (.lst ys)
 sh:Sh H ys L
 gd:Good L
theorem Tl.same{H H':Hp}{t:Addr}{ys:List V}{L:List Row}(h:Tl H t ys L)(s:aS H H'):Tl H' t ys L:=⟨s _ _ h.et,h.sh.same s,h.gd⟩
noncomputable def spWc(CT C:Addr):Sp:=fun vs H Q E=>∃t ys L z r rs,vs=[.ref t,.str z,.ref r]/\Tl H t ys L/\K13.sM (z,rs)/\H r=some (.tup rs)/\
 (z∈L.map (·.1)->∀H',aS H H'->E (.ref CT) none H')/\(z∉L.map (·.1)->¬Good (L++[(z,rs)])->∀H',aS H H'->E (.ref C) none H')/\
 (Good (L++[(z,rs)])->∀H' t' b,aS H H'->Tl H' t' (ys++[.ref b]) (L++[(z,rs)])->Q (.ref t') H')
theorem yq{L:List Row}{l:Row}(g:Good (L++[l])):l.1∉L.map (·.1):=fun h=>by
 have :=g.nd
 rw[eD,fJ]at this;exact this.2.2 l.1 h l.1 (by simp) rfl
theorem yS{L:List Row}{z:Str}:((aI L.length).map fun i=>decide (z=(L.getD i ("",[])).1)).any id=true↔z∈L.map (·.1):=by
 simp only[qP,bS,cw,Function.comp,id,decide_eq_true_eq,aV];constructor
 ·rintro⟨i,hi,e⟩
  rw[aj,ah hi]at e;exact⟨L[i],bQ hi,e.symm⟩
 ·rintro⟨l,hl,e⟩
  obtain⟨i,hi,rfl⟩:=He hl;exact⟨i,hi,by rw[aj,ah hi];exact e.symm⟩
theorem wp_wc{G:Gam}{K:ae}{CT C:Addr}(v1:G.val "Twice"=some (.ref CT))(xc:XC K CT)(g1:G.fn "need_table" 1=some (pd C,[])):
  Sat G K (spWc CT C) qf pW:=by
 rintro vs H Q E ⟨t,ys,L,z,r,rs,rfl,tl,fz,hr,q1,q2,q3⟩;unfold qf;change wpB G K _ _ _ [some (.ref t),some (.str z),some (.ref r),none] H;walk_at "wp";have hyl:ys.length<=40:=by rw[jC tl.sh];exact tl.gd.len
 refine fc (dP rfl (SqL.of tl.et) (fC fv (short hyl) (fun H1 s1=>SqL.of (s1 _ _ tl.et)) (fun i v _=>v=.bl (decide (z=(L.getD i ("",[])).1))) (fun _ _ _ _ _ h=>h) (fun τ=>∃t,τ=[t,some (.str z)]) ⟨none,rfl⟩ ?_ ?_))
 ·rintro i x τ H3 R hi ⟨t0,rfl⟩ s3 hx k
  obtain⟨l,el,b,r',rfl,hb,_,_⟩:=sH tl.sh hx;walk_at "wp";refine .inr (.inl ⟨b,_,0,.str l.1,rfl,rfl,SqT.of (s3 _ _ hb),rfl,?_⟩);refine eq_ss.mpr (k _ _ _ ⟨_,rfl⟩ (aS.refl _) ?_);rw[aj,el];rfl
 ·intro vs H2 m hvl hF s2 hm
  have e1:=bool_list hvl hF;subst e1;refine⟨m,_,rfl,SqL.of aq,_,rfl,?_⟩;rw[jC tl.sh];have s3:=s2.trans (az (o:=.lst (((aI L.length).map fun i=>decide (z=(L.getD i ("",[])).1)).map V.bl)) hm);generalize upd H2 m (.lst (((aI L.length).map fun i=>decide (z=(L.getD i ("",[])).1)).map V.bl))=H3 at s3;by_cases hz:z∈L.map (·.1)
  ·rw[if_pos (yS.mpr hz)]
   exact⟨CT,v1,xc.1,xc.2,n6,q1 hz H3 s3⟩
  ·rw[if_neg (fun e=>hz (yS.mp e))]
   unfold mR;walk_at "wp";refine⟨r,_,rfl,.inr (SqT.of (s3 _ _ hr)),fun l1 hl1=>?_⟩;have s4:=az (o:=.lst rs) hl1;have h4:upd H3 l1 (.lst rs) l1=_:=aq;generalize upd H3 l1 (.lst rs)=H4 at s4 h4;refine⟨l1,_,rfl,.inl ⟨SqL.of h4,fun r5 hr5=>?_⟩⟩;have s5:=az (o:=.tup rs) hr5;have h5:upd H4 r5 (.tup rs) r5=_:=aq;generalize upd H4 r5 (.tup rs)=H5 at s5 h5;refine⟨short (by show 2<=40;decide),fun b hb=>⟨short (by show 1<=40;decide),fun l6 hl6=>?_⟩⟩;have s6:=az (o:=.tup [V.str z,V.ref r5]) hb;have h6:upd H5 b (.tup [V.str z,V.ref r5]) b=_:=aq;generalize upd H5 b (.tup [V.str z,V.ref r5])=H6 at s6 h6 hl6;have s7:=az (o:=.lst [V.ref b]) hl6;have h7:upd H6 l6 (.lst [V.ref b]) l6=_:=aq;generalize upd H6 l6 (.lst [V.ref b])=H7 at s7 h7;have s37:=s4.trans (s5.trans (s6.trans s7));refine .inr (.inr (.inl ⟨t,l6,_,_,rfl,rfl,s37 _ _ (s3 _ _ tl.et),h7,aF (G9 hyl 1) (by decide),fun t' ht'=>?_⟩));have s8:=az (o:=.lst (ys++[V.ref b])) ht';have h8:upd H7 t' (.lst (ys++[V.ref b])) t'=_:=aq;generalize upd H7 t' (.lst (ys++[V.ref b]))=H8 at s8 h8;have s18:=s3.trans (s37.trans s8);have sh8:Sh H8 (ys++[.ref b]) (L++[(z,rs)]):=Paired.snoc (tl.sh.same s18) ⟨b,r5,rfl,s8 _ _ (s7 _ _ h6),s8 _ _ (s7 _ _ (s6 _ _ h5)),fz.rd⟩;obtain⟨n0,hn0,hc0⟩:=tl.gd.ct;have ff:∀l∈L++[(z,rs)],K13.sM l:=fun l hl=>by
    rcases fq.mp hl with hl|hl
    ·exact⟨tl.gd.nm l hl,by rw[hc0 l hl];exact hn0,tl.gd.rd l hl⟩
    ·rw[aO.mp hl];exact fz
   obtain⟨k1,k2⟩:=K13.sh_tab2 h8 sh8 ff (by rw[cm];exact G9 tl.gd.len 1);unfold mQ;walk_at "wp";refine⟨_,_,g1,.ref t',rfl,k1,fun e H9 s9=>?_,fun e H9 s9=>?_⟩
   ·unfold mP
    walk_at "wp"
    exact q3 (k2 e) H9 t' b (s18.trans s9) ⟨s9 _ _ h8,sh8.same s9,k2 e⟩
   ·refine q2 hz (fun g=>?_) H9 (s18.trans s9)
    rw[(ly h8 sh8 g).2.1]at e;cases e
noncomputable def spWo(C CN:Addr):Sp:=fun vs H Q E=>∃t ys L x,vs=[.ref t,x]/\Tl H t ys L/\Known H x/\(∀z,x=.str z->z.length<=20000)/\((∀z,x=.str z->z∉L.map (·.1))->∀H',aS H H'->E (.ref CN) none H')/\
 ∀z,x=.str z->z∈L.map (·.1)->∀H' t' ys',aS H H'->Tl H' t' ys' (L.filter fun l=>decide (l.1≠z))->Q (.ref t') H'
theorem yr{L:List Row}(g:Good L)(p:Row->Bool):Good (L.filter p):=
 ⟨aF (DH _ _) g.len,fun l h=>g.nm l (dm.mp h).1,fun l h=>g.rd l (dm.mp h).1,g.nd.sublist (List.Sublist.map _ jm),let⟨n,a,b⟩:=g.ct;⟨n,a,fun l h=>b l (dm.mp h).1⟩⟩
theorem B4{H:Hp}{ys:List V}{L:List Row}{p:V->Bool}{q:Row->Bool}(sh:Sh H ys L)(h:∀(w:V)(l:Row),(∃b r,w=V.ref b/\H b=some (.tup [.str l.1,.ref r])/\H r=some (.tup l.2)/\∀y∈l.2,aR y=true)->p w=q l):Sh H (ys.filter p) (L.filter q):=by
 induction sh with
 |nil=>exact .nil
 | @cons w l ws L hw t ih=>
  rw[List.filter_cons,List.filter_cons,h w l hw];split
  ·exact .cons hw ih
  ·exact ih
theorem gc{H:Hp}{t:Addr}{ys:List V}{L:List Row}(tl:Tl H t ys L){z:Str}:K32.C0 H (.ref t) (.str z)↔z∈L.map (·.1):=by
 obtain⟨n,hn,hc⟩:=tl.gd.ct;obtain⟨e,_⟩:=lz tl.sh tl.gd.nm fun l hl=>by rw[hc l hl];exact hn
 rw[<-e];constructor
 ·rintro⟨a,ys',z',c,e1,e2,e3,e4,e5⟩
  injection e1 with e1;subst e1;injection e3 with e3;subst e3;rw[tl.et]at e2;cases e2;exact aV.mpr ⟨c,e4,e5⟩
 ·intro h
  obtain⟨c,hc1,hc2⟩:=aV.mp h;exact⟨t,ys,z,c,rfl,by rw[tl.et];rfl,rfl,hc1,hc2⟩
theorem wp_wo{G:Gam}{K:ae}{C CN:Addr}(g1:G.fn "need_name" 2=some (K32.rg C CN,[])):
  Sat G K (spWo C CN) lT lB:=by
 rintro vs H Q E ⟨t,ys,L,x,rfl,tl,hk,hx,q1,q2⟩;unfold lT;change wpB G K _ _ _ [some (.ref t),some x] H;walk_at "wp";obtain⟨k1,k2,_⟩:=ly tl.et tl.sh tl.gd;refine⟨_,_,g1,.ref t,x,rfl,k1,hk,hx,(fun e=>by rw[k2]at e;cases e),fun _=>⟨fun hn H1 s1=>?_,fun hn H1 s1=>?_⟩⟩
 ·have tl1:=tl.same s1
  obtain⟨z,rfl⟩:∃z,x=.str z:=by
   obtain⟨_,_,z,_,_,_,e,_⟩:=hn;exact⟨z,e⟩
  have hyl:ys.length<=40:=by rw[jC tl.sh];exact tl.gd.len
  refine fc (dP rfl (SqL.of tl1.et) (uF (xs:=ys) fv (short hyl) (fun H2 s2=>SqL.of (s2 _ _ tl1.et)) (fun y=>decide (aK H1 y≠z)) id (fun τ=>∃t,τ=[t,some (.str z)]) ⟨none,rfl⟩ ?_ ?_))
  ·rintro y τ H3 Rt Rf hy ⟨t0,rfl⟩ s3 kt kf
   obtain⟨i,hi⟩:=DO hy;obtain⟨l,el,b,r',rfl,hb,hr',_⟩:=sH tl1.sh hi;have en:aK H1 (.ref b)=l.1:=by
    show(match cj (H1 b)with |some (.str z::_)=>z|_=>("":Str))=_;rw[hb];rfl
   walk_at "wp"
   refine .inr (.inl ⟨b,_,0,.str l.1,rfl,rfl,SqT.of (s3 _ _ hb),rfl,?_⟩);refine ne_ss.mpr ⟨_,rfl,?_⟩;by_cases e:l.1=z
   ·rw[if_neg (by rw[e];simp)]
    exact kf _ _ ⟨_,rfl⟩ (aS.refl _) (by rw[en,e];simp)
   ·rw[if_pos (by simp[e])]
    exact kt _ _ ⟨_,rfl⟩ (aS.refl _) (by rw[en];simp[e])
  ·intro H2 m s2 hm
   rw[DN];have s3:=az (o:=.lst (ys.filter fun y=>decide (aK H1 y≠z))) hm;have sh1:Sh H1 (ys.filter fun y=>decide (aK H1 y≠z)) (L.filter fun l=>decide (l.1≠z)):=B4 tl1.sh fun w l ⟨b,r,e1,e2,_,_⟩=>by
    subst e1;rw[show aK H1 (.ref b)=l.1 from by
     show(match cj (H1 b)with |some (.str z::_)=>z|_=>("":Str))=_;rw[e2];rfl]
   exact q2 z rfl ((gc tl).mp hn) _ m _ (s1.trans (s2.trans s3)) ⟨aq,sh1.same (s2.trans s3),yr tl.gd _⟩
 ·refine q1 (fun z e hz=>?_) H1 s1
  subst e;exact hn ((gc tl).mpr hz)
structure Ow(K:ae)(C:Addr):Prop where
 c:Cls K C
 n:l9 K C "copies"
noncomputable def Eh(C:Addr):Sp:=fun vs H Q _=>∃s dx,vs=[.ref s]/\H s=some (.ins C dx [])/\∀t,t≠s->H t=none->Q .non (upd (upd H t (.lst [])) s (.ins C dx [("copies",.ref t)]))
theorem wp_ini{G:Gam}{K:ae}{C:Addr}(o:Ow K C):
  Sat G K (Eh C) kR kP:=by
 rintro vs H Q E ⟨s,dx,rfl,hs,q⟩;unfold kR;change wpB G K _ _ _ [some (.ref s)] H;walk_at "wp";simp only[EA,iF,tLst,iG,bj,bx,exists_eq_left'];refine⟨bp _,fun t ht=>?_⟩;have ne:t≠s:=fun z=>by rw[z,hs]at ht;cases ht
 refine⟨s,C,dx,[],rfl,by rw[aN (bK ne)];exact hs,o.c,o.n,by decide,q t ne ht⟩
structure Shf(H:Hp)(s C dx t:Addr)(ys:List V)(L:List Row):Prop where
 so:H s=some (.ins C dx [("copies",.ref t)])
 tl:Tl H t ys L
theorem Shf.same{H H':Hp}{s C dx t:Addr}{ys:List V}{L:List Row}(h:Shf H s C dx t ys L)(k:aS H H'):Shf H' s C dx t ys L:=⟨k _ _ h.so,h.tl.same k⟩
theorem Tl.gr{T:Tb}{H H':Hp}{t:Addr}{ys:List V}{L:List Row}(h:Tl H t ys L)(g:Gr T H H')(tb:Tab T H):Tl H' t ys L:=⟨g.lst tb h.et,h.sh.gr g tb,h.gd⟩
theorem Tl.put{H:Hp}{s t:Addr}{o o':HO}{ys:List V}{L:List Row}(h:Tl H t ys L)(hs:H s=some o)(hn:∀xs,o≠.lst xs)(hn2:∀xs,o≠.tup xs):Tl (upd H s o') t ys L:=
 ⟨by rw[aN (fun z=>hn _ (aP (hs.symm.trans (by rw[<-z];exact h.et))))];exact h.et,
  Paired.vZ h.sh fun w l ⟨b,r,e1,e2,e3,e4⟩=>⟨b,r,e1,by rw[aN (fun z=>by rw[z,hs]at e2;exact hn2 _ (aP e2))];exact e2,by rw[aN (fun z=>by rw[z,hs]at e3;exact hn2 _ (aP e3))];exact e3,e4⟩,h.gd⟩
theorem put_c(v w:V):gR (ao "copies") w [((ao "copies":Str),v)]=[((ao "copies":Str),w)]:=by simp[gR]
theorem wa(v:V):cg (ao "copies") [((ao "copies":Str),v)]=some v:=by rw[aT];simp
noncomputable def KnR(H:Hp)(y:V):Prop:=Known H y/\∀a xs,y=.ref a->H a=some (.tup xs)->xs.length<=20000/\∀y∈xs,Known H y
theorem Known.some{H:Hp}{a:Addr}(h:Known H (.ref a)):∃u,H a=some u:=by
 cases e:H a with
 |some u=>exact⟨u,rfl⟩
 |none=>
  have h':fW (H a)≠"?":=h;rw[e]at h';exact absurd rfl h'
theorem KnR.same{H H':Hp}{y:V}(h:KnR H y)(s:aS H H'):KnR H' y/\bE H' y=bE H y:=by
 refine⟨⟨(h.1.same s).1,fun a xs e hx=>?_⟩,?_⟩
 ·subst e
  obtain⟨u,hu⟩:=Known.some h.1;have :=s _ _ hu;rw[hx]at this;cases this;obtain⟨k1,k2⟩:=h.2 a xs rfl hu;exact⟨k1,fun y hy=>((k2 y hy).same s).1⟩
 ·cases y with
  |ref a=>
   obtain⟨u,hu⟩:=Known.some h.1;show(match cj (H' a)with |some xs=>decide (xs.length<=60)&&xs.all aR|none=>false)=(match cj (H a)with |some xs=>decide (xs.length<=60)&&xs.all aR|none=>false);rw[hu,s _ _ hu]
  |_=>rfl
theorem rC{H:Hp}{y:V}(h:bE H y=true):∃r rs,y=.ref r/\cj (H r)=some rs/\rs.length<=60/\∀y∈rs,aR y=true:=by
 cases y with
 |ref r=>
  have h':(match cj (H r)with |some xs=>decide (xs.length<=60)&&xs.all aR|none=>false)=true:=h;cases e:cj (H r)with
  |none=>rw[e]at h';cases h'
  |some rs=>
   rw[e]at h';have h2:(decide (rs.length<=60)&&rs.all aR)=true:=h';rw[ag,decide_eq_true_eq,bc]at h2;exact⟨r,rs,rfl,e,h2.1,h2.2⟩
 |_=>cases h
noncomputable def gU(CS CN CR CT C:Addr)(T:Tb):Sp:=fun vs H Q E=>∃s dx t ys L x y,vs=[.ref s,x,y]/\Shf H s CS dx t ys L/\Tab T H/\Known H x/\(∀z,x=.str z->z.length<=20000)/\KnR H y/\
 (isName x=false->∀H',aS H H'->E (.ref CN) none H')/\(isName x=true->bE H y=false->∀H',aS H H'->E (.ref CR) none H')/\
 ∀z r rs,x=.str z->y=.ref r->H r=some (.tup rs)->K13.sM (z,rs)->(z∈L.map (·.1)->∀H',aS H H'->E (.ref CT) none H')/\(z∉L.map (·.1)->¬Good (L++[(z,rs)])->∀H',aS H H'->E (.ref C) none H')/\
  (Good (L++[(z,rs)])->K22.NoC (L++[(z,rs)]) rs.length/\∀H1 t' ys',Gr T H H1->Tl H1 t' ys' (L++[(z,rs)])->H1 s=some (.ins CS dx [("copies",.ref t)])->Q .non (upd H1 s (.ins CS dx [("copies",.ref t')])))
theorem wp_put{G:Gam}{K:ae}{CS CN CR CT C CC:Addr}{T:Tb}(o:Ow K CS)(v1:G.val "NoName"=some (.ref CN))(x1:XC K CN)(v2:G.val "NoReading"=some (.ref CR))(x2:XC K CR)(g1:G.fn "is_name" 1=some (spN,[]))(g2:G.fn "are_readings" 1=some (spR,[]))(g3:G.fn "with_copy" 3=some (spWc CT C,[]))(g4:G.fn "refuse_clash" 1=some (K32.nS C CC T,[])):
  Sat G K (gU CS CN CR CT C T) sC rP:=by
 rintro vs H Q E ⟨s,dx,t,ys,L,x,y,rfl,sf,tb,hk,hx,hy,q1,q2,q3⟩;unfold sC;change wpB G K _ _ _ [some (.ref s),some x,some y,none] H;walk_at "wp";refine⟨_,_,g1,x,rfl,hk,hx,fun H1 s1=>⟨_,rfl,?_⟩⟩;cases en:isName x with
 |false=>
  rw[if_pos (by decide)];exact⟨CN,v1,x1.1,x1.2,n6,q1 en H1 s1⟩
 |true=>
  rw[if_neg (by decide)];unfold oQ;walk_at "wp";obtain⟨ky,ea⟩:=hy.same s1;refine⟨_,_,g2,y,rfl,ky.1,ky.2,fun H2 s2=>⟨_,rfl,?_⟩⟩;cases er:bE H y with
  |false=>
   rw[ea,er,if_pos (by decide)];exact⟨CR,v2,x2.1,x2.2,n6,q2 en er H2 (s1.trans s2)⟩
  |true=>
   rw[ea,er,if_neg (by decide)];have s12:=s1.trans s2;obtain⟨r,rs,rfl,hr,hl,hrd⟩:=rC er;have hr:=i4 hr;obtain⟨z,rfl⟩:∃z,x=.str z:=by
    cases x with
    |str z=>exact⟨z,rfl⟩
    |_=>cases en
   obtain⟨p1,p2,p3⟩:=q3 z r rs rfl rfl hr ⟨en,hl,hrd⟩;have sf2:=sf.same s12;unfold oP;walk_at "wp";refine⟨_,_,g3,?_⟩;simp only[BY,iF,bj,bx,exists_eq_left'];refine⟨s,CS,dx,_,.ref t,rfl,sf2.so,o.c,o.n,wa _,t,ys,L,z,r,rs,rfl,sf2.tl,⟨en,hl,hrd⟩,s12 _ _ hr,fun h H' s'=>p1 h H' (s12.trans s'),fun h1 h2 H' s'=>p2 h1 h2 H' (s12.trans s'),fun g H3 t' b s3 tl3=>?_⟩;obtain⟨nc,q⟩:=p3 g;have s13:=s12.trans s3;obtain⟨k1,k2,_⟩:=ly tl3.et tl3.sh tl3.gd;have ro:=vB tl3.et tl3.sh tl3.gd;have ct:=count_is tl3.et tl3.sh tl3.gd (l:=(z,rs)) (by simp);unfold oO;walk_at "wp";refine⟨_,_,g4,.ref t',rfl,k1,(Gr.of s13).tab tb,(fun e=>by rw[k2]at e;cases e),fun _=>⟨fun _ H4 g4=>?_,fun H4 i j l dd g4 f _ _=>?_⟩⟩
   ·unfold oN
    walk_at "wp"
    simp only[EA,iF,bj,bR,bx,exists_eq_left'];have tb3:=(Gr.of s13).tab tb;have so4:H4 s=some (.ins CS dx [("copies",.ref t)]):=g4.at tb3 (s13 _ _ sf.so) fun _ z=>by cases z
    refine⟨s,CS,dx,_,rfl,so4,o.c,o.n,(by show 1<1000;decide),?_⟩;rw[put_c];exact q H4 t' _ ((Gr.of s13).trans g4) (tl3.gr g4 tb3) so4
   ·rw[ro,ct]at f
    have :=noC_of tl3.gd.nd nc i j f.ij f.jn
    rw[f.four]at this;cases this
noncomputable def jY(CS C CN:Addr):Sp:=fun vs H Q E=>∃s dx t ys L x,vs=[.ref s,x]/\Shf H s CS dx t ys L/\Known H x/\(∀z,x=.str z->z.length<=20000)/\((∀z,x=.str z->z∉L.map (·.1))->∀H',aS H H'->E (.ref CN) none H')/\
 ∀z,x=.str z->z∈L.map (·.1)->∀H1 t' ys',aS H H1->Tl H1 t' ys' (L.filter fun l=>decide (l.1≠z))->Q .non (upd H1 s (.ins CS dx [("copies",.ref t')]))
theorem wp_off{G:Gam}{K:ae}{CS C CN:Addr}(o:Ow K CS)(g1:G.fn "without_copy" 2=some (spWo C CN,[])):
  Sat G K (jY CS C CN) sD rQ:=by
 rintro vs H Q E ⟨s,dx,t,ys,L,x,rfl,sf,hk,hx,q1,q2⟩;unfold sD;change wpB G K _ _ _ [some (.ref s),some x] H;walk_at "wp";simp only[EA,BY,iF,bj,bR,bx,exists_eq_left'];refine⟨_,_,g1,s,CS,dx,_,.ref t,rfl,sf.so,o.c,o.n,wa _,t,ys,L,x,rfl,sf.tl,hk,hx,q1,fun z e hz H1 t' ys' s1 tl1=>?_⟩;refine⟨s,CS,dx,_,rfl,s1 _ _ sf.so,o.c,o.n,(by show 1<1000;decide),?_⟩;rw[put_c];exact q2 z e hz H1 t' ys' s1 tl1
noncomputable def kY(CS:Addr)(T:Tb):Sp:=fun vs H Q _=>∃s dx t ys L,vs=[.ref s]/\Shf H s CS dx t ys L/\Tab T H/\∀H' l zs,Gr T H H'->Tl H' l zs (sL L)->Q (.ref l) H'
theorem D4{H:Hp}{l:Addr}{zs:List V}(el:H l=some (.lst zs))(e:cL H (.ref l)=true):Sh H zs (zs.map (K22.cd H)):=by
 obtain⟨a,ys,e1,h1,h2,h3,_⟩:=dS e;injection e1 with e1
 subst e1;rw[el]at h1;cases h1;exact tV h3
theorem C2{L L':List Row}(p:L'.Perm L)(g:Good L):Good L':=
 ⟨by rw[p.length_eq];exact g.len,fun l h=>g.nm l (p.mem_iff.mp h),fun l h=>g.rd l (p.mem_iff.mp h),(p.map _).nodup_iff.mpr g.nd,let⟨n,a,b⟩:=g.ct;⟨n,a,fun l h=>b l (p.mem_iff.mp h)⟩⟩
theorem wp_tb{G:Gam}{K:ae}{CS C:Addr}{T:Tb}(o:Ow K CS)(g1:G.fn "table_list" 1=some (rh C T,[])):
  Sat G K (kY CS T) oM oi:=by
 rintro vs H Q E ⟨s,dx,t,ys,L,rfl,sf,tb,q⟩;unfold oM;change wpB G K _ _ _ [some (.ref s)] H;walk_at "wp";simp only[BY,iF,bj,bx,exists_eq_left'];obtain⟨k1,k2,_⟩:=ly sf.tl.et sf.tl.sh sf.tl.gd;refine⟨_,_,g1,s,CS,dx,_,.ref t,rfl,sf.so,o.c,o.n,wa _,.ref t,rfl,k1,tb,fun _ H' l zs g hl el c=>?_,fun e=>by rw[k2]at e;cases e⟩;obtain⟨_,t2,_,rw4⟩:=K22.ni k2 el c;rw[vB sf.tl.et sf.tl.sh sf.tl.gd]at rw4;have sh:=D4 el t2;rw[rw4]at sh;exact q H' l zs g ⟨el,sh,C2 (jr sf.tl.gd.nd) sf.tl.gd⟩
noncomputable def kM(CS:Addr)(T:Tb):Sp:=fun vs H Q _=>∃s dx t ys z rs,vs=[.ref s]/\Shf H s CS dx t ys [(z,rs)]/\Tab T H/\∀H' p nl bl r,Gr T H H'->H' p=some (.tup [.ref nl,.ref bl])->H' nl=some (.lst [.ref r])->H' r=some (.tup rs)->H' bl=some (.lst [])->Q (.ref p) H'
theorem wp_tr1{G:Gam}{K:ae}{CS C CC:Addr}{T:Tb}(o:Ow K CS)(g1:G.fn "tree_trees" 1=some (K32.zE C CC T,[])):
  Sat G K (kM CS T) qk pZ:=by
 rintro vs H Q E ⟨s,dx,t,ys,z,rs,rfl,sf,tb,q⟩;unfold qk;change wpB G K _ _ _ [some (.ref s)] H;walk_at "wp";simp only[BY,iF,bj,bx,exists_eq_left'];obtain⟨k1,k2,_⟩:=ly sf.tl.et sf.tl.sh sf.tl.gd;have ro:=vB sf.tl.et sf.tl.sh sf.tl.gd;have ct:=count_is sf.tl.et sf.tl.sh sf.tl.gd (l:=(z,rs)) (by simp);have e1:sL [(z,rs)]=[(z,rs)]:=Hb.mp (jr sf.tl.gd.nd);rw[e1]at ro;refine⟨_,_,g1,s,CS,dx,_,.ref t,rfl,sf.so,o.c,o.n,wa _,.ref t,rfl,k1,tb,(fun e=>by rw[k2]at e;cases e),fun _=>?_⟩;rw[ro,ct];refine⟨fun _ H' p g hp tk=>?_,fun H' i j l dd g f _ _=>?_⟩
 ·rcases tk with⟨h,_⟩ |⟨_,nl,bl,ks,bs,qs,e1,_,_,_,gr,h0,_,ik,bk,en,eb⟩
  ·cases h
  ·have g0:∀p,K32.grp (K32.rI [(z,rs)]) p=0:=fun p=>by
    show M3.num [!decide ((rs.map K32.intOf).getD p 0=(rs.map K32.intOf).getD p 0)] 0=0;simp[M3.num]
   have hq:qs=[]:=by
    cases qs with
    |nil=>rfl
    |cons a r=>
     obtain⟨p,_,e⟩:=gr.2 a aH;rw[g0 p]at e;exact absurd (by rw[show a=0 from e];exact aH) h0
   subst hq;cases bk;unfold _root_.Q.IntKeys M5.iC at ik;cases ik with
   |cons hw tl=>
    cases tl;obtain⟨r,rfl,hr⟩:=hw;refine q H' p nl bl r g e1 en ?_ eb;rw[hr];have e2:M4.bl (K32.fr (K32.rI [(z,rs)])) rs.length (fun _=>false)=rs.map K32.intOf:=by
     apply cE
     ·rw[M4.iw,av]
     ·intro i h1 h2
      rw[av]at h2;simp[M4.bl,K32.fr,K32.rI,h2]
    show some (HO.tup ((M4.bl (K32.fr (K32.rI [(z,rs)])) rs.length (fun _=>false)).map V.int))=_;rw[e2,(K32.pz (sf.tl.gd.rd (z,rs) (by simp))).1]
 ·have :=f.four
  unfold K22.i8 at this;simp[Kc.KP,K22.isK]at this;omega
end K82
namespace K82
open PySem R
noncomputable def xQ:List Str:=["_law_script","_law_k"]
noncomputable def pY:List Str:=["_law_script","_law_k"]
noncomputable def qh:CB:=
  (.cons (.ret (.bin .Mod (.bin .Mult (.bin .Add (.idx (.var 0) (.var 1)) (.con (.int 1))) (.bin .Add (.con (.int 48271)) (.bin .Mult (.bin .Mult (.con (.int 7919)) (.var 1)) (.var 1)))) (.con (.int 2147483629))))
  .nil)
noncomputable def vM:List Str:=["_law_shelf","_law_way","_law_name","_law_readings"]
noncomputable def og:List Str:=["_law_shelf","_law_way","_law_name","_law_readings","_law_caught","e","_law_some"]
noncomputable def lV:CB:=
  (.cons (.ret (.bin .Add (.var 6) (.lst (.cons (.bfn .isx (.cons (.var 4) (.cons (.glo "Twice") .nil))) .nil))))
  .nil)
noncomputable def lW:CB:=
  (.cons (.asg (.name 6) (.lst (.cons (.bfn .isx (.cons (.var 4) (.cons (.glo "NoName") .nil))) (.cons (.bfn .isx (.cons (.var 4) (.cons (.glo "NoReading") .nil))) (.cons (.bfn .isx (.cons (.var 4) (.cons (.glo "NoTable") .nil))) .nil)))))
  lV)
noncomputable def ja:CB:=
  (.cons (.iff (.not (.bfn .isx (.cons (.var 4) (.cons (.ty .valueError) .nil))))
  (.cons (.ret (.lst .nil))
  .nil)
  .nil)
  lW)
noncomputable def lX:CB:=
  (.cons (.tryc "KinError" 5
  (.cons (.iff (.cmp .Eq (.var 1) (.con (.int 0)))
  (.cons (.expr (.mth (.var 0) "put" (.cons (.var 2) (.cons (.var 3) .nil))))
  .nil)
  (.cons (.expr (.mth (.var 0) "off" (.cons (.var 2) .nil)))
  .nil))
  .nil)
  (.cons (.asg (.name 4) (.var 5))
  .nil))
  ja)
noncomputable def oF:CB:=
  (.cons (.asg (.name 4) (.con .none))
  lX)
noncomputable def tw:List Str:=["_law_number"]
noncomputable def mK:List Str:=["_law_number"]
noncomputable def mU:CB:=
  (.cons (.ret (.idx (.lst (.cons (.con (.str "")) (.cons (.con (.str "Ab")) (.cons (.con (.str "a b")) (.cons (.con (.str "abcdefghi")) (.cons (.con (.str "a1")) (.cons (.con .none) (.cons (.con (.int 5)) (.cons (.con (.bool true)) (.cons (.lst (.cons (.con (.str "a")) .nil)) (.cons (.tup (.cons (.con (.str "a")) .nil)) (.cons (.dic .nil) .nil)))))))))))) (.bin .Mod (.var 0) (.con (.int 11)))))
  .nil)
noncomputable def nZ:List Str:=["_law_number"]
noncomputable def js:List Str:=["_law_number","_law_long"]
noncomputable def iD:CB:=
  (.cons (.ret (.idx (.lst (.cons (.con .none) (.cons (.lst (.cons (.con (.int 0)) .nil)) (.cons (.con (.str "0")) (.cons (.tup (.cons (.con (.int 2)) .nil)) (.cons (.tup (.cons (.con (.int 0)) (.cons (.con (.bool true)) .nil))) (.cons (.tup (.cons (.con (.bool false)) .nil)) (.cons (.tup (.cons (.con (.str "0")) .nil)) (.cons (.con (.int 5)) (.cons (.dic .nil) (.cons (.var 1) (.cons (.tup (.cons (.con (.int 0)) (.cons (.tup (.cons (.con (.int 1)) .nil)) .nil))) .nil)))))))))))) (.bin .Mod (.var 0) (.con (.int 11)))))
  .nil)
noncomputable def jv:CB:=
  (.cons (.asg (.name 1) (.bfn .tuple (.cons (.bin .Mult (.lst (.cons (.bin .Mod (.var 0) (.con (.int 2))) .nil)) (.con (.int 61))) .nil)))
  iD)
end K82
namespace K82
open PySem PySem.Spec PyProof.Rows L2 R Cp Lt Lm K02 K11 K12
noncomputable def B0(K:ae):Sp:=fun vs H Q _=>∃(a:Addr)(ns:List Int)(k:Nat),vs=[.ref a,.int k]/\SqL K H a (ns.map V.int)/\k<ns.length/\k<=100/\∀d:Int,0<=d->Q (.int d) H
theorem wp_dw{G:Gam}{K:ae}:Sat G K (B0 K) qh pY:=by
 rintro vs H Q E ⟨a,ns,k,rfl,hs,hk,hk1,q⟩;unfold qh;change wpB G K _ _ _ [some (.ref a),some (.int k)] H;walk_at "wp";refine .inl ⟨a,_,k,.int ns[k],rfl,rfl,hs,d0 (by rw[aQ,ah hk];rfl),?_⟩;have kk:0<=(k:Int)*k/\(k:Int)*k<=10000:=⟨Int.mul_nonneg (by omega) (by omega),Int.le_trans (Int.mul_le_mul (by omega:(k:Int)<=100) (by omega:(k:Int)<=100) (by omega) (by decide)) (by decide)⟩;have e:7919*(k:Int)*k=7919*((k:Int)*k):=Int.mul_assoc _ _ _;refine Az.mpr ⟨Bw (by omega) (by omega),Bw (by omega) (by omega),Fy.mpr ⟨Bw (by omega) (by omega),Fz.mpr ⟨by decide,q _ (w8 _ (by decide))⟩⟩⟩
noncomputable def GU(H:Hp)(x:V):Prop:=Known H x/\isName x=false/\∀z,x=.str z->z.length<=20
noncomputable def qZ:Sp:=fun vs H Q _=>∃n:Int,vs=[.int n]/\∀H' x,aS H H'->GU H' x->Q x H'
theorem wp_nn{G:Gam}{K:ae}:Sat G K qZ mU mK:=by
 rintro vs H Q E ⟨n,rfl,q⟩;unfold mU;change wpB G K _ _ _ [some (.int n)] H;walk_at "wp";refine⟨short (by show 1<=40;decide),fun p1 hp1=>⟨short (by show 1<=40;decide),fun p2 hp2=>.inl ⟨trivial,fun p3 hp3=>⟨short (by show 11<=40;decide),fun p4 hp4=>⟨by decide,?_⟩⟩⟩⟩⟩;have s1:=az (o:=.lst [V.str (ao "a")]) hp1;have h1:upd H p1 (.lst [V.str (ao "a")]) p1=_:=aq;generalize upd H p1 (.lst [V.str (ao "a")])=H1 at s1 h1 hp2 hp3 hp4;have s2:=az (o:=.tup [V.str (ao "a")]) hp2;have h2:upd H1 p2 (.tup [V.str (ao "a")]) p2=_:=aq;generalize upd H1 p2 (.tup [V.str (ao "a")])=H2 at s2 h2 hp3 hp4;have s3:=az (o:=.dK []) hp3;have h3:upd H2 p3 (.dK []) p3=_:=aq;generalize upd H2 p3 (.dK [])=H3 at s3 h3 hp4;generalize hl:[V.str (ao ""),V.str (ao "Ab"),V.str (ao "a b"),V.str (ao "abcdefghi"),V.str (ao "a1"),V.non,V.int 5,V.bl true,V.ref p1,V.ref p2,V.ref p3]=xs;have s4:=az (o:=.lst xs) hp4;have h4:upd H3 p4 (.lst xs) p4=_:=aq;generalize upd H3 p4 (.lst xs)=H4 at s4 h4;have e1:=s4 _ _ (s3 _ _ (s2 _ _ h1));have e2:=s4 _ _ (s3 _ _ h2);have e3:=s4 _ _ h3;have all:∀x∈xs,GU H4 x:=by
  intro x hx;rw[<-hl]at hx;simp only[aA,bP,or_false]at hx;have st:∀z:Str,cY z=false->z.length<=20->GU H4 (.str z):=fun z h1 h2=>⟨kA,h1,fun z' e=>by injection e with e;rw[<-e];exact h2⟩;rcases hx with rfl|rfl|rfl|rfl|rfl|rfl|rfl|rfl|rfl|rfl|rfl
  ·exact st _ (by decide+kernel) (by decide+kernel)
  ·exact st _ (by decide+kernel) (by decide+kernel)
  ·exact st _ (by decide+kernel) (by decide+kernel)
  ·exact st _ (by decide+kernel) (by decide+kernel)
  ·exact st _ (by decide+kernel) (by decide+kernel)
  ·exact⟨FQ,rfl,fun z e=>nomatch e⟩
  ·exact⟨gW,rfl,fun z e=>nomatch e⟩
  ·exact⟨FR,rfl,fun z e=>nomatch e⟩
  ·exact⟨wc e1,rfl,fun z e=>nomatch e⟩
  ·exact⟨jG e2,rfl,fun z e=>nomatch e⟩
  ·exact⟨kn_dK e3,rfl,fun z e=>nomatch e⟩
 have hlen:xs.length=11:=by rw[<-hl];rfl
 have h0:0<=n%11:=w8 _ (by decide);have hlt:n%11<11:=Int.emod_lt_of_pos _ (by decide);obtain⟨k,hk⟩:=BN h0;have hkl:k<xs.length:=by omega
 refine .inl ⟨p4,_,n%11,xs[k],rfl,rfl,SqL.of h4,by rw[hk];exact d0 (ah hkl),?_⟩;exact q H4 _ ((s1.trans s2).trans (s3.trans s4)) (all _ (bQ _))
noncomputable def AB(H:Hp)(y:V):Prop:=KnR H y/\bE H y=false
noncomputable def tf:Sp:=fun vs H Q _=>∃n:Int,vs=[.int n]/\∀H' y,aS H H'->AB H' y->Q y H'
theorem pv{H:Hp}{p:Addr}{xs:List V}(h:H p=some (.tup xs))(hl:xs.length<=20000)(hk:∀y∈xs,Known H y)(n:60<xs.length\/xs.all aR=false):AB H (.ref p):=by
 refine⟨⟨jG h,fun a ys e hy=>?_⟩,?_⟩
 ·injection e with e
  subst e;rw[h]at hy;cases hy;exact⟨hl,hk⟩
 ·show(match cj (H p)with |some xs=>decide (xs.length<=60)&&xs.all aR|none=>false)=false
  rw[h];show(decide (xs.length<=60)&&xs.all aR)=false;rcases n with n|n
  ·rw[decide_eq_false (by omega),cN]
  ·rw[n,ee]
theorem vV{H:Hp}{y:V}(h:Known H y)(hr:∀a,y≠.ref a)(ha:bE H y=false):AB H y:=⟨⟨h,fun a _ e=>absurd e (hr a)⟩,ha⟩
theorem no_lst{H:Hp}{p:Addr}{xs:List V}(h:H p=some (.lst xs)):AB H (.ref p):=⟨⟨wc h,fun a ys e hy=>by injection e with e;subst e;rw[h]at hy;cases hy⟩,are_lst h⟩
theorem no_dic{H:Hp}{p:Addr}{xs:List (Key×V)}(h:H p=some (.dK xs)):AB H (.ref p):=⟨⟨kn_dK h,fun a ys e hy=>by injection e with e;subst e;rw[h]at hy;cases hy⟩,by
 show(match cj (H p)with |some xs=>decide (xs.length<=60)&&xs.all aR|none=>false)=false;rw[h];rfl⟩
theorem wp_nr{G:Gam}{K:ae}:Sat G K tf jv js:=by
 rintro vs H Q E ⟨n,rfl,q⟩;unfold jv;change wpB G K _ _ _ [some (.int n),none] H;walk_at "wp";refine⟨by decide,short (by show 1<=40;decide),fun p0 hp0=>.inr (.inl ⟨p0,61,_,rfl,rfl,aq,by decide,by decide,by show 1*61<=sizeLine;decide,fun p1 hp1=>?_⟩)⟩;have s0:=az (o:=.lst [V.int (n%2)]) hp0;generalize upd H p0 (.lst [V.int (n%2)])=H0 at s0 hp1;generalize hr:(bL (Int.toNat 61) [V.int (n%2)]).flatten=rs at *;have hrl:rs.length=61:=by rw[<-hr];rfl
 have hrk:∀{H:Hp},∀y∈rs,Known H y:=fun{H} y hy=>by
  rw[<-hr]at hy;obtain⟨l,hl,hy⟩:=List.mem_flatten.mp hy;rw[List.eq_of_mem_replicate hl]at hy;rw[aO.mp hy];exact gW
 have s1:=az (o:=.lst rs) hp1;have h1:upd H0 p1 (.lst rs) p1=_:=aq;generalize upd H0 p1 (.lst rs)=H1 at s1 h1;refine⟨p1,_,rfl,.inl ⟨SqL.of h1,fun p2 hp2=>?_⟩⟩;have s2:=az (o:=.tup rs) hp2;have h2:upd H1 p2 (.tup rs) p2=_:=aq;generalize upd H1 p2 (.tup rs)=H2 at s2 h2;have s02:=s0.trans (s1.trans s2);unfold iD;walk_at "wp";refine⟨short (by show 1<=40;decide),fun a1 q1=>⟨short (by show 1<=40;decide),fun a2 q2=>⟨short (by show 2<=40;decide),fun a3 q3=>⟨short (by show 1<=40;decide),fun a4 q4=>⟨short (by show 1<=40;decide),fun a5 q5=>.inl ⟨trivial,fun a6 q6=>⟨short (by show 1<=40;decide),fun a7 q7=>⟨short (by show 2<=40;decide),fun a8 q8=>⟨short (by show 11<=40;decide),fun a9 q9=>⟨by decide,?_⟩⟩⟩⟩⟩⟩⟩⟩⟩⟩;have t1:=az (o:=.lst [V.int 0]) q1;have f1:upd H2 a1 (.lst [V.int 0]) a1=_:=aq;generalize upd H2 a1 (.lst [V.int 0])=J1 at t1 f1 q2 q3 q4 q5 q6 q7 q8 q9;have t2:=az (o:=.tup [V.int 2]) q2;have f2:upd J1 a2 (.tup [V.int 2]) a2=_:=aq;generalize upd J1 a2 (.tup [V.int 2])=J2 at t2 f2 q3 q4 q5 q6 q7 q8 q9;have t3:=az (o:=.tup [V.int 0,V.bl true]) q3;have f3:upd J2 a3 (.tup [V.int 0,V.bl true]) a3=_:=aq;generalize upd J2 a3 (.tup [V.int 0,V.bl true])=J3 at t3 f3 q4 q5 q6 q7 q8 q9;have t4:=az (o:=.tup [V.bl false]) q4;have f4:upd J3 a4 (.tup [V.bl false]) a4=_:=aq;generalize upd J3 a4 (.tup [V.bl false])=J4 at t4 f4 q5 q6 q7 q8 q9;have t5:=az (o:=.tup [V.str (ao "0")]) q5;have f5:upd J4 a5 (.tup [V.str (ao "0")]) a5=_:=aq;generalize upd J4 a5 (.tup [V.str (ao "0")])=J5 at t5 f5 q6 q7 q8 q9;have t6:=az (o:=.dK []) q6;have f6:upd J5 a6 (.dK []) a6=_:=aq;generalize upd J5 a6 (.dK [])=J6 at t6 f6 q7 q8 q9;have t7:=az (o:=.tup [V.int 1]) q7;have f7:upd J6 a7 (.tup [V.int 1]) a7=_:=aq;generalize upd J6 a7 (.tup [V.int 1])=J7 at t7 f7 q8 q9;have t8:=az (o:=.tup [V.int 0,V.ref a7]) q8;have f8:upd J7 a8 (.tup [V.int 0,V.ref a7]) a8=_:=aq;generalize upd J7 a8 (.tup [V.int 0,V.ref a7])=J8 at t8 f8 q9;generalize hl:[V.non,V.ref a1,V.str (ao "0"),V.ref a2,V.ref a3,V.ref a4,V.ref a5,V.int 5,V.ref a6,V.ref p2,V.ref a8]=xs;have t9:=az (o:=.lst xs) q9;have f9:upd J8 a9 (.lst xs) a9=_:=aq;generalize upd J8 a9 (.lst xs)=J9 at t9 f9;have e1:=t9 _ _ (t8 _ _ (t7 _ _ (t6 _ _ (t5 _ _ (t4 _ _ (t3 _ _ (t2 _ _ (f1))))))));have e2:=t9 _ _ (t8 _ _ (t7 _ _ (t6 _ _ (t5 _ _ (t4 _ _ (t3 _ _ (f2)))))));have e3:=t9 _ _ (t8 _ _ (t7 _ _ (t6 _ _ (t5 _ _ (t4 _ _ (f3))))));have e4:=t9 _ _ (t8 _ _ (t7 _ _ (t6 _ _ (t5 _ _ (f4)))));have e5:=t9 _ _ (t8 _ _ (t7 _ _ (t6 _ _ (f5))));have e6:=t9 _ _ (t8 _ _ (t7 _ _ (f6)));have e7:=t9 _ _ (t8 _ _ (f7));have e8:=t9 _ _ (f8);have e0:=t9 _ _ (t8 _ _ (t7 _ _ (t6 _ _ (t5 _ _ (t4 _ _ (t3 _ _ (t2 _ _ (t1 _ _ (h2)))))))));have all:∀x∈xs,AB J9 x:=by
  intro x hx;rw[<-hl]at hx;simp only[aA,bP,or_false]at hx;rcases hx with rfl|rfl|rfl|rfl|rfl|rfl|rfl|rfl|rfl|rfl|rfl
  ·exact vV FQ (fun a e=>nomatch e) rfl
  ·exact no_lst e1
  ·exact vV kA (fun a e=>nomatch e) rfl
  ·exact pv e2 (by decide) (fun y hy=>by rw[aO.mp hy];exact gW) (.inr rfl)
  ·refine pv e3 (by show 2<=20000;decide) (fun y hy=>?_) (.inr rfl)
   simp only[aA,bP,or_false]at hy;rcases hy with rfl|rfl
   ·exact gW
   ·exact FR
  ·exact pv e4 (by decide) (fun y hy=>by rw[aO.mp hy];exact FR) (.inr rfl)
  ·exact pv e5 (by show 1<=20000;decide) (fun y hy=>by rw[aO.mp hy];exact kA) (.inr rfl)
  ·exact vV gW (fun a e=>nomatch e) rfl
  ·exact no_dic e6
  ·exact pv e0 (by omega) hrk (.inl (by omega))
  ·refine pv e8 (by show 2<=20000;decide) (fun y hy=>?_) (.inr rfl)
   simp only[aA,bP,or_false]at hy;rcases hy with rfl|rfl
   ·exact gW
   ·exact jG e7
 have hlen:xs.length=11:=by rw[<-hl];rfl
 have h0:0<=n%11:=w8 _ (by decide);have hlt:n%11<11:=Int.emod_lt_of_pos _ (by decide);obtain⟨k,hk⟩:=BN h0;have hkl:k<xs.length:=by omega
 refine .inl ⟨a9,_,n%11,xs[k],rfl,rfl,SqL.of f9,by rw[hk];exact d0 (ah hkl),?_⟩;exact q J9 _ (s02.trans (t1.trans (t2.trans (t3.trans (t4.trans (t5.trans (t6.trans (t7.trans (t8.trans t9))))))))) (all _ (bQ _))
structure Xt(G:Gam)(K:ae)(CE D CN CR C CT:Addr)(b1 b2 b3 b4:Bool):Prop where
 m:PySem.W.exmOne K (.ref D) (.ref CE)=some true
 o:lO K D=true
 kv:cA K (.ref D) (.type "ValueError")=some true
 k1:cA K (.ref D) (.ref CN)=some b1
 k2:cA K (.ref D) (.ref CR)=some b2
 k3:cA K (.ref D) (.ref C)=some b3
 k4:cA K (.ref D) (.ref CT)=some b4
theorem isx0{K:ae}{H:Hp}{a C D:Addr}{b:Bool}{Q:VK}(ha:H a=some (excO a (.ref C)))(o:lO K C=true)(k:cA K (.ref C) (.ref D)=some b)(q:Q (.bl b) H):rBf K .isx [.ref a,.ref D] H Q:=
 ⟨a,C,none,.ref D,.ref D,b,rfl,ha,(fun dd e=>nomatch e),o,.inr ⟨D,rfl,rfl⟩,k,q⟩
theorem isx0V{K:ae}{H:Hp}{a C:Addr}{T:String}{b:Bool}{Q:VK}(ha:H a=some (excO a (.ref C)))(o:lO K C=true)(k:cA K (.ref C) (.type T)=some b)(q:Q (.bl b) H):rBf K .isx [.ref a,.ty T] H Q:=
 ⟨a,C,none,.ty T,.type T,b,rfl,ha,(fun dd e=>nomatch e),o,.inl ⟨T,rfl,rfl⟩,k,q⟩
theorem iq{m:Str}(v:V)(h:(m==(ao "copies":Str))=false):cg m [((ao "copies":Str),v)]=none:=by rw[aT,h];rfl
noncomputable def nR(CS CN CR CT C:Addr)(T:Tb)(Rf:Addr->Bool->Bool->Bool->Bool->Prop):Sp:=fun vs H Q _=>∃s dx t ys L w x y D b1 b2 b3 b4,vs=[.ref s,.int w,x,y]/\Shf H s CS dx t ys L/\Rf D b1 b2 b3 b4/\
 (w=0/\(∀Q E,(∀H',aS H H'->E (.ref D) none H')->gU CS CN CR CT C T [.ref s,x,y] H Q E)\/w=1/\∀Q E,(∀H',aS H H'->E (.ref D) none H')->jY CS C CN [.ref s,x] H Q E)/\
 ∀H' l,aS H H'->H' l=some (.lst [.bl b1,.bl b2,.bl b3,.bl b4])->Q (.ref l) H'
theorem wp_tt{G:Gam}{K:ae}{CE CS CN CR CT C:Addr}{T:Tb}{Rf:Addr->Bool->Bool->Bool->Bool->Prop}(v0:G.val "KinError"=some (.ref CE))(v1:G.val "NoName"=some (.ref CN))(v2:G.val "NoReading"=some (.ref CR))(v3:G.val "NoTable"=some (.ref C))(v4:G.val "Twice"=some (.ref CT))
  (X:∀D b1 b2 b3 b4,Rf D b1 b2 b3 b4->Xt G K CE D CN CR C CT b1 b2 b3 b4)(g1:G.mth "put" 2=some (CS,gU CS CN CR CT C T,[]))(g2:G.mth "off" 1=some (CS,jY CS C CN,[])):
  Sat G K (nR CS CN CR CT C T Rf) oF og:=by
 rintro vs H Q E ⟨s,dx,t,ys,L,w,x,y,D,b1,b2,b3,b4,rfl,sf,rf,hw,q⟩;have X:=X _ _ _ _ _ rf;have fin:∀{a:Addr}{H1:Hp}{D':Ends},D'.rt=Q->aS H H1->H1 a=some (excO a (.ref D))->wpB G K (fun _=>E) ja D' [some (.ref s),some (.int w),some x,some y,some (.ref a),none,none] H1:=by
  intro a H1 D' hr s1 ha;unfold ja;walk_at "wp";refine isx0V ha X.o X.kv ⟨_,rfl,?_⟩;rw[if_neg (by simp)];unfold lW;walk_at "wp";refine⟨_,v1,isx0 ha X.o X.k1 ⟨_,v2,isx0 ha X.o X.k2 ⟨_,v3,isx0 ha X.o X.k3 ⟨short (by show 3<=40;decide),fun p hp=>?_⟩⟩⟩⟩;have s2:=az (o:=.lst [V.bl b1,V.bl b2,V.bl b3]) hp;have h2:upd H1 p (.lst [V.bl b1,V.bl b2,V.bl b3]) p=_:=aq;generalize upd H1 p (.lst [V.bl b1,V.bl b2,V.bl b3])=H2 at s2 h2;unfold lV;walk_at "wp";refine⟨_,v4,isx0 (s2 _ _ ha) X.o X.k4 ⟨short (by show 1<=40;decide),fun p3 hp3=>?_⟩⟩;have s3:=az (o:=.lst [V.bl b4]) hp3;have h3:upd H2 p3 (.lst [V.bl b4]) p3=_:=aq;generalize upd H2 p3 (.lst [V.bl b4])=H3 at s3 h3;refine .inr (.inr (.inl ⟨p,p3,_,_,rfl,rfl,s3 _ _ h2,h3,short (by show 4<=40;decide),fun p4 hp4=>?_⟩));rw[hr];exact q _ p4 (s1.trans (s2.trans (s3.trans (az hp4)))) aq
 unfold oF lX;change wpB G K _ _ _ [some (.ref s),some (.int w),some x,some y,none,none,none] H;walk_at "wp";refine⟨CE,v0,?_⟩;rcases hw with⟨rfl,hw⟩ |⟨rfl,hw⟩
 ·rw[if_pos (by decide)]
  refine⟨_,_,_,g1,?_⟩;simp only[gK,kL,iF,iB,iG,bj,bR,bx,exists_eq_left',cX,eT,fo];refine⟨s,dx,_,rfl,sf.so,iq _ (by decide+kernel),?_⟩;refine hw _ _ fun H1 s1=>⟨rfl,X.m,fun a ha=>?_⟩;walk_at "wp";exact fin rfl (s1.trans (az ha)) aq
 ·rw[if_neg (by decide)]
  refine⟨_,_,_,g2,?_⟩;simp only[gK,kL,iF,iB,iG,bj,bR,bx,exists_eq_left',cX,eT,fo];refine⟨s,dx,_,rfl,sf.so,iq _ (by decide+kernel),?_⟩;refine hw _ _ fun H1 s1=>⟨rfl,X.m,fun a ha=>?_⟩;walk_at "wp";exact fin rfl (s1.trans (az ha)) aq
end K82
namespace K13
open PySem PySem.Spec PyProof.Rows L2 R Cp Lt Lm K02 K11 K12 K91
theorem sl{n:Nat}(h:n<=20000):n<=sizeLine:=aF h wb
section
variable {c:Int}{n i:Nat}{rs bs:List Str}{L:List (Str×List V)}{f:Int}{l:Str×List V}{z:Str}
theorem Fo(h:40<=L.length):¬Good (L++[l]):=fun g=>by
 have :=g.len
 rw[cm]at this;simp at this;omega
end
end K13
namespace K82
open PySem R
noncomputable def p_law:List Str:=["_law_script"]
noncomputable def Fw:List Str:=["_law_script","_law_shelf","_law_k","_law_number","_law_readings","_law_name"]
noncomputable def sv:CB:=
  (.cons (.ret (.and (.cmp .Eq (.mth (.var 1) "table" .nil) (.lst (.cons (.tup (.cons (.con (.str "kab")) (.cons (.tup (.cons (.con (.int 1)) (.cons (.con (.int 0)) (.cons (.con (.int 1)) .nil)))) .nil))) .nil))) (.cmp .Eq (.mth (.var 1) "tree" .nil) (.tup (.cons (.lst (.cons (.tup (.cons (.con (.int 1)) (.cons (.con (.int 0)) (.cons (.con (.int 1)) .nil)))) .nil)) (.cons (.lst .nil) .nil))))))
  .nil)
noncomputable def wA:CB:=
  (.cons (.expr (.mth (.var 1) "put" (.cons (.con (.str "kab")) (.cons (.tup (.cons (.con (.int 1)) (.cons (.con (.int 0)) (.cons (.con (.int 1)) .nil)))) .nil))))
  sv)
noncomputable def wB:CB:=
  (.cons (.forr (.tup (.cons (.name 5) (.cons (.name 4) .nil))) (.seq (.mth (.var 1) "table" .nil))
  (.cons (.expr (.mth (.var 1) "off" (.cons (.var 5) .nil)))
  .nil))
  wA)
noncomputable def wC:CB:=
  (.cons (.iff (.cmp .NotEq (.call "_law_truths" (.cons (.var 1) (.cons (.con (.int 0)) (.cons (.con (.str "kab")) (.cons (.tup (.cons (.con (.int 1)) .nil)) .nil))))) (.lst (.cons (.con (.bool false)) (.cons (.con (.bool false)) (.cons (.con (.bool false)) (.cons (.con (.bool true)) .nil))))))
  (.cons (.ret (.con (.bool false)))
  .nil)
  .nil)
  wB)
noncomputable def wD:CB:=
  (.cons (.iff (.or (.cmp .NotEq (.call "_law_truths" (.cons (.var 1) (.cons (.con (.int 0)) (.cons (.con (.str "one")) (.cons (.tup (.cons (.con (.int 1)) (.cons (.con (.int 1)) .nil))) .nil))))) (.lst (.cons (.con (.bool false)) (.cons (.con (.bool false)) (.cons (.con (.bool true)) (.cons (.con (.bool false)) .nil)))))) (.cmp .NotEq (.bfn .len (.cons (.mth (.var 1) "table" .nil) .nil)) (.con (.int 40))))
  (.cons (.ret (.con (.bool false)))
  .nil)
  .nil)
  wC)
noncomputable def wF:CB:=
  (.cons (.forr (.name 2) (.range1 (.con (.int 38)))
  (.cons (.expr (.mth (.var 1) "put" (.cons (.bin .Add (.bin .Add (.con (.str "l")) (.idx (.con (.str "abcdefghijklmnopqrstuvwxyz")) (.bin .Mod (.var 2) (.con (.int 26))))) (.idx (.con (.str "mn")) (.bin .FloorDiv (.var 2) (.con (.int 26))))) (.cons (.idx (.lst (.cons (.tup (.cons (.con (.int 0)) (.cons (.con (.int 0)) .nil))) (.cons (.tup (.cons (.con (.int 0)) (.cons (.con (.int 1)) .nil))) (.cons (.tup (.cons (.con (.int 1)) (.cons (.con (.int 0)) .nil))) .nil)))) (.bin .Mod (.var 2) (.con (.int 3)))) .nil))))
  .nil))
  wD)
noncomputable def pH:CB:=
  (.cons (.iff (.cmp .NotEq (.mth (.var 1) "table" .nil) (.lst (.cons (.tup (.cons (.con (.str "kab")) (.cons (.tup (.cons (.con (.int 0)) (.cons (.con (.int 0)) .nil))) .nil))) (.cons (.tup (.cons (.con (.str "kac")) (.cons (.tup (.cons (.con (.int 0)) (.cons (.con (.int 1)) .nil))) .nil))) .nil))))
  (.cons (.ret (.con (.bool false)))
  .nil)
  .nil)
  .nil)
noncomputable def pI:CB:=
  (.cons (.iff (.cmp .NotEq (.call "_law_truths" (.cons (.var 1) (.cons (.con (.int 1)) (.cons (.call "_law_no_name" (.cons (.var 3) .nil)) (.cons (.con .none) .nil))))) (.lst (.cons (.con (.bool true)) (.cons (.con (.bool false)) (.cons (.con (.bool false)) (.cons (.con (.bool false)) .nil))))))
  (.cons (.ret (.con (.bool false)))
  .nil)
  .nil)
  pH)
noncomputable def mo:CB:=
  (.cons (.iff (.cmp .NotEq (.call "_law_truths" (.cons (.var 1) (.cons (.con (.int 0)) (.cons (.var 5) (.cons (.call "_law_no_readings" (.cons (.bin .FloorDiv (.var 3) (.con (.int 11))) .nil)) .nil))))) (.lst (.cons (.con (.bool false)) (.cons (.con (.bool true)) (.cons (.con (.bool false)) (.cons (.con (.bool false)) .nil))))))
  (.cons (.ret (.con (.bool false)))
  .nil)
  .nil)
  pI)
noncomputable def pJ:CB:=
  (.cons (.asg (.name 5) (.idx (.lst (.cons (.con (.str "kad")) (.cons (.con (.str "kab")) .nil))) (.bin .Mod (.bin .FloorDiv (.var 3) (.con (.int 400))) (.con (.int 2)))))
  mo)
noncomputable def mq:CB:=
  (.cons (.iff (.cmp .NotEq (.call "_law_truths" (.cons (.var 1) (.cons (.con (.int 0)) (.cons (.call "_law_no_name" (.cons (.var 3) .nil)) (.cons (.var 4) .nil))))) (.lst (.cons (.con (.bool true)) (.cons (.con (.bool false)) (.cons (.con (.bool false)) (.cons (.con (.bool false)) .nil))))))
  (.cons (.ret (.con (.bool false)))
  .nil)
  .nil)
  pJ)
noncomputable def pK:CB:=
  (.cons (.asg (.name 4) (.idx (.lst (.cons (.tup (.cons (.con (.int 1)) (.cons (.con (.int 0)) .nil))) (.cons (.call "_law_no_readings" (.cons (.bin .FloorDiv (.var 3) (.con (.int 11))) .nil)) .nil))) (.bin .Mod (.bin .FloorDiv (.var 3) (.con (.int 200))) (.con (.int 2)))))
  mq)
noncomputable def wG:CB:=
  (.cons (.forr (.name 2) (.range1 (.bfn .min (.cons (.bfn .len (.cons (.var 0) .nil)) (.cons (.con (.int 30)) .nil))))
  (.cons (.asg (.name 3) (.call "_law_drawn" (.cons (.var 0) (.cons (.var 2) .nil))))
  pK))
  wF)
noncomputable def wH:CB:=
  (.cons (.expr (.mth (.var 1) "put" (.cons (.con (.str "kac")) (.cons (.tup (.cons (.con (.int 0)) (.cons (.con (.int 1)) .nil))) .nil))))
  wG)
noncomputable def wI:CB:=
  (.cons (.expr (.mth (.var 1) "put" (.cons (.con (.str "kab")) (.cons (.tup (.cons (.con (.int 0)) (.cons (.con (.int 0)) .nil))) .nil))))
  wH)
noncomputable def GN:CB:=
  (.cons (.asg (.name 1) (.mak "Shelf"))
  wI)
end K82
namespace K82
open PySem PySem.Spec PyProof.Rows L2 R Cp Lt Lm K02 K11 K12
structure GrX(T:Tb)(s:Addr)(H H':Hp):Prop where
 keep:∀b o,b≠T.P->b≠s->H b=some o->H' b=some o
 tab:Tab T H->Tab T H'
theorem GrX.refl(T:Tb)(s:Addr)(H:Hp):GrX T s H H:=⟨fun _ _ _ _ e=>e,fun t=>t⟩
theorem GrX.trans{T:Tb}{s:Addr}{H H1 H2:Hp}(a:GrX T s H H1)(b:GrX T s H1 H2):GrX T s H H2:=⟨fun c o n m e=>b.keep c o n m (a.keep c o n m e),fun t=>b.tab (a.tab t)⟩
theorem GrX.of{T:Tb}{s:Addr}{H H':Hp}(g:Gr T H H'):GrX T s H H':=⟨fun b o n _ e=>g.keep b o n e,g.tab⟩
theorem GrX.put{T:Tb}{s C dx:Addr}{fs fs':List (Str×V)}{H:Hp}(hs:H s=some (.ins C dx fs)):GrX T s H (upd H s (.ins C dx fs')):=by
 refine⟨fun b o _ m e=>by rw[aN m];exact e,fun t=>?_⟩;have n1:T.P≠s:=fun z=>by
  rcases t with t|⟨c',oc,u,vs,tk,h1,_⟩
  ·rw[z,hs]at t;cases t
  ·rw[z,hs]at h1;cases h1
 rcases t with t|⟨c',oc,u,vs,tk,h1,h2,h3,h4⟩
 ·exact .inl (by rw[aN n1];exact t)
 ·exact .inr ⟨c',oc,u,vs,tk,by rw[aN n1];exact h1,by rw[aN (fun z=>by rw[z,hs]at h2;cases h2)];exact h2,h3,h4⟩
theorem GrX.seq{K:ae}{T:Tb}{s a C dx:Addr}{fs:List (Str×V)}{xs:List V}{H H':Hp}(g:GrX T s H H')(t:Tab T H)(hs:H s=some (.ins C dx fs))(h:SqL K H a xs):SqL K H' a xs:=by
 rcases h with(h|⟨o,h⟩) |h
 ·exact .inl (.inl (g.keep _ _ (t.ne h fun _ z=>by cases z) (fun z=>by rw[z,hs]at h;cases h) h))
 ·exact .inl (.inr ⟨o,g.keep _ _ (t.ne h fun _ z=>by cases z) (fun z=>by rw[z,hs]at h;cases h) h⟩)
 ·exact .inr h
noncomputable abbrev jF:Row:=(ao "kab",[.int 1,.int 0,.int 1])
section
variable {G:Gam}{K:ae}{E:XS}{D:Ends}{Q:VK}{H:Hp}{CS dx s t a:Addr}{T:Tb}{ys:List V}{x2 x3 x4 x5:Option V}
theorem lw_10(g1:G.mth "table" 0=some (CS,kY CS T,[]))(g2:G.mth "tree" 0=some (CS,kM CS T,[]))(sf:Shf H s CS dx t ys [jF])(tb:Tab T H)(hr:D.rt=Q)(q:∀H',Q (.bl true) H'):
  wpB G K E sv D [some (.ref a),some (.ref s),x2,x3,x4,x5] H:=by
 unfold sv;walk_at "wp";refine⟨_,_,_,g1,?_⟩;simp only[gK,kL,iF,iG,bj,bR,bx,exists_eq_left',cX];refine⟨s,dx,_,rfl,sf.so,iq _ (by decide+kernel),s,dx,t,ys,_,rfl,sf,tb,fun H1 l zs g1 tl1=>?_⟩;have so1:H1 s=_:=g1.at tb sf.so fun _ z=>by cases z
 have sf1:Shf H1 s CS dx t ys [jF]:=⟨so1,sf.tl.gr g1 tb⟩;have e1:sL [jF]=[jF]:=Hb.mp (jr sf.tl.gd.nd);rw[e1]at tl1;refine⟨short (by show 3<=40;decide),fun p1 q1=>⟨short (by show 2<=40;decide),fun p2 q2=>⟨short (by show 1<=40;decide),fun p3 q3=>?_⟩⟩⟩;have t1:=az (o:=.tup [V.int 1,V.int 0,V.int 1]) q1;have f1:upd H1 p1 (.tup [V.int 1,V.int 0,V.int 1]) p1=_:=aq;generalize upd H1 p1 (.tup [V.int 1,V.int 0,V.int 1])=J1 at t1 f1 q2 q3;have t2:=az (o:=.tup [V.str (ao "kab"),V.ref p1]) q2;have f2:upd J1 p2 (.tup [V.str (ao "kab"),V.ref p1]) p2=_:=aq;generalize upd J1 p2 (.tup [V.str (ao "kab"),V.ref p1])=J2 at t2 f2 q3;have t3:=az (o:=.lst [V.ref p2]) q3;have f3:upd J2 p3 (.lst [V.ref p2]) p3=_:=aq;generalize upd J2 p3 (.lst [V.ref p2])=J3 at t3 f3;have t13:=t1.trans (t2.trans t3);have sh3:Sh J3 [V.ref p2] [jF]:=.cons ⟨p2,p1,rfl,t3 _ _ f2,t3 _ _ (t2 _ _ f1),sf.tl.gd.rd jF (by simp)⟩ .nil;refine⟨.lst ([jF].map toD),.lst ([jF].map toD),⟨l,_,rfl,SqL.of (t13 _ _ tl1.et),nU (tl1.sh.same t13)⟩,⟨p3,_,rfl,SqL.of f3,nU sh3⟩,?_,_,rfl,?_⟩
 ·show i6 ([jF].map toD)+1<=30
  have :=wg sh3
  omega
 ·rw[lR,if_pos rfl]
  have tb3:=(Gr.of t13).tab (g1.tab tb);refine⟨_,_,_,g2,s,dx,_,rfl,t13 _ _ so1,iq _ (by decide+kernel),s,dx,t,ys,_,_,rfl,sf1.same t13,tb3,fun H4 p nl bl r g4 hp hn hr4 hb=>?_⟩;refine⟨short (by show 3<=40;decide),fun a1 u1=>⟨short (by show 1<=40;decide),fun a2 u2=>⟨bp _,fun a3 u3=>⟨short (by show 2<=40;decide),fun a4 u4=>?_⟩⟩⟩⟩;have w1:=az (o:=.tup [V.int 1,V.int 0,V.int 1]) u1;have z1:upd H4 a1 (.tup [V.int 1,V.int 0,V.int 1]) a1=_:=aq;generalize upd H4 a1 (.tup [V.int 1,V.int 0,V.int 1])=M1 at w1 z1 u2 u3 u4;have w2:=az (o:=.lst [V.ref a1]) u2;have z2:upd M1 a2 (.lst [V.ref a1]) a2=_:=aq;generalize upd M1 a2 (.lst [V.ref a1])=M2 at w2 z2 u3 u4;have w3:=az (o:=.lst []) u3;have z3:upd M2 a3 (.lst []) a3=some (.lst []):=aq;generalize upd M2 a3 (.lst [])=M3 at w3 z3 u4;have w4:=az (o:=.tup [V.ref a2,V.ref a3]) u4;have z4:upd M3 a4 (.tup [V.ref a2,V.ref a3]) a4=_:=aq;generalize upd M3 a4 (.tup [V.ref a2,V.ref a3])=M4 at w4 z4;have w14:=w1.trans (w2.trans (w3.trans w4));have rd:∀{x:Addr},M4 x=some (.tup [V.int 1,V.int 0,V.int 1])->Rep K M4 (.tup ([V.int 1,V.int 0,V.int 1].map rdD)) (.ref x):=fun hx=>⟨_,_,rfl,SqT.of hx,rq (sf.tl.gd.rd jF (by simp))⟩;refine⟨.tup [.lst [.tup ([V.int 1,V.int 0,V.int 1].map rdD)],.lst []],.tup [.lst [.tup ([V.int 1,V.int 0,V.int 1].map rdD)],.lst []],⟨p,_,rfl,SqT.of (w14 _ _ hp),_,_,rfl,⟨nl,_,rfl,SqL.of (w14 _ _ hn),_,_,rfl,rd (w14 _ _ hr4),rfl⟩,_,_,rfl,⟨bl,_,rfl,SqL.of (w14 _ _ hb),rfl⟩,rfl⟩,
   ⟨a4,_,rfl,SqT.of z4,_,_,rfl,⟨a2,_,rfl,SqL.of (w4 _ _ (w3 _ _ z2)),_,_,rfl,rd (w4 _ _ (w3 _ _ (w2 _ _ z1))),rfl⟩,_,_,rfl,⟨a3,_,rfl,SqL.of (w4 _ _ z3),rfl⟩,rfl⟩,by decide,?_⟩
  rw[lR,hr];exact q M4
theorem vF{CN CR CT C:Addr}{L:List Row}{z:Str}{r:Addr}{rs:List V}{Q:VK}{E:XK}(sf:Shf H s CS dx t ys L)(tb:Tab T H)(hr:H r=some (.tup rs))(fz:K13.sM (z,rs))(g:Good (L++[(z,rs)]))(nc:K22.NoC (L++[(z,rs)]) rs.length)
  (q:∀H' t' ys',GrX T s H H'->Tab T H'->Shf H' s CS dx t' ys' (L++[(z,rs)])->Q .non H'):gU CS CN CR CT C T [.ref s,.str z,.ref r] H Q E:=by
 have ar:bE H (.ref r)=true:=by
  show(match cj (H r)with |some xs=>decide (xs.length<=60)&&xs.all aR|none=>false)=true;rw[hr];show(decide (rs.length<=60)&&rs.all aR)=true;rw[decide_eq_true fz.len,cP,bc];exact fz.rd
 refine⟨s,dx,t,ys,L,.str z,.ref r,rfl,sf,tb,kA,(fun z' e=>by injection e with e;rw[<-e];exact aF (K91.n9 fz.nm) (by decide)),⟨jG hr,fun a xs e hx=>?_⟩,(fun e=>absurd (show isName (.str z)=true from fz.nm) (by rw[e];decide)),(fun _ e=>by rw[ar]at e;cases e),fun z' r' rs' e1 e2 e3 _=>?_⟩
 ·injection e with e
  subst e;rw[hr]at hx;cases hx;exact⟨aF fz.len (by decide),fun y hy=>by rcases dw (fz.rd y hy)with rfl|rfl<;>exact gW⟩
 ·injection e1 with e1
  injection e2 with e2;subst e1 e2;rw[hr]at e3;cases e3;refine⟨fun h=>absurd h (yq g),fun _ h=>absurd g h,fun _=>⟨nc,fun H1 t' ys' g1 tl1 so=>?_⟩⟩;have gx:=(GrX.of (s:=s) g1).trans (GrX.put (T:=T) (fs':=[("copies",.ref t')]) so);exact q _ t' ys' gx (gx.tab tb) ⟨aq,tl1.put so (fun _ z=>by cases z) (fun _ z=>by cases z)⟩
theorem A8(z:Str)(rs:List V)(n:Nat):K22.NoC [(z,rs)] n:=fun i j _ _=>by
 cases e:K22.i8 [(z,rs)] (i:Int) (j:Int)with
 |false=>rfl
 |true=>
  unfold K22.i8 at e;simp[Kc.KP,K22.isK]at e;omega
theorem yp{z:Str}{rs:List V}(f:K13.sM (z,rs)):Good [(z,rs)]:=
 ⟨(by show 1<=40;decide),(fun l h=>by rw[aO.mp h];exact f.nm),(fun l h=>by rw[aO.mp h];exact f.rd),by simp,rs.length,f.len,fun l h=>by rw[aO.mp h]⟩
theorem lN{z:Str}{rs:List V}(h:(cY z&&decide (rs.length<=60)&&rs.all aR)=true):K13.sM (z,rs):=by
 rw[ag,ag,decide_eq_true_eq,bc]at h;exact⟨h.1.1,h.1.2,h.2⟩
theorem lw_9{CN CR CT C:Addr}(g0:G.mth "put" 2=some (CS,gU CS CN CR CT C T,[]))(g1:G.mth "table" 0=some (CS,kY CS T,[]))(g2:G.mth "tree" 0=some (CS,kM CS T,[]))(sf:Shf H s CS dx t ys [])(tb:Tab T H)(hr:D.rt=Q)(q:∀H',Q (.bl true) H'):
  wpB G K E wA D [some (.ref a),some (.ref s),x2,x3,x4,x5] H:=by
 unfold wA;walk_at "wp";refine⟨_,_,_,g0,?_⟩;simp only[gK,kL,iF,tC,iB,iG,tTup,bj,bR,bx,exists_eq_left',cX,eT,fo];refine⟨s,dx,_,rfl,sf.so,iq _ (by decide+kernel),short (by show 3<=40;decide),fun p hp=>?_⟩;have t1:=az (o:=.tup [V.int 1,V.int 0,V.int 1]) hp;have f1:upd H p (.tup [V.int 1,V.int 0,V.int 1]) p=_:=aq;generalize upd H p (.tup [V.int 1,V.int 0,V.int 1])=H1 at t1 f1;have fz:K13.sM (ao "kab",[V.int 1,V.int 0,V.int 1]):=lN (by decide+kernel);exact vF (sf.same t1) ((Gr.of t1).tab tb) f1 fz (yp fz) (A8 _ _ _) fun H2 t' ys' gx tb2 sf2=>lw_10 g1 g2 sf2 tb2 hr q
noncomputable def lft(L:List Row)(i:Nat):List Row:=L.filter fun l=>decide (l.1∉((sL L).take i).map (·.1))
theorem lft_0(L:List Row):lft L 0=L:=by unfold lft;simp
theorem lft_end{L:List Row}(nd:(L.map (·.1)).Nodup):lft L (sL L).length=[]:=by
 unfold lft;rw[eS];refine List.filter_eq_nil_iff.mpr fun l hl=>?_;rw[decide_eq_true_eq,Classical.not_not];exact aV.mpr ⟨l,(jr nd).mem_iff.mpr hl,rfl⟩
theorem FL{L:List Row}{i:Nat}{l:Row}(h:(sL L)[i]? =some l):(lft L i).filter (fun r=>decide (r.1≠l.1))=lft L (i+1):=by
 unfold lft;rw[List.filter_filter];refine List.filter_congr fun r _=>?_;rw[dQ,h];simp[and_comm]
theorem lft_in{L:List Row}(nd:(L.map (·.1)).Nodup){i:Nat}{l:Row}(h:(sL L)[i]? =some l):l.1∈(lft L i).map (·.1):=by
 have hlt:=(aY.mp h).1;refine aV.mpr ⟨l,dm.mpr ⟨(jr nd).mem_iff.mp (bf h),?_⟩,rfl⟩;rw[decide_eq_true_eq];intro hm;obtain⟨r,hr,e⟩:=aV.mp hm;obtain⟨j,hj,rfl⟩:=He hr;rw[dD]at hj;rw[List.getElem_take]at e;have nd2:((sL L).map (·.1)).Nodup:=((jr nd).map _).nodup_iff.mpr nd;have e1:((sL L).map (·.1))[j]'(by rw[av];omega)=((sL L).map (·.1))[i]'(by rw[av];omega):=by
  rw[cQ,cQ,e];rw[ah hlt]at h;cases h;rfl
 have :=(d7 nd2).mp e1
 omega
theorem lw_8{CN CR CT C:Addr}{L:List Row}(g0:G.mth "put" 2=some (CS,gU CS CN CR CT C T,[]))(g1:G.mth "table" 0=some (CS,kY CS T,[]))(g2:G.mth "tree" 0=some (CS,kM CS T,[]))(g3:G.mth "off" 1=some (CS,jY CS C CN,[]))(sf:Shf H s CS dx t ys L)(tb:Tab T H)(hr:D.rt=Q)(q:∀H',Q (.bl true) H'):
  wpB G K E wB D [some (.ref a),some (.ref s),x2,x3,x4,x5] H:=by
 unfold wB;walk_at "wp";refine lM ⟨_,_,_,g1,?_⟩;simp only[gK,kL,iF,iG,bj,bR,bx,exists_eq_left',cX];refine⟨s,dx,_,rfl,sf.so,iq _ (by decide+kernel),s,dx,t,ys,L,rfl,sf,tb,fun H1 l zs gr tl1=>.inl ⟨l,rfl,⟨_,SqL.of tl1.et⟩,?_⟩⟩;have so1:H1 s=_:=gr.at tb sf.so fun _ z=>by cases z
 have tb1:=gr.tab tb;have ls:l≠s:=fun z=>by have :=tl1.et;rw[z,so1]at this;cases this
 have hzl:zs.length=(sL L).length:=jC tl1.sh;have hE:∀{H':Hp},GrX T s H1 H'->H' l=some (.lst zs):=fun g=>g.keep _ _ (tb1.ne tl1.et fun _ z=>by cases z) ls tl1.et;refine Kc.kB fv (fun i σ H'=>GrX T s H1 H'/\∃t' ys' y4 y5,Shf H' s CS dx t' ys' (lft L i)/\σ=[some (.ref a),some (.ref s),x2,x3,y4,y5]) ⟨GrX.refl _ _ _,t,ys,x4,x5,by rw[lft_0];exact⟨so1,sf.tl.gr gr tb⟩,rfl⟩ (fun i σ H' _ p=>SqL.of (hE p.1)) ?_ ?_
 ·rintro i x σ H2 H3 D2 hi ⟨gx,t',ys',y4,y5,sf2,rfl⟩ hx s3 hD _
  obtain⟨r,er,b,rb,rfl,hb,_,_⟩:=sH tl1.sh hx;have hb2:H2 b=_:=gx.keep _ _ (tb1.ne hb fun _ z=>by cases z) (fun z=>by rw[z,so1]at hb;cases hb) hb;refine⟨b,_,rfl,SqT.of (s3 _ _ hb2),rfl,_,_,rfl,_,_,rfl,rfl,?_⟩;refine⟨_,_,_,g3,?_⟩;simp only[gK,kL,iF,iB,iG,bj,bR,List.set_cons_zero,List.set_cons_succ,bx,exists_eq_left',cX,eT,fo];have sf3:=sf2.same s3;refine⟨s,dx,_,rfl,sf3.so,iq _ (by decide+kernel),s,dx,t',ys',_,.str r.1,rfl,sf3,kA,?_,?_,?_⟩
  ·intro z e
   injection e with e;rw[<-e];exact aF (K91.n9 (tl1.gd.nm r (bf er))) (by decide)
  ·intro h
   exact absurd (lft_in sf.tl.gd.nd er) (h r.1 rfl)
  ·intro z e hz H4 t4 ys4 s4 tl4
   injection e with e;subst e;rw[FL er]at tl4;have so4:=s4 _ _ sf3.so;refine hD _ _ ⟨(gx.trans (GrX.of (Gr.of (s3.trans s4)))).trans (GrX.put so4),t4,ys4,_,_,⟨aq,tl4.put so4 (fun _ z=>by cases z) (fun _ z=>by cases z)⟩,rfl⟩
 ·rintro σ H2 ⟨gx,t',ys',y4,y5,sf2,rfl⟩
  rw[hzl,lft_end sf.tl.gd.nd]at sf2;exact lw_9 g0 g1 g2 sf2 (gx.tab tb1) hr q
noncomputable def Three(L:List Row):Prop:=∀l∈L,l.2=[.int 0,.int 0]\/l.2=[.int 0,.int 1]\/l.2=[.int 1,.int 0]
theorem ui{L:List Row}(h:Three L):K22.NoC L 2:=fun i j hij hj=>by
 obtain rfl:i=0:=by omega
 obtain rfl:j=1:=by omega
 cases e:K22.i8 L ((0:Nat):Int) ((1:Nat):Int)with
 |false=>rfl
 |true=>
  unfold K22.i8 at e;have e:=bc.mp e (1,1) (by simp[Kc.KP]);obtain⟨l,hl,hk⟩:=bS.mp e;obtain⟨z,rs⟩:=l;rcases h _ hl with h|h|h<;>(subst h;revert hk;unfold K22.isK;simp[K22.numD])
variable {CE CN CR CT C:Addr}{L:List Row}
theorem put_nm{x y:V}{Q:VK}{E:XK}(sf:Shf H s CS dx t ys L)(tb:Tab T H)(hx:GU H x)(hy:KnR H y)(q:∀H',aS H H'->E (.ref CN) none H'):gU CS CN CR CT C T [.ref s,x,y] H Q E:=by
 refine⟨s,dx,t,ys,L,x,y,rfl,sf,tb,hx.1,(fun z e=>aF (hx.2.2 z e) (by decide)),hy,(fun _=>q),(fun e=>by rw[hx.2.1]at e;cases e),fun z r rs e _ _ f=>?_⟩;subst e;have :=hx.2.1;rw[show isName (.str z)=cY z from rfl,f.nm]at this;cases this
theorem put_rd{z:Str}{y:V}{Q:VK}{E:XK}(sf:Shf H s CS dx t ys L)(tb:Tab T H)(hz:cY z=true)(hy:AB H y)(q:∀H',aS H H'->E (.ref CR) none H'):gU CS CN CR CT C T [.ref s,.str z,y] H Q E:=by
 refine⟨s,dx,t,ys,L,.str z,y,rfl,sf,tb,kA,(fun z' e=>by injection e with e;rw[<-e];exact aF (K91.n9 hz) (by decide)),hy.1,(fun e=>by rw[show isName (.str z)=cY z from rfl,hz]at e;cases e),(fun _ _=>q),fun z' r rs _ e hr f=>?_⟩;subst e;have :=hy.2;rw[show bE H (.ref r)=(match cj (H r)with |some xs=>decide (xs.length<=60)&&xs.all aR|none=>false)from rfl,hr]at this;have h2:(decide (rs.length<=60)&&rs.all aR)=false:=this;rw[decide_eq_true f.len,bc.mpr f.rd]at h2;cases h2
theorem off_nm{x:V}{Q:VK}{E:XK}(sf:Shf H s CS dx t ys L)(hx:GU H x)(q:∀H',aS H H'->E (.ref CN) none H'):jY CS C CN [.ref s,x] H Q E:=by
 refine⟨s,dx,t,ys,L,x,rfl,sf,hx.1,(fun z e=>aF (hx.2.2 z e) (by decide)),(fun _=>q),fun z e hz=>?_⟩;subst e;obtain⟨l,hl,rfl⟩:=aV.mp hz;have :=hx.2.1;rw[show isName (.str l.1)=cY l.1 from rfl,sf.tl.gd.nm l hl]at this;cases this
theorem ER{z:Str}{r D:Addr}{rs:List V}{Q:VK}{E:XK}(sf:Shf H s CS dx t ys L)(tb:Tab T H)(hr:H r=some (.tup rs))(fz:K13.sM (z,rs))(h:z∈L.map (·.1)/\D=CT\/z∉L.map (·.1)/\¬Good (L++[(z,rs)])/\D=C)(q:∀H',aS H H'->E (.ref D) none H'):gU CS CN CR CT C T [.ref s,.str z,.ref r] H Q E:=by
 have ar:bE H (.ref r)=true:=by
  show(match cj (H r)with |some xs=>decide (xs.length<=60)&&xs.all aR|none=>false)=true;rw[hr];show(decide (rs.length<=60)&&rs.all aR)=true;rw[decide_eq_true fz.len,cP,bc];exact fz.rd
 refine⟨s,dx,t,ys,L,.str z,.ref r,rfl,sf,tb,kA,(fun z' e=>by injection e with e;rw[<-e];exact aF (K91.n9 fz.nm) (by decide)),⟨jG hr,fun a xs e hx=>?_⟩,(fun e=>absurd (show isName (.str z)=true from fz.nm) (by rw[e];decide)),(fun _ e=>by rw[ar]at e;cases e),fun z' r' rs' e1 e2 e3 _=>?_⟩
 ·injection e with e
  subst e;rw[hr]at hx;cases hx;exact⟨aF fz.len (by decide),fun y hy=>by rcases dw (fz.rd y hy)with rfl|rfl<;>exact gW⟩
 ·injection e1 with e1
  injection e2 with e2;subst e1 e2;rw[hr]at e3;cases e3;rcases h with⟨h1,rfl⟩ |⟨h1,h2,rfl⟩
  ·exact⟨fun _=>q,fun h=>absurd h1 h,fun g=>absurd h1 (yq g)⟩
  ·exact⟨fun h=>absurd h h1,fun _ _=>q,fun g=>absurd g h2⟩
theorem i9{Q:VK}{l p:Addr}{b1 b2 b3 b4:Bool}(hl:H l=some (.lst [.bl b1,.bl b2,.bl b3,.bl b4]))(hp:H p=some (.lst [.bl b1,.bl b2,.bl b3,.bl b4]))(q:Q (.bl false) H):gp K .NotEq (.ref l) (.ref p) H Q:=by
 refine⟨.lst [.bl b1,.bl b2,.bl b3,.bl b4],.lst [.bl b1,.bl b2,.bl b3,.bl b4],⟨l,_,rfl,SqL.of hl,_,_,rfl,rfl,_,_,rfl,rfl,_,_,rfl,rfl,_,_,rfl,rfl,rfl⟩,⟨p,_,rfl,SqL.of hp,_,_,rfl,rfl,_,_,rfl,rfl,_,_,rfl,rfl,_,_,rfl,rfl,rfl⟩,(by show max 0 (max 0 (max 0 (max 0 0)))+1<=30;decide),?_⟩;rw[lR];exact q
theorem lw_7{Rf:Addr->Bool->Bool->Bool->Bool->Prop}(g0:G.mth "put" 2=some (CS,gU CS CN CR CT C T,[]))(g1:G.mth "table" 0=some (CS,kY CS T,[]))(g2:G.mth "tree" 0=some (CS,kM CS T,[]))(g3:G.mth "off" 1=some (CS,jY CS C CN,[]))(g4:G.fn "_law_truths" 4=some (nR CS CN CR CT C T Rf,[]))(rf:Rf CT false false false true)(hk:(ao "kab":Str)∈L.map (·.1))
  (sf:Shf H s CS dx t ys L)(tb:Tab T H)(hr:D.rt=Q)(q:∀H',Q (.bl true) H'):
  wpB G K E wC D [some (.ref a),some (.ref s),x2,x3,x4,x5] H:=by
 unfold wC;walk_at "wp";refine⟨_,_,g4,short (by show 1<=40;decide),fun p hp=>?_⟩;have t1:=az (o:=.tup [V.int 1]) hp;have f1:upd H p (.tup [V.int 1]) p=_:=aq;generalize upd H p (.tup [V.int 1])=H1 at t1 f1;have sf1:=sf.same t1;have tb1:=(Gr.of t1).tab tb;refine⟨s,dx,t,ys,L,0,.str "kab",.ref p,CT,false,false,false,true,rfl,sf1,rf,.inl ⟨rfl,fun Q E h=>ER sf1 tb1 f1 (lN (by decide+kernel)) (.inl ⟨hk,rfl⟩) h⟩,fun H2 l s2 hl=>?_⟩;refine⟨short (by show 4<=40;decide),fun p2 hp2=>?_⟩;have t3:=az (o:=.lst [V.bl false,V.bl false,V.bl false,V.bl true]) hp2;refine i9 (t3 _ _ hl) aq ⟨_,rfl,?_⟩;rw[if_neg (by decide)];have t:=s2.trans t3;exact lw_8 g0 g1 g2 g3 (sf1.same t) ((Gr.of t).tab tb1) hr q
theorem lw_6{Rf:Addr->Bool->Bool->Bool->Bool->Prop}(g0:G.mth "put" 2=some (CS,gU CS CN CR CT C T,[]))(g1:G.mth "table" 0=some (CS,kY CS T,[]))(g2:G.mth "tree" 0=some (CS,kM CS T,[]))(g3:G.mth "off" 1=some (CS,jY CS C CN,[]))(g4:G.fn "_law_truths" 4=some (nR CS CN CR CT C T Rf,[]))(rf:Rf CT false false false true)(rf3:Rf C false false true false)(hk:(ao "kab":Str)∈L.map (·.1))(ho:(ao "one":Str)∉L.map (·.1))(hl:L.length=40)
  (sf:Shf H s CS dx t ys L)(tb:Tab T H)(hr:D.rt=Q)(q:∀H',Q (.bl true) H'):
  wpB G K E wD D [some (.ref a),some (.ref s),x2,x3,x4,x5] H:=by
 unfold wD;walk_at "wp";refine⟨_,_,g4,short (by show 2<=40;decide),fun p hp=>?_⟩;have t1:=az (o:=.tup [V.int 1,V.int 1]) hp;have f1:upd H p (.tup [V.int 1,V.int 1]) p=_:=aq;generalize upd H p (.tup [V.int 1,V.int 1])=H1 at t1 f1;have sf1:=sf.same t1;have tb1:=(Gr.of t1).tab tb;refine⟨s,dx,t,ys,L,0,.str "one",.ref p,C,false,false,true,false,rfl,sf1,rf3,.inl ⟨rfl,fun Q E h=>ER sf1 tb1 f1 (lN (by decide+kernel)) (.inr ⟨ho,K13.Fo (by omega),rfl⟩) h⟩,fun H2 l s2 hl2=>?_⟩;refine⟨short (by show 4<=40;decide),fun p2 hp2=>?_⟩;have t3:=az (o:=.lst [V.bl false,V.bl false,V.bl true,V.bl false]) hp2;refine i9 (t3 _ _ hl2) aq ⟨_,rfl,?_⟩;rw[if_neg (by decide)];have t:=s2.trans t3;have sf3:=sf1.same t;have tb3:=(Gr.of t).tab tb1;generalize upd H2 p2 (.lst [V.bl false,V.bl false,V.bl true,V.bl false])=H3 at sf3 tb3;refine⟨_,_,_,g1,?_⟩;simp only[gK,kL,iF,iG,bj,bR,bx,exists_eq_left',cX];refine⟨s,dx,_,rfl,sf3.so,iq _ (by decide+kernel),s,dx,_,ys,L,rfl,sf3,tb3,fun H4 l4 zs gr tl4=>.inl ⟨l4,_,rfl,.inl (SqL.of tl4.et),?_⟩⟩;rw[jC tl4.sh,(jr sf.tl.gd.nd).length_eq,hl];refine Fs.mpr ⟨_,rfl,?_⟩;rw[if_neg (by decide)];exact lw_7 g0 g1 g2 g3 g4 rf hk ⟨gr.at tb3 sf3.so (fun _ z=>by cases z),sf3.tl.gr gr tb3⟩ (gr.tab tb3) hr q
noncomputable def rk(k:Nat):List V:=match k%3 with | 0=>[.int 0,.int 0] | 1=>[.int 0,.int 1] |_=>[.int 1,.int 0]
noncomputable def nk(k:Nat):Str:=ao "l"++(⟨#[97+k%26]⟩:Str)++(⟨#[109+k/26]⟩:Str)
noncomputable def fU(k:Nat):List Row:=[(ao "kab",[.int 0,.int 0]),(ao "kac",[.int 0,.int 1])]++(aI k).map fun i=>(nk i,rk i)
theorem tab38:((fU 38).all (fun l=>cY l.1&&l.2.all aR&&decide (l.2.length=2))&&decide ((fU 38).map (·.1)).Nodup&&decide ((fU 38).length=40)&& !(((fU 38).map (·.1)).contains (ao "one")))=true:=by decide+kernel
theorem BX{k:Nat}(h:k<=38):(fU 38).take (k+2)=fU k:=by
 unfold fU;show _::_::((aI 38).map _).take k=_;rw[<-List.map_take,List.take_range,Nat.min_eq_left h];rfl
theorem good38:Good (fU 38):=by
 have h:=tab38;rw[ag,ag,ag,bc,decide_eq_true_eq,decide_eq_true_eq]at h;have h1:∀l∈fU 38,cY l.1=true/\(∀y∈l.2,aR y=true)/\l.2.length=2:=fun l hl=>by
  have :=h.1.1.1 l hl
  rw[ag,ag,bc,decide_eq_true_eq]at this;exact⟨this.1.1,this.1.2,this.2⟩
 exact⟨by rw[h.1.2];decide,fun l hl=>(h1 l hl).1,fun l hl=>(h1 l hl).2.1,h.1.1.2,2,by decide,fun l hl=>(h1 l hl).2.2⟩
theorem goodL{k:Nat}(h:k<=38):Good (fU k):=by rw[<-BX h];exact good38.take _
theorem tP(k:Nat):fU (k+1)=fU k++[(nk k,rk k)]:=by unfold fU;rw[List.range_succ,eD,<-kK];rfl
theorem xI(k:Nat):rk k=[.int 0,.int 0]\/rk k=[.int 0,.int 1]\/rk k=[.int 1,.int 0]:=by
 unfold rk;split
 ·exact .inl rfl
 ·exact .inr (.inl rfl)
 ·exact .inr (.inr rfl)
theorem D1(k:Nat):Three (fU k):=fun l hl=>by
 rcases fq.mp hl with hl|hl
 ·simp only[aA,bP,or_false]at hl
  rcases hl with rfl|rfl
  ·exact .inl rfl
  ·exact .inr (.inl rfl)
 ·obtain⟨i,_,rfl⟩:=aV.mp hl
  exact xI i
theorem EG(k:Nat):(rk k).length=2:=by rcases xI k with h|h|h<;>rw[h]<;>rfl
theorem at_let(k:Nat):atI (ao "abcdefghijklmnopqrstuvwxyz").cps.toList ((k:Int)%26)=some (97+k%26):=by
 have h:∀j:Fin 26,atI (ao "abcdefghijklmnopqrstuvwxyz").cps.toList ((j.val:Nat):Int)=some (97+j.val):=by decide+kernel
 have :=h ⟨k%26,Nat.mod_lt _ (by decide)⟩
 rw[show((k:Int)%26)=((k%26:Nat):Int)from by omega];exact this
theorem at_mn{k:Nat}(h:k<38):atI (ao "mn").cps.toList ((k:Int)/26)=some (109+k/26):=by
 have h2:∀j:Fin 2,atI (ao "mn").cps.toList ((j.val:Nat):Int)=some (109+j.val):=by decide+kernel
 have :=h2 ⟨k/26,by omega⟩
 rw[show((k:Int)/26)=((k/26:Nat):Int)from by omega];exact this
theorem lw_5{Rf:Addr->Bool->Bool->Bool->Bool->Prop}(g0:G.mth "put" 2=some (CS,gU CS CN CR CT C T,[]))(g1:G.mth "table" 0=some (CS,kY CS T,[]))(g2:G.mth "tree" 0=some (CS,kM CS T,[]))(g3:G.mth "off" 1=some (CS,jY CS C CN,[]))(g4:G.fn "_law_truths" 4=some (nR CS CN CR CT C T Rf,[]))(rf:Rf CT false false false true)(rf3:Rf C false false true false)
  (sf:Shf H s CS dx t ys (fU 0))(tb:Tab T H)(hr:D.rt=Q)(q:∀H',Q (.bl true) H'):
  wpB G K E wF D [some (.ref a),some (.ref s),x2,x3,x4,x5] H:=by
 unfold wF;walk_at "wp";refine lM ?_;walk_at "wp";refine⟨(38:Int),rfl,by decide,by decide,?_⟩;refine Kc.kB gy (fun k σ H'=>GrX T s H H'/\∃t' ys' y2,Shf H' s CS dx t' ys' (fU k)/\σ=[some (.ref a),some (.ref s),y2,x3,x4,x5]) ⟨GrX.refl _ _ _,t,ys,x2,sf,rfl⟩ (fun _ _ _ _ _=>trivial) ?_ ?_
 ·rintro k x σ H2 H3 D2 hk ⟨gx,t',ys',y2,sf2,rfl⟩ rfl s3 hD _
  have hk38:k<38:=by simpa using hk
  have sf3:=sf2.same s3;have tb3:=(Gr.of s3).tab (gx.tab tb);walk_at "wp";refine⟨_,_,_,g0,?_⟩;simp only[gK,kL,mI];walk_at "wp";have l1:(ao "l":Str).length=1:=by decide+kernel
  refine⟨s,dx,_,rfl,sf3.so,iq _ (by decide+kernel),by decide,97+k%26,by decide+kernel,at_let k,K13.sl (by rw[l1];show 1+1<=20000;decide),⟨by decide,by decide⟩,109+k/26,by decide+kernel,at_mn hk38,K13.sl (by rw[Ae,l1];show 1+1+1<=20000;decide),short (by show 2<=40;decide),fun p1 q1=>⟨short (by show 2<=40;decide),fun p2 q2=>⟨short (by show 2<=40;decide),fun p3 q3=>⟨short (by show 3<=40;decide),fun p4 q4=>⟨by decide,?_⟩⟩⟩⟩⟩;have w1:=az (o:=.tup [V.int 0,V.int 0]) q1;have z1:upd H3 p1 (.tup [V.int 0,V.int 0]) p1=_:=aq;generalize upd H3 p1 (.tup [V.int 0,V.int 0])=M1 at w1 z1 q2 q3 q4;have w2:=az (o:=.tup [V.int 0,V.int 1]) q2;have z2:upd M1 p2 (.tup [V.int 0,V.int 1]) p2=_:=aq;generalize upd M1 p2 (.tup [V.int 0,V.int 1])=M2 at w2 z2 q3 q4;have w3:=az (o:=.tup [V.int 1,V.int 0]) q3;have z3:upd M2 p3 (.tup [V.int 1,V.int 0]) p3=_:=aq;generalize upd M2 p3 (.tup [V.int 1,V.int 0])=M3 at w3 z3 q4;have w4:=az (o:=.lst [V.ref p1,V.ref p2,V.ref p3]) q4;have z4:upd M3 p4 (.lst [V.ref p1,V.ref p2,V.ref p3]) p4=_:=aq;generalize upd M3 p4 (.lst [V.ref p1,V.ref p2,V.ref p3])=M4 at w4 z4;have w14:=w1.trans (w2.trans (w3.trans w4));have sf4:=sf3.same w14;have tb4:=(Gr.of w14).tab tb3;have g5:=goodL (k:=k+1) (by omega);have th:=D1 (k+1);rw[tP]at g5 th;have fz:K13.sM (nk k,rk k):=⟨g5.nm _ (by simp),by rw[EG];decide,g5.rd (nk k,rk k) (by simp)⟩;have go:∀{r:Addr},M4 r=some (.tup (rk k))->gU CS CN CR CT C T [.ref s,.str (nk k),.ref r] M4 (fun x H1=>D2.nx [some (V.ref a),some (V.ref s),some (V.int k),x3,x4,x5] H1) (E [some (V.ref a),some (V.ref s),some (V.int k),x3,x4,x5]):=fun hr4=>
   vF sf4 tb4 hr4 fz g5 (by rw[EG];exact ui th) fun H5 t5 ys5 gx5 _ sf5=>hD _ _ ⟨(gx.trans (GrX.of (Gr.of (s3.trans w14)))).trans gx5,t5,ys5,_,by rw[tP];exact sf5,rfl⟩
  have hc:k%3=0\/k%3=1\/k%3=2:=by omega
  rcases hc with e|e|e
  ·refine .inl ⟨p4,_,(k:Int)%3,.ref p1,rfl,rfl,SqL.of z4,by rw[show(k:Int)%3=((0:Nat):Int)from by omega];exact d0 rfl,go (w4 _ _ (w3 _ _ (w2 _ _ (z1.trans (by unfold rk;rw[e];rfl)))))⟩
  ·refine .inl ⟨p4,_,(k:Int)%3,.ref p2,rfl,rfl,SqL.of z4,by rw[show(k:Int)%3=((1:Nat):Int)from by omega];exact d0 rfl,go (w4 _ _ (w3 _ _ (z2.trans (by unfold rk;rw[e];rfl))))⟩
  ·refine .inl ⟨p4,_,(k:Int)%3,.ref p3,rfl,rfl,SqL.of z4,by rw[show(k:Int)%3=((2:Nat):Int)from by omega];exact d0 rfl,go (w4 _ _ (z3.trans (by unfold rk;rw[e];rfl)))⟩
 ·rintro σ H2 ⟨gx,t',ys',y2,sf2,rfl⟩
  exact lw_6 g0 g1 g2 g3 g4 rf rf3 (by decide+kernel) (by decide+kernel) (by decide+kernel) sf2 (gx.tab tb) hr q
theorem sL_two:sL (fU 0)=fU 0:=by decide+kernel
theorem lw_4b7(g1:G.mth "table" 0=some (CS,kY CS T,[]))(sf:Shf H s CS dx t ys (fU 0))(tb:Tab T H)(q:∀H',Gr T H H'->D.nx [some (.ref a),some (.ref s),x2,x3,x4,x5] H'):
  wpB G K E pH D [some (.ref a),some (.ref s),x2,x3,x4,x5] H:=by
 unfold pH;walk_at "wp";refine⟨_,_,_,g1,?_⟩;simp only[gK,kL,iF,iG,bj,bR,bx,exists_eq_left',cX];refine⟨s,dx,_,rfl,sf.so,iq _ (by decide+kernel),s,dx,t,ys,_,rfl,sf,tb,fun H1 l zs gr tl1=>?_⟩;rw[sL_two]at tl1;refine⟨short (by show 2<=40;decide),fun p1 q1=>⟨short (by show 2<=40;decide),fun p2 q2=>⟨short (by show 2<=40;decide),fun p3 q3=>⟨short (by show 2<=40;decide),fun p4 q4=>⟨short (by show 2<=40;decide),fun p5 q5=>?_⟩⟩⟩⟩⟩;have w1:=az (o:=.tup [V.int 0,V.int 0]) q1;have z1:upd H1 p1 (.tup [V.int 0,V.int 0]) p1=_:=aq;generalize upd H1 p1 (.tup [V.int 0,V.int 0])=M1 at w1 z1 q2 q3 q4 q5;have w2:=az (o:=.tup [V.str (ao "kab"),V.ref p1]) q2;have z2:upd M1 p2 (.tup [V.str (ao "kab"),V.ref p1]) p2=_:=aq;generalize upd M1 p2 (.tup [V.str (ao "kab"),V.ref p1])=M2 at w2 z2 q3 q4 q5;have w3:=az (o:=.tup [V.int 0,V.int 1]) q3;have z3:upd M2 p3 (.tup [V.int 0,V.int 1]) p3=_:=aq;generalize upd M2 p3 (.tup [V.int 0,V.int 1])=M3 at w3 z3 q4 q5;have w4:=az (o:=.tup [V.str (ao "kac"),V.ref p3]) q4;have z4:upd M3 p4 (.tup [V.str (ao "kac"),V.ref p3]) p4=_:=aq;generalize upd M3 p4 (.tup [V.str (ao "kac"),V.ref p3])=M4 at w4 z4 q5;have w5:=az (o:=.lst [V.ref p2,V.ref p4]) q5;have z5:upd M4 p5 (.lst [V.ref p2,V.ref p4]) p5=_:=aq;generalize upd M4 p5 (.lst [V.ref p2,V.ref p4])=M5 at w5 z5;have w15:=w1.trans (w2.trans (w3.trans (w4.trans w5)));have rd:=sf.tl.gd.rd;have sh5:Sh M5 [V.ref p2,V.ref p4] (fU 0):=.cons ⟨p2,p1,rfl,w5 _ _ (w4 _ _ (w3 _ _ z2)),w5 _ _ (w4 _ _ (w3 _ _ (w2 _ _ z1))),rd (ao "kab",[.int 0,.int 0]) (by simp[fU])⟩ (.cons ⟨p4,p3,rfl,w5 _ _ z4,w5 _ _ (w4 _ _ z3),rd (ao "kac",[.int 0,.int 1]) (by simp[fU])⟩ .nil);refine⟨.lst ((fU 0).map toD),.lst ((fU 0).map toD),⟨l,_,rfl,SqL.of (w15 _ _ tl1.et),nU (tl1.sh.same w15)⟩,⟨p5,_,rfl,SqL.of z5,nU sh5⟩,?_,_,rfl,?_⟩
 ·show i6 ((fU 0).map toD)+1<=30
  have :=wg sh5
  omega
 ·rw[lR,if_neg (by decide)]
  exact q M5 (gr.trans (Gr.of w15))
theorem lw_4b6{Rf:Addr->Bool->Bool->Bool->Bool->Prop}(g1:G.mth "table" 0=some (CS,kY CS T,[]))(g4:G.fn "_law_truths" 4=some (nR CS CN CR CT C T Rf,[]))(g5:G.fn "_law_no_name" 1=some (qZ,[]))(rf1:Rf CN true false false false){n:Int}(sf:Shf H s CS dx t ys (fU 0))(tb:Tab T H)(q:∀H',Gr T H H'->D.nx [some (.ref a),some (.ref s),x2,some (.int n),x4,x5] H'):
  wpB G K E pI D [some (.ref a),some (.ref s),x2,some (.int n),x4,x5] H:=by
 unfold pI;walk_at "wp";refine⟨_,_,g4,_,_,g5,n,rfl,fun H1 x s1 nx=>?_⟩;have sf1:=sf.same s1;refine⟨s,dx,t,ys,_,1,x,.non,CN,true,false,false,false,rfl,sf1,rf1,.inr ⟨rfl,fun Q E h=>off_nm sf1 nx h⟩,fun H2 l s2 hl=>?_⟩;refine⟨short (by show 4<=40;decide),fun p2 hp2=>?_⟩;have t3:=az (o:=.lst [V.bl true,V.bl false,V.bl false,V.bl false]) hp2;refine i9 (t3 _ _ hl) aq ⟨_,rfl,?_⟩;rw[if_neg (by decide)];have w:=s1.trans (s2.trans t3);exact lw_4b7 g1 (sf.same w) ((Gr.of w).tab tb) fun H' g=>q H' ((Gr.of w).trans g)
theorem lw_4b5{Rf:Addr->Bool->Bool->Bool->Bool->Prop}(g1:G.mth "table" 0=some (CS,kY CS T,[]))(g4:G.fn "_law_truths" 4=some (nR CS CN CR CT C T Rf,[]))(g5:G.fn "_law_no_name" 1=some (qZ,[]))(g6:G.fn "_law_no_readings" 1=some (tf,[]))(rf1:Rf CN true false false false)(rf2:Rf CR false true false false){n:Int}{z:Str}(hz:cY z=true)(sf:Shf H s CS dx t ys (fU 0))(tb:Tab T H)(q:∀H' z',Gr T H H'->D.nx [some (.ref a),some (.ref s),x2,some (.int n),x4,some (.str z')] H'):
  wpB G K E mo D [some (.ref a),some (.ref s),x2,some (.int n),x4,some (.str z)] H:=by
 unfold mo;walk_at "wp";refine⟨_,_,g4,_,_,g6,⟨by decide,by decide⟩,n/11,rfl,fun H1 y s1 ny=>?_⟩;have sf1:=sf.same s1;have tb1:=(Gr.of s1).tab tb;refine⟨s,dx,t,ys,_,0,.str z,y,CR,false,true,false,false,rfl,sf1,rf2,.inl ⟨rfl,fun Q E h=>put_rd sf1 tb1 hz ny h⟩,fun H2 l s2 hl=>?_⟩;refine⟨short (by show 4<=40;decide),fun p2 hp2=>?_⟩;have t3:=az (o:=.lst [V.bl false,V.bl true,V.bl false,V.bl false]) hp2;refine i9 (t3 _ _ hl) aq ⟨_,rfl,?_⟩;rw[if_neg (by decide)];have w:=s1.trans (s2.trans t3);exact lw_4b6 g1 g4 g5 rf1 (sf.same w) ((Gr.of w).tab tb) fun H' g=>q H' z ((Gr.of w).trans g)
end
section
variable {G:Gam}{K:ae}{E:XS}{D:Ends}{Q:VK}{H:Hp}{CS dx s t a CN CR CT C:Addr}{T:Tb}{ys:List V}{x2 x3 x4 x5:Option V}
theorem lw_4b4{Rf:Addr->Bool->Bool->Bool->Bool->Prop}(g1:G.mth "table" 0=some (CS,kY CS T,[]))(g4:G.fn "_law_truths" 4=some (nR CS CN CR CT C T Rf,[]))(g5:G.fn "_law_no_name" 1=some (qZ,[]))(g6:G.fn "_law_no_readings" 1=some (tf,[]))(rf1:Rf CN true false false false)(rf2:Rf CR false true false false){n:Int}(sf:Shf H s CS dx t ys (fU 0))(tb:Tab T H)(q:∀H' z',Gr T H H'->D.nx [some (.ref a),some (.ref s),x2,some (.int n),x4,some (.str z')] H'):
  wpB G K E pJ D [some (.ref a),some (.ref s),x2,some (.int n),x4,x5] H:=by
 unfold pJ;walk_at "wp";refine⟨short (by show 2<=40;decide),fun p hp=>⟨⟨by decide,by decide⟩,by decide,?_⟩⟩;have s1:=az (o:=.lst [V.str (ao "kad"),V.str (ao "kab")]) hp;have go:∀{z:Str},cY z=true->wpB G K E mo D [some (.ref a),some (.ref s),x2,some (.int n),x4,some (.str z)] (upd H p (.lst [V.str (ao "kad"),V.str (ao "kab")])):=fun hz=>
  lw_4b5 g1 g4 g5 g6 rf1 rf2 hz (sf.same s1) ((Gr.of s1).tab tb) fun H' z' g=>q H' z' ((Gr.of s1).trans g)
 have hc:n/400%2=0\/n/400%2=1:=by omega
 rcases hc with e|e
 ·exact .inl ⟨p,_,n/400%2,_,rfl,rfl,SqL.of aq,by rw[e];exact d0 (j:=0) rfl,go (by decide+kernel)⟩
 ·exact .inl ⟨p,_,n/400%2,_,rfl,rfl,SqL.of aq,by rw[e];exact d0 (j:=1) rfl,go (by decide+kernel)⟩
theorem lw_4b3{Rf:Addr->Bool->Bool->Bool->Bool->Prop}(g1:G.mth "table" 0=some (CS,kY CS T,[]))(g4:G.fn "_law_truths" 4=some (nR CS CN CR CT C T Rf,[]))(g5:G.fn "_law_no_name" 1=some (qZ,[]))(g6:G.fn "_law_no_readings" 1=some (tf,[]))(rf1:Rf CN true false false false)(rf2:Rf CR false true false false){n:Int}{y:V}(hy:KnR H y)(sf:Shf H s CS dx t ys (fU 0))(tb:Tab T H)(q:∀H' z',Gr T H H'->D.nx [some (.ref a),some (.ref s),x2,some (.int n),some y,some (.str z')] H'):
  wpB G K E mq D [some (.ref a),some (.ref s),x2,some (.int n),some y,x5] H:=by
 unfold mq;walk_at "wp";refine⟨_,_,g4,_,_,g5,n,rfl,fun H1 x s1 nx=>?_⟩;have sf1:=sf.same s1;have tb1:=(Gr.of s1).tab tb;have hy1:=(hy.same s1).1;refine⟨s,dx,t,ys,_,0,x,y,CN,true,false,false,false,rfl,sf1,rf1,.inl ⟨rfl,fun Q E h=>put_nm sf1 tb1 nx hy1 h⟩,fun H2 l s2 hl=>?_⟩;refine⟨short (by show 4<=40;decide),fun p2 hp2=>?_⟩;have t3:=az (o:=.lst [V.bl true,V.bl false,V.bl false,V.bl false]) hp2;refine i9 (t3 _ _ hl) aq ⟨_,rfl,?_⟩;rw[if_neg (by decide)];have w:=s1.trans (s2.trans t3);exact lw_4b4 g1 g4 g5 g6 rf1 rf2 (sf.same w) ((Gr.of w).tab tb) fun H' z g=>q H' z ((Gr.of w).trans g)
theorem lw_4b2{Rf:Addr->Bool->Bool->Bool->Bool->Prop}(g1:G.mth "table" 0=some (CS,kY CS T,[]))(g4:G.fn "_law_truths" 4=some (nR CS CN CR CT C T Rf,[]))(g5:G.fn "_law_no_name" 1=some (qZ,[]))(g6:G.fn "_law_no_readings" 1=some (tf,[]))(rf1:Rf CN true false false false)(rf2:Rf CR false true false false){n:Int}(sf:Shf H s CS dx t ys (fU 0))(tb:Tab T H)(q:∀H' y' z',Gr T H H'->D.nx [some (.ref a),some (.ref s),x2,some (.int n),some y',some (.str z')] H'):
  wpB G K E pK D [some (.ref a),some (.ref s),x2,some (.int n),x4,x5] H:=by
 unfold pK;walk_at "wp";refine⟨short (by show 2<=40;decide),fun p1 q1=>⟨_,_,g6,⟨by decide,by decide⟩,n/11,rfl,fun H1 y s1 ny=>⟨short (by show 2<=40;decide),fun p2 q2=>⟨⟨by decide,by decide⟩,by decide,?_⟩⟩⟩⟩;have w1:=az (o:=.tup [V.int 1,V.int 0]) q1;have z1:upd H p1 (.tup [V.int 1,V.int 0]) p1=_:=aq;have z1':=s1 _ _ z1;have w2:=az (o:=.lst [V.ref p1,y]) q2;have w:=w1.trans (s1.trans w2);have z2:upd H1 p2 (.lst [V.ref p1,y]) p2=_:=aq;have k2:=(ny.1.same w2).1;have k1:KnR (upd H1 p2 (.lst [V.ref p1,y])) (.ref p1):=⟨jG (w2 _ _ z1'),fun b xs e hx=>by
  injection e with e;subst e;rw[w2 _ _ z1']at hx;cases hx;exact⟨by show 2<=20000;decide,fun y hy=>by
   simp only[aA,bP,or_false]at hy;rcases hy with rfl|rfl<;>exact gW⟩⟩
 have go:∀{v:V},KnR (upd H1 p2 (.lst [V.ref p1,y])) v->wpB G K E mq D [some (.ref a),some (.ref s),x2,some (.int n),some v,x5] (upd H1 p2 (.lst [V.ref p1,y])):=fun kv=>
  lw_4b3 g1 g4 g5 g6 rf1 rf2 kv (sf.same w) ((Gr.of w).tab tb) fun H' z' g=>q H' _ z' ((Gr.of w).trans g)
 have hc:n/200%2=0\/n/200%2=1:=by omega
 rcases hc with e|e
 ·exact .inl ⟨p2,_,n/200%2,_,rfl,rfl,SqL.of z2,by rw[e];exact d0 (j:=0) rfl,go k1⟩
 ·exact .inl ⟨p2,_,n/200%2,_,rfl,rfl,SqL.of z2,by rw[e];exact d0 (j:=1) rfl,go k2⟩
theorem lw_4{Rf:Addr->Bool->Bool->Bool->Bool->Prop}(g0:G.mth "put" 2=some (CS,gU CS CN CR CT C T,[]))(g1:G.mth "table" 0=some (CS,kY CS T,[]))(g2:G.mth "tree" 0=some (CS,kM CS T,[]))(g3:G.mth "off" 1=some (CS,jY CS C CN,[]))(g4:G.fn "_law_truths" 4=some (nR CS CN CR CT C T Rf,[]))(g5:G.fn "_law_no_name" 1=some (qZ,[]))(g6:G.fn "_law_no_readings" 1=some (tf,[]))(g7:G.fn "_law_drawn" 2=some (B0 K,[]))(rf1:Rf CN true false false false)(rf2:Rf CR false true false false)(rf3:Rf C false false true false)(rf:Rf CT false false false true)
  {ns:List Int}(hs:SqL K H a (ns.map V.int))(hn:ns.length<=63)(sf:Shf H s CS dx t ys (fU 0))(tb:Tab T H)(hr:D.rt=Q)(q:∀H',Q (.bl true) H'):
  wpB G K E wG D [some (.ref a),some (.ref s),x2,x3,x4,x5] H:=by
 unfold wG;walk_at "wp";refine lM ?_;walk_at "wp";refine .inl ⟨a,_,rfl,.inl hs,_,_,rfl,_,rfl,?_,?_,?_⟩
 ·rw[av];split <;>omega
 ·rw[av];split <;>omega
 refine Kc.kB gy (fun k σ H'=>Gr T H H'/\∃y2 y3 y4 y5,σ=[some (.ref a),some (.ref s),y2,y3,y4,y5]) ⟨Gr.refl _ _,x2,x3,x4,x5,rfl⟩ (fun _ _ _ _ _=>trivial) ?_ ?_
 ·rintro k x σ H2 H3 D2 hk ⟨gx,y2,y3,y4,y5,rfl⟩ rfl s3 hD _
  have hk':k<ns.length/\k<=100:=by
   rw[av]at hk;split at hk<;>omega
  have g3:=gx.trans (Gr.of s3);have sf3:Shf H3 s CS dx t ys (fU 0):=⟨g3.at tb sf.so (fun _ z=>by cases z),sf.tl.gr g3 tb⟩;walk_at "wp";simp only[mI];refine⟨_,_,g7,a,ns,k,rfl,(GrX.of (s:=s) g3).seq tb sf.so hs,hk'.1,hk'.2,fun d _=>?_⟩;exact lw_4b2 g1 g4 g5 g6 rf1 rf2 sf3 (g3.tab tb) fun H' y' z' g=>hD _ _ ⟨g3.trans g,_,_,_,_,rfl⟩
 ·rintro σ H2 ⟨gx,y2,y3,y4,y5,rfl⟩
  exact lw_5 g0 g1 g2 g3 g4 rf rf3 ⟨gx.at tb sf.so (fun _ z=>by cases z),sf.tl.gr gx tb⟩ (gx.tab tb) hr q
theorem good2:Good [(ao "kab",[V.int 0,V.int 0]),(ao "kac",[V.int 0,V.int 1])]:=goodL (k:=0) (by decide)
theorem lw_3{Rf:Addr->Bool->Bool->Bool->Bool->Prop}(g0:G.mth "put" 2=some (CS,gU CS CN CR CT C T,[]))(g1:G.mth "table" 0=some (CS,kY CS T,[]))(g2:G.mth "tree" 0=some (CS,kM CS T,[]))(g3:G.mth "off" 1=some (CS,jY CS C CN,[]))(g4:G.fn "_law_truths" 4=some (nR CS CN CR CT C T Rf,[]))(g5:G.fn "_law_no_name" 1=some (qZ,[]))(g6:G.fn "_law_no_readings" 1=some (tf,[]))(g7:G.fn "_law_drawn" 2=some (B0 K,[]))(rf1:Rf CN true false false false)(rf2:Rf CR false true false false)(rf3:Rf C false false true false)(rf:Rf CT false false false true)
  {ns:List Int}(hs:SqL K H a (ns.map V.int))(hn:ns.length<=63)(sf:Shf H s CS dx t ys [(ao "kab",[V.int 0,V.int 0])])(tb:Tab T H)(hr:D.rt=Q)(q:∀H',Q (.bl true) H'):
  wpB G K E wH D [some (.ref a),some (.ref s),x2,x3,x4,x5] H:=by
 unfold wH;walk_at "wp";refine⟨_,_,_,g0,?_⟩;simp only[gK,kL];walk_at "wp";refine⟨s,dx,_,rfl,sf.so,iq _ (by decide+kernel),short (by show 2<=40;decide),fun p hp=>?_⟩;have s1:=az (o:=.tup [V.int 0,V.int 1]) hp;refine vF (sf.same s1) ((Gr.of s1).tab tb) aq (lN (by decide+kernel)) good2 (ui (D1 0)) fun H1 t1 ys1 gx tb1 sf1=>?_;exact lw_4 g0 g1 g2 g3 g4 g5 g6 g7 rf1 rf2 rf3 rf (((GrX.of (s:=s) (Gr.of s1)).trans gx).seq tb sf.so hs) hn sf1 tb1 hr q
theorem lw_2{Rf:Addr->Bool->Bool->Bool->Bool->Prop}(g0:G.mth "put" 2=some (CS,gU CS CN CR CT C T,[]))(g1:G.mth "table" 0=some (CS,kY CS T,[]))(g2:G.mth "tree" 0=some (CS,kM CS T,[]))(g3:G.mth "off" 1=some (CS,jY CS C CN,[]))(g4:G.fn "_law_truths" 4=some (nR CS CN CR CT C T Rf,[]))(g5:G.fn "_law_no_name" 1=some (qZ,[]))(g6:G.fn "_law_no_readings" 1=some (tf,[]))(g7:G.fn "_law_drawn" 2=some (B0 K,[]))(rf1:Rf CN true false false false)(rf2:Rf CR false true false false)(rf3:Rf C false false true false)(rf:Rf CT false false false true)
  {ns:List Int}(hs:SqL K H a (ns.map V.int))(hn:ns.length<=63)(sf:Shf H s CS dx t ys [])(tb:Tab T H)(hr:D.rt=Q)(q:∀H',Q (.bl true) H'):
  wpB G K E wI D [some (.ref a),some (.ref s),x2,x3,x4,x5] H:=by
 unfold wI;walk_at "wp";refine⟨_,_,_,g0,?_⟩;simp only[gK,kL];walk_at "wp";refine⟨s,dx,_,rfl,sf.so,iq _ (by decide+kernel),short (by show 2<=40;decide),fun p hp=>?_⟩;have s1:=az (o:=.tup [V.int 0,V.int 0]) hp;have fz:K13.sM (ao "kab",[V.int 0,V.int 0]):=lN (by decide+kernel);refine vF (sf.same s1) ((Gr.of s1).tab tb) aq fz (yp fz) (A8 _ _ _) fun H1 t1 ys1 gx tb1 sf1=>?_;exact lw_3 g0 g1 g2 g3 g4 g5 g6 g7 rf1 rf2 rf3 rf (((GrX.of (s:=s) (Gr.of s1)).trans gx).seq tb sf.so hs) hn sf1 tb1 hr q
noncomputable def Eg(K:ae)(T:Tb):Sp:=fun vs H Q _=>∃(a:Addr)(ns:List Int),vs=[.ref a]/\SqL K H a (ns.map V.int)/\ns.length<=63/\Tab T H/\∀H',Q (.bl true) H'
theorem wp_law{Rf:Addr->Bool->Bool->Bool->Bool->Prop}(gm:G.mak "Shelf" 0=some (CS,Eh CS,[]))(g0:G.mth "put" 2=some (CS,gU CS CN CR CT C T,[]))(g1:G.mth "table" 0=some (CS,kY CS T,[]))(g2:G.mth "tree" 0=some (CS,kM CS T,[]))(g3:G.mth "off" 1=some (CS,jY CS C CN,[]))(g4:G.fn "_law_truths" 4=some (nR CS CN CR CT C T Rf,[]))(g5:G.fn "_law_no_name" 1=some (qZ,[]))(g6:G.fn "_law_no_readings" 1=some (tf,[]))(g7:G.fn "_law_drawn" 2=some (B0 K,[]))(rf1:Rf CN true false false false)(rf2:Rf CR false true false false)(rf3:Rf C false false true false)(rf:Rf CT false false false true):
  Sat G K (Eg K T) GN Fw:=by
 rintro vs H Q E ⟨a,ns,rfl,hs,hn,tb,q⟩;unfold GN;change wpB G K _ _ _ [some (.ref a),none,none,none,none,none] H;walk_at "wp";refine⟨_,_,_,gm,?_⟩;simp only[zA,tMake,iG];intro s dx hs0 hdx hne;refine⟨s,dx,rfl,aq,fun t hts ht=>⟨rfl,?_⟩⟩;rw[aN hts]at ht;have sw:aS H (upd (upd (upd (upd H dx (.own s)) s (.ins CS dx [])) t (.lst [])) s (.ins CS dx [("copies",.ref t)])):=fun b o e=>by
  have n1:b≠s:=fun z=>by rw[z,hs0]at e;cases e
  have n2:b≠dx:=fun z=>by rw[z,hdx]at e;cases e
  have n3:b≠t:=fun z=>by rw[z]at e n2;rw[aN n2,e]at ht;cases ht
  rw[aN n1,aN n3,aN n1,aN n2];exact e
 exact lw_2 g0 g1 g2 g3 g4 g5 g6 g7 rf1 rf2 rf3 rf (sw.seq hs) hn ⟨aq,by rw[aN hts];exact aq,.nil,(by show 0<=40;decide),(fun _ h=>by cases h),(fun _ h=>by cases h),hW,0,by decide,fun _ h=>by cases h⟩ ((Gr.of sw).tab tb) rfl q
end
end K82
namespace R
open PySem PySem.Spec PyProof.Rows L2
noncomputable def yV(K:ae)(C:Addr)(m q:Str)(st:Stmt):Prop:=∃(f:Addr)(oc:Value)(od an:Option Addr)(osl:Array (Option Value))(kV doc pm cdv ct:Value),cn K (.ref C) m=some (some (.ref f))/\lh K (.ref f)=true/\
 K.lookup f=some ⟨oc,od,.func (aC m q (bu st) (aU st) (aG st) .none kV doc pm an cdv ct),osl⟩/\cJ K cdv q=true/\bA K (.ref f)=true
theorem oq{K:ae}{C:Addr}{m q:Str}{st:Stmt}{f:Addr}{oc:Value}{od an:Option Addr}{osl:Array (Option Value)}{kV doc pm cdv ct:Value}(a:cn K (.ref C) m=some (some (.ref f)))(b:lh K (.ref f)=true)
  (l:K.lookup f=some ⟨oc,od,.func (aC m q (bu st) (aU st) (aG st) .none kV doc pm an cdv ct),osl⟩)(c:cJ K cdv q=true)(k:bA K (.ref f)=true):yV K C m q st:=
 ⟨f,oc,od,an,osl,kV,doc,pm,cdv,ct,a,b,l,c,k⟩
noncomputable def HasA(K:ae)(x y:Str)(st:Stmt):Prop:=∃(f:Addr)(oc:Value)(od an:Option Addr)(osl:Array (Option Value))(kV doc pm cdv ct:Value),b9 K bh x=some (some (.ref f))/\
 K.lookup f=some ⟨oc,od,.func (aC y y (bu st) (aU st) (aG st) .none kV doc pm an cdv ct),osl⟩/\cJ K cdv y=true/\bA K (.ref f)=true
theorem hasA_mk{K:ae}{x y:Str}{st:Stmt}{f:Addr}{oc:Value}{od an:Option Addr}{osl:Array (Option Value)}{kV doc pm cdv ct:Value}(a:b9 K bh x=some (some (.ref f)))
  (l:K.lookup f=some ⟨oc,od,.func (aC y y (bu st) (aU st) (aG st) .none kV doc pm an cdv ct),osl⟩)(c:cJ K cdv y=true)(k:bA K (.ref f)=true):HasA K x y st:=
 ⟨f,oc,od,an,osl,kV,doc,pm,cdv,ct,a,l,c,k⟩
section
variable {P:Program}{w:World}{K:ae}{mg:Str->Option Value}{base:Heap}{k:Nat}{vals:List (Str×V)}{fns:List ((Str×Nat)×(Sp×List V))}{x y m q:Str}{st:Stmt}{N ps:List Str}{sp:Sp}{code:CB}{inis maks mths:List ((Str×Nat)×(Addr×Sp×List V))}{dics:List (Addr×List (Key×V))}{C:Addr}
theorem add_as{h:Heap}(g:GOk P w K mg base (CXx P w) k (gam vals fns inis dics maks mths))(X:K.In h)(Gm:h.Ns bh mg)(d:HasA K x y st)
  (hc:(jZ N ps (aG st)&&jK (aG st) N code (aU st))=true)
  (hb:∀(kV doc pm:Value)(an:Option Addr)(cdv ct:Value)(us:List Value),us.length=ps.length->iR (aC y y (bu st) (aU st) (aG st) .none kV doc pm an cdv ct) ⟨us,[]⟩=pure (ps.zip us))
  (len:∀vs H Q E,sp vs H Q E->vs.length=ps.length)
  (h:∀vs H Q E,sp vs H Q E->wpB (gam vals fns inis dics maks mths) K (fun _=>E) code {nx:=fun _ H'=>Q .non H',rt:=Q} (L2.start N vs) H):GOk P w K mg base (CXx P w) (k+1) (gam vals (((x,ps.length),(sp,[]))::fns) inis dics maks mths):=by
 rw[ag]at hc;obtain⟨f,oc,od,an,osl,kV,doc,pm,cdv,ct,a,l,c,kp⟩:=d;have F:=pB l c kp;exact g.add (n:=ps.length) (ou F hc.1 hc.2 g len h) (bZ X Gm a) kp (F.binds hb) .nil
theorem qL(n:Nat)(g:GOk P w K mg base (CXx P w) k (gam vals fns inis dics maks mths))(cl:Cls K C)(d:yV K C m q st)
  (hc:(jZ N ps (aG st)&&jK (aG st) N code (aU st))=true)
  (hb:∀(kV doc pm:Value)(an:Option Addr)(cdv ct:Value)(us:List Value),us.length=ps.length->iR (aC m q (bu st) (aU st) (aG st) .none kV doc pm an cdv ct) ⟨us,[]⟩=pure (ps.zip us))
  (len:∀vs H Q E,sp vs H Q E->vs.length=ps.length)
  (h:∀vs H Q E,sp vs H Q E->wpB (gam vals fns inis dics maks mths) K (fun _=>E) code {nx:=fun _ H'=>Q .non H',rt:=Q} (L2.start N vs) H):GOk P w K mg base (CXx P w) (k+1) (gam vals fns inis dics maks (((m,n),(C,sp,[]))::mths)):=by
 rw[ag]at hc;obtain⟨f,oc,od,an,osl,kV,doc,pm,cdv,ct,a,b,l,c,kp⟩:=d;have F:=pB l c kp;exact g.addO (n:=n) cl ⟨a,b,kp⟩ (ou F hc.1 hc.2 g len h) (F.binds hb) .nil
theorem add_cls(n:Nat)(g:GOk P w K mg base (CXx P w) k (gam vals fns inis dics maks mths))(mk:ll K C=true)(kc:bA K (.ref C)=true)(hm:mg x=some (.ref C))(d:yV K C "__init__" q st)
  (hc:(jZ N ps (aG st)&&jK (aG st) N code (aU st))=true)
  (hb:∀(kV doc pm:Value)(an:Option Addr)(cdv ct:Value)(us:List Value),us.length=ps.length->iR (aC "__init__" q (bu st) (aU st) (aG st) .none kV doc pm an cdv ct) ⟨us,[]⟩=pure (ps.zip us))
  (len:∀vs H Q E,sp vs H Q E->vs.length=ps.length)
  (h:∀vs H Q E,sp vs H Q E->wpB (gam vals fns inis dics maks mths) K (fun _=>E) code {nx:=fun _ H'=>Q .non H',rt:=Q} (L2.start N vs) H):GOk P w K mg base (CXx P w) (k+2) (gam vals fns inis dics (((x,n),(C,sp,[]))::maks) mths):=by
 rw[ag]at hc;obtain⟨f,oc,od,an,osl,kV,doc,pm,cdv,ct,a,b,l,c,kp⟩:=d;have F:=pB l c kp;exact g.addC (n:=n) ⟨mk,a,b,kc⟩ (ou F hc.1 hc.2 g len h) hm (F.binds hb) .nil
end
end R
set_option maxHeartbeats 0
namespace K82
open PySem PySem.Spec PySem.Calls PyProof.Rows L2 R Cp Lt Lm
noncomputable def yn(P:PySem.Params):ae:=
 (nat_lit 2,⟨.none,none,(.dict #[] 0),#[]⟩)::
 (nat_lit 3,⟨.type "dict",none,(.dict #[⟨ak P "__name__",.str "__name__" 165,.str "law_copykin_k82_shelf_refuses" 521⟩,⟨ak P "__doc__",.str "__doc__" 166,.none⟩,⟨ak P "__package__",.str "__package__" 167,.none⟩,⟨ak P "__loader__",.str "__loader__" 168,.builtin "__main__.__loader__#opaque"⟩,⟨ak P "__spec__",.str "__spec__" 169,.none⟩,⟨ak P "__annotations__",.str "__annotations__" 170,.ref 6⟩,⟨ak P "__builtins__",.str "__builtins__" 171,.ref 4⟩,⟨ak P "__file__",.str "__file__" 173,.str "/claim/cut.py" 172⟩,⟨ak P "__cached__",.str "__cached__" 174,.none⟩,⟨ak P "KinError",.str "KinError" 206,.ref 24⟩,⟨ak P "Clash",.str "Clash" 235,.ref 44⟩,⟨ak P "NoTable",.str "NoTable" 251,.ref 56⟩,⟨ak P "NoName",.str "NoName" 267,.ref 68⟩,⟨ak P "NoReading",.str "NoReading" 283,.ref 80⟩,⟨ak P "Twice",.str "Twice" 299,.ref 92⟩,⟨ak P "LETTERS",.str "LETTERS" 303,.str "abcdefghijklmnopqrstuvwxyz" 302⟩,⟨ak P "LONGEST_NAME",.str "LONGEST_NAME" 305,.int 8 304⟩,⟨ak P "MOST_PLACES",.str "MOST_PLACES" 307,.int 60 306⟩,⟨ak P "MOST_COPIES",.str "MOST_COPIES" 309,.int 40 308⟩,⟨ak P "is_whole",.str "is_whole" 316,.ref 101⟩,⟨ak P "is_name",.str "is_name" 322,.ref 106⟩,⟨ak P "is_reading",.str "is_reading" 329,.ref 113⟩,⟨ak P "are_readings",.str "are_readings" 335,.ref 118⟩,⟨ak P "is_copy",.str "is_copy" 342,.ref 125⟩,⟨ak P "is_table",.str "is_table" 348,.ref 130⟩,⟨ak P "need_table",.str "need_table" 355,.ref 137⟩,⟨ak P "need_name",.str "need_name" 361,.ref 142⟩,⟨ak P "table_list",.str "table_list" 367,.ref 147⟩,⟨ak P "with_copy",.str "with_copy" 373,.ref 152⟩,⟨ak P "without_copy",.str "without_copy" 379,.ref 157⟩,⟨ak P "place_count",.str "place_count" 386,.ref 164⟩,⟨ak P "KINDS",.str "KINDS" 397,.ref 169⟩,⟨ak P "first_of_kinds",.str "first_of_kinds" 403,.ref 174⟩,⟨ak P "clash",.str "clash" 415,.ref 181⟩,⟨ak P "refuse_clash",.str "refuse_clash" 423,.ref 188⟩,⟨ak P "group_at",.str "group_at" 437,.ref 195⟩,⟨ak P "turned",.str "turned" 443,.ref 200⟩,⟨ak P "grown",.str "grown" 449,.ref 205⟩,⟨ak P "tree",.str "tree" 457,.ref 212⟩,⟨ak P "tree_trees",.str "tree_trees" 458,.ref 212⟩,⟨ak P "Shelf",.str "Shelf" 520,.ref 257⟩,⟨ak P "_law_drawn",.str "_law_drawn" 530,.ref 268⟩,⟨ak P "_law_truths",.str "_law_truths" 543,.ref 275⟩,⟨ak P "_law_no_name",.str "_law_no_name" 550,.ref 282⟩,⟨ak P "_law_no_readings",.str "_law_no_readings" 558,.ref 289⟩,⟨ak P "law",.str "law" 570,.ref 296⟩] 46),#[]⟩)::
 (nat_lit 23,⟨.type "dict",none,(.dict #[⟨ak P "__module__",.str "__module__" 196,.str "copykin.errors" 187⟩,⟨ak P "__firstlineno__",.str "__firstlineno__" 200,.int 2 199⟩,⟨ak P "__static_attributes__",.str "__static_attributes__" 201,.ref 22⟩,⟨ak P "__weakref__",.str "__weakref__" 203,.ref 25⟩,⟨ak P "__doc__",.str "__doc__" 204,.none⟩] 3),#[]⟩)::
 (nat_lit 24,⟨.type "type",none,(.cls {name:="KinError",bases:=[.type "ValueError"],mro:=[.ref 24,.type "ValueError",.type "Exception",.type "BaseException",.type "object"],ns:=23,qualname:="KinError",hasDict:=true,slotNames:=[],subclasses:=[.ref 44,.ref 56,.ref 68,.ref 80,.ref 92],abstract:=false,collection:=none,hasDel:=false}),#[(some (.ref 15)),none,(some (.str "KinError" 189)),(some (.str "KinError" 197)),(some (.builtin "ValueError.__new__")),(some (.bool true))]⟩)::
 (nat_lit 40,⟨.type "code",none,(.fields #[.str "__init__" 219,.str "Clash.__init__" 220,.str "/claim/cut.py" 221,.int 6 0,.int 4 0,.int 0 0,.int 0 0,.int 3 0,.ref 35,.bool true,.int 181 0,.ref 36,.none,.ref 37,.ref 38,.ref 39,.int 226 0,.int 6 0,.str "/claim/cut.py" 227]),#[]⟩)::
 (nat_lit 41,⟨.type "function",none,(.func (aC "__init__" "Clash.__init__" (bu (cU 2 0)) (aU (cU 2 0)) (aG (cU 2 0)) .none .none .none (.str "copykin.errors" 187) none (.ref 40) .none)),#[]⟩)::
 (nat_lit 43,⟨.type "dict",none,(.dict #[⟨ak P "__module__",.str "__module__" 214,.str "copykin.errors" 187⟩,⟨ak P "__firstlineno__",.str "__firstlineno__" 218,.int 4 217⟩,⟨ak P "__init__",.str "__init__" 228,.ref 41⟩,⟨ak P "__static_attributes__",.str "__static_attributes__" 232,.ref 42⟩,⟨ak P "__doc__",.str "__doc__" 233,.none⟩] 2),#[]⟩)::
 (nat_lit 44,⟨.type "type",none,(.cls {name:="Clash",bases:=[.ref 24],mro:=[.ref 44,.ref 24,.type "ValueError",.type "Exception",.type "BaseException",.type "object"],ns:=43,qualname:="Clash",hasDict:=true,slotNames:=[],subclasses:=[],abstract:=false,collection:=none,hasDel:=false}),#[(some (.ref 28)),none,(some (.str "Clash" 207)),(some (.str "Clash" 215)),(some (.builtin "ValueError.__new__")),(some (.bool true))]⟩)::
 (nat_lit 55,⟨.type "dict",none,(.dict #[⟨ak P "__module__",.str "__module__" 243,.str "copykin.errors" 187⟩,⟨ak P "__firstlineno__",.str "__firstlineno__" 247,.int 11 246⟩,⟨ak P "__static_attributes__",.str "__static_attributes__" 248,.ref 54⟩,⟨ak P "__doc__",.str "__doc__" 249,.none⟩] 2),#[]⟩)::
 (nat_lit 56,⟨.type "type",none,(.cls {name:="NoTable",bases:=[.ref 24],mro:=[.ref 56,.ref 24,.type "ValueError",.type "Exception",.type "BaseException",.type "object"],ns:=55,qualname:="NoTable",hasDict:=true,slotNames:=[],subclasses:=[],abstract:=false,collection:=none,hasDel:=false}),#[(some (.ref 47)),none,(some (.str "NoTable" 236)),(some (.str "NoTable" 244)),(some (.builtin "ValueError.__new__")),(some (.bool true))]⟩)::
 (nat_lit 67,⟨.type "dict",none,(.dict #[⟨ak P "__module__",.str "__module__" 259,.str "copykin.errors" 187⟩,⟨ak P "__firstlineno__",.str "__firstlineno__" 263,.int 13 262⟩,⟨ak P "__static_attributes__",.str "__static_attributes__" 264,.ref 66⟩,⟨ak P "__doc__",.str "__doc__" 265,.none⟩] 2),#[]⟩)::
 (nat_lit 68,⟨.type "type",none,(.cls {name:="NoName",bases:=[.ref 24],mro:=[.ref 68,.ref 24,.type "ValueError",.type "Exception",.type "BaseException",.type "object"],ns:=67,qualname:="NoName",hasDict:=true,slotNames:=[],subclasses:=[],abstract:=false,collection:=none,hasDel:=false}),#[(some (.ref 59)),none,(some (.str "NoName" 252)),(some (.str "NoName" 260)),(some (.builtin "ValueError.__new__")),(some (.bool true))]⟩)::
 (nat_lit 79,⟨.type "dict",none,(.dict #[⟨ak P "__module__",.str "__module__" 275,.str "copykin.errors" 187⟩,⟨ak P "__firstlineno__",.str "__firstlineno__" 279,.int 15 278⟩,⟨ak P "__static_attributes__",.str "__static_attributes__" 280,.ref 78⟩,⟨ak P "__doc__",.str "__doc__" 281,.none⟩] 2),#[]⟩)::
 (nat_lit 80,⟨.type "type",none,(.cls {name:="NoReading",bases:=[.ref 24],mro:=[.ref 80,.ref 24,.type "ValueError",.type "Exception",.type "BaseException",.type "object"],ns:=79,qualname:="NoReading",hasDict:=true,slotNames:=[],subclasses:=[],abstract:=false,collection:=none,hasDel:=false}),#[(some (.ref 71)),none,(some (.str "NoReading" 268)),(some (.str "NoReading" 276)),(some (.builtin "ValueError.__new__")),(some (.bool true))]⟩)::
 (nat_lit 91,⟨.type "dict",none,(.dict #[⟨ak P "__module__",.str "__module__" 291,.str "copykin.errors" 187⟩,⟨ak P "__firstlineno__",.str "__firstlineno__" 295,.int 17 294⟩,⟨ak P "__static_attributes__",.str "__static_attributes__" 296,.ref 90⟩,⟨ak P "__doc__",.str "__doc__" 297,.none⟩] 2),#[]⟩)::
 (nat_lit 92,⟨.type "type",none,(.cls {name:="Twice",bases:=[.ref 24],mro:=[.ref 92,.ref 24,.type "ValueError",.type "Exception",.type "BaseException",.type "object"],ns:=91,qualname:="Twice",hasDict:=true,slotNames:=[],subclasses:=[],abstract:=false,collection:=none,hasDel:=false}),#[(some (.ref 83)),none,(some (.str "Twice" 284)),(some (.str "Twice" 292)),(some (.builtin "ValueError.__new__")),(some (.bool true))]⟩)::
 (nat_lit 100,⟨.type "code",none,(.fields #[.str "is_whole" 310,.str "is_whole" 311,.str "/claim/cut.py" 312,.int 24 0,.int 1 0,.int 0 0,.int 0 0,.int 3 0,.ref 95,.bool true,.int 181 0,.ref 96,.none,.ref 97,.ref 98,.ref 99,.int 314 0,.int 24 0,.str "/claim/cut.py" 315]),#[]⟩)::
 (nat_lit 101,⟨.type "function",none,(.func (aC "is_whole" "is_whole" (bu (top 12)) (aU (top 12)) (aG (top 12)) .none .none .none (.str "copykin.tables" 300) none (.ref 100) .none)),#[]⟩)::
 (nat_lit 105,⟨.type "code",none,(.fields #[.str "is_name" 317,.str "is_name" 318,.str "/claim/cut.py" 319,.int 26 0,.int 1 0,.int 0 0,.int 0 0,.int 3 0,.ref 102,.bool true,.int 181 0,.ref 103,.none,.none,.none,.ref 104,.int 320 0,.int 26 0,.str "/claim/cut.py" 321]),#[]⟩)::
 (nat_lit 106,⟨.type "function",none,(.func (aC "is_name" "is_name" (bu (top 13)) (aU (top 13)) (aG (top 13)) .none .none .none (.str "copykin.tables" 300) none (.ref 105) .none)),#[]⟩)::
 (nat_lit 112,⟨.type "code",none,(.fields #[.str "is_reading" 323,.str "is_reading" 324,.str "/claim/cut.py" 325,.int 32 0,.int 1 0,.int 0 0,.int 0 0,.int 3 0,.ref 107,.bool true,.int 181 0,.ref 108,.none,.ref 109,.ref 110,.ref 111,.int 327 0,.int 32 0,.str "/claim/cut.py" 328]),#[]⟩)::
 (nat_lit 113,⟨.type "function",none,(.func (aC "is_reading" "is_reading" (bu (top 14)) (aU (top 14)) (aG (top 14)) .none .none .none (.str "copykin.tables" 300) none (.ref 112) .none)),#[]⟩)::
 (nat_lit 117,⟨.type "code",none,(.fields #[.str "are_readings" 330,.str "are_readings" 331,.str "/claim/cut.py" 332,.int 34 0,.int 1 0,.int 0 0,.int 0 0,.int 3 0,.ref 114,.bool true,.int 181 0,.ref 115,.none,.none,.none,.ref 116,.int 333 0,.int 34 0,.str "/claim/cut.py" 334]),#[]⟩)::
 (nat_lit 118,⟨.type "function",none,(.func (aC "are_readings" "are_readings" (bu (top 15)) (aU (top 15)) (aG (top 15)) .none .none .none (.str "copykin.tables" 300) none (.ref 117) .none)),#[]⟩)::
 (nat_lit 124,⟨.type "code",none,(.fields #[.str "is_copy" 336,.str "is_copy" 337,.str "/claim/cut.py" 338,.int 38 0,.int 1 0,.int 0 0,.int 0 0,.int 3 0,.ref 119,.bool true,.int 181 0,.ref 120,.none,.ref 121,.ref 122,.ref 123,.int 340 0,.int 38 0,.str "/claim/cut.py" 341]),#[]⟩)::
 (nat_lit 125,⟨.type "function",none,(.func (aC "is_copy" "is_copy" (bu (top 16)) (aU (top 16)) (aG (top 16)) .none .none .none (.str "copykin.tables" 300) none (.ref 124) .none)),#[]⟩)::
 (nat_lit 129,⟨.type "code",none,(.fields #[.str "is_table" 343,.str "is_table" 344,.str "/claim/cut.py" 345,.int 42 0,.int 1 0,.int 0 0,.int 0 0,.int 3 0,.ref 126,.bool true,.int 181 0,.ref 127,.none,.none,.none,.ref 128,.int 346 0,.int 42 0,.str "/claim/cut.py" 347]),#[]⟩)::
 (nat_lit 130,⟨.type "function",none,(.func (aC "is_table" "is_table" (bu (top 17)) (aU (top 17)) (aG (top 17)) .none .none .none (.str "copykin.tables" 300) none (.ref 129) .none)),#[]⟩)::
 (nat_lit 136,⟨.type "code",none,(.fields #[.str "need_table" 349,.str "need_table" 350,.str "/claim/cut.py" 351,.int 50 0,.int 1 0,.int 0 0,.int 0 0,.int 3 0,.ref 131,.bool true,.int 181 0,.ref 132,.none,.ref 133,.ref 134,.ref 135,.int 353 0,.int 50 0,.str "/claim/cut.py" 354]),#[]⟩)::
 (nat_lit 137,⟨.type "function",none,(.func (aC "need_table" "need_table" (bu (top 18)) (aU (top 18)) (aG (top 18)) .none .none .none (.str "copykin.tables" 300) none (.ref 136) .none)),#[]⟩)::
 (nat_lit 141,⟨.type "code",none,(.fields #[.str "need_name" 356,.str "need_name" 357,.str "/claim/cut.py" 358,.int 53 0,.int 2 0,.int 0 0,.int 0 0,.int 3 0,.ref 138,.bool true,.int 181 0,.ref 139,.none,.none,.none,.ref 140,.int 359 0,.int 53 0,.str "/claim/cut.py" 360]),#[]⟩)::
 (nat_lit 142,⟨.type "function",none,(.func (aC "need_name" "need_name" (bu (top 19)) (aU (top 19)) (aG (top 19)) .none .none .none (.str "copykin.tables" 300) none (.ref 141) .none)),#[]⟩)::
 (nat_lit 146,⟨.type "code",none,(.fields #[.str "table_list" 362,.str "table_list" 363,.str "/claim/cut.py" 364,.int 57 0,.int 1 0,.int 0 0,.int 0 0,.int 3 0,.ref 143,.bool true,.int 181 0,.ref 144,.none,.none,.none,.ref 145,.int 365 0,.int 57 0,.str "/claim/cut.py" 366]),#[]⟩)::
 (nat_lit 147,⟨.type "function",none,(.func (aC "table_list" "table_list" (bu (top 20)) (aU (top 20)) (aG (top 20)) .none .none .none (.str "copykin.tables" 300) none (.ref 146) .none)),#[]⟩)::
 (nat_lit 151,⟨.type "code",none,(.fields #[.str "with_copy" 368,.str "with_copy" 369,.str "/claim/cut.py" 370,.int 61 0,.int 3 0,.int 0 0,.int 0 0,.int 3 0,.ref 148,.bool true,.int 181 0,.ref 149,.none,.none,.none,.ref 150,.int 371 0,.int 61 0,.str "/claim/cut.py" 372]),#[]⟩)::
 (nat_lit 152,⟨.type "function",none,(.func (aC "with_copy" "with_copy" (bu (top 21)) (aU (top 21)) (aG (top 21)) .none .none .none (.str "copykin.tables" 300) none (.ref 151) .none)),#[]⟩)::
 (nat_lit 156,⟨.type "code",none,(.fields #[.str "without_copy" 374,.str "without_copy" 375,.str "/claim/cut.py" 376,.int 67 0,.int 2 0,.int 0 0,.int 0 0,.int 3 0,.ref 153,.bool true,.int 181 0,.ref 154,.none,.none,.none,.ref 155,.int 377 0,.int 67 0,.str "/claim/cut.py" 378]),#[]⟩)::
 (nat_lit 157,⟨.type "function",none,(.func (aC "without_copy" "without_copy" (bu (top 22)) (aU (top 22)) (aG (top 22)) .none .none .none (.str "copykin.tables" 300) none (.ref 156) .none)),#[]⟩)::
 (nat_lit 163,⟨.type "code",none,(.fields #[.str "place_count" 380,.str "place_count" 381,.str "/claim/cut.py" 382,.int 70 0,.int 1 0,.int 0 0,.int 0 0,.int 3 0,.ref 158,.bool true,.int 181 0,.ref 159,.none,.ref 160,.ref 161,.ref 162,.int 384 0,.int 70 0,.str "/claim/cut.py" 385]),#[]⟩)::
 (nat_lit 164,⟨.type "function",none,(.func (aC "place_count" "place_count" (bu (top 23)) (aU (top 23)) (aG (top 23)) .none .none .none (.str "copykin.tables" 300) none (.ref 163) .none)),#[]⟩)::
 (nat_lit 165,⟨.type "tuple",none,(.seq #[.int 0 389,.int 0 390] 0),#[]⟩)::
 (nat_lit 166,⟨.type "tuple",none,(.seq #[.int 0 391,.int 1 392] 0),#[]⟩)::
 (nat_lit 167,⟨.type "tuple",none,(.seq #[.int 1 393,.int 0 394] 0),#[]⟩)::
 (nat_lit 168,⟨.type "tuple",none,(.seq #[.int 1 395,.int 1 396] 0),#[]⟩)::
 (nat_lit 169,⟨.type "tuple",none,(.seq #[.ref 165,.ref 166,.ref 167,.ref 168] 0),#[]⟩)::
 (nat_lit 173,⟨.type "code",none,(.fields #[.str "first_of_kinds" 398,.str "first_of_kinds" 399,.str "/claim/cut.py" 400,.int 77 0,.int 3 0,.int 0 0,.int 0 0,.int 3 0,.ref 170,.bool true,.int 181 0,.ref 171,.none,.none,.none,.ref 172,.int 401 0,.int 77 0,.str "/claim/cut.py" 402]),#[]⟩)::
 (nat_lit 174,⟨.type "function",none,(.func (aC "first_of_kinds" "first_of_kinds" (bu (top 26)) (aU (top 26)) (aG (top 26)) .none .none .none (.str "copykin.clashes" 387) none (.ref 173) .none)),#[]⟩)::
 (nat_lit 180,⟨.type "code",none,(.fields #[.str "clash" 404,.str "clash" 405,.str "/claim/cut.py" 406,.int 84 0,.int 1 0,.int 0 0,.int 0 0,.int 3 0,.ref 175,.bool true,.int 181 0,.ref 176,.none,.ref 177,.ref 178,.ref 179,.int 413 0,.int 84 0,.str "/claim/cut.py" 414]),#[]⟩)::
 (nat_lit 181,⟨.type "function",none,(.func (aC "clash" "clash" (bu (top 27)) (aU (top 27)) (aG (top 27)) .none .none .none (.str "copykin.clashes" 387) none (.ref 180) .none)),#[]⟩)::
 (nat_lit 187,⟨.type "code",none,(.fields #[.str "refuse_clash" 416,.str "refuse_clash" 417,.str "/claim/cut.py" 418,.int 93 0,.int 1 0,.int 0 0,.int 0 0,.int 3 0,.ref 182,.bool true,.int 181 0,.ref 183,.none,.ref 184,.ref 185,.ref 186,.int 421 0,.int 93 0,.str "/claim/cut.py" 422]),#[]⟩)::
 (nat_lit 188,⟨.type "function",none,(.func (aC "refuse_clash" "refuse_clash" (bu (top 28)) (aU (top 28)) (aG (top 28)) .none .none .none (.str "copykin.clashes" 387) none (.ref 187) .none)),#[]⟩)::
 (nat_lit 194,⟨.type "code",none,(.fields #[.str "group_at" 426,.str "group_at" 427,.str "/claim/cut.py" 428,.int 98 0,.int 2 0,.int 0 0,.int 0 0,.int 3 0,.ref 189,.bool true,.int 181 0,.ref 190,.none,.ref 191,.ref 192,.ref 193,.int 435 0,.int 98 0,.str "/claim/cut.py" 436]),#[]⟩)::
 (nat_lit 195,⟨.type "function",none,(.func (aC "group_at" "group_at" (bu (top 30)) (aU (top 30)) (aG (top 30)) .none .none .none (.str "copykin.trees" 424) none (.ref 194) .none)),#[]⟩)::
 (nat_lit 199,⟨.type "code",none,(.fields #[.str "turned" 438,.str "turned" 439,.str "/claim/cut.py" 440,.int 104 0,.int 2 0,.int 0 0,.int 0 0,.int 3 0,.ref 196,.bool true,.int 181 0,.ref 197,.none,.none,.none,.ref 198,.int 441 0,.int 104 0,.str "/claim/cut.py" 442]),#[]⟩)::
 (nat_lit 200,⟨.type "function",none,(.func (aC "turned" "turned" (bu (top 31)) (aU (top 31)) (aG (top 31)) .none .none .none (.str "copykin.trees" 424) none (.ref 199) .none)),#[]⟩)::
 (nat_lit 204,⟨.type "code",none,(.fields #[.str "grown" 444,.str "grown" 445,.str "/claim/cut.py" 446,.int 106 0,.int 1 0,.int 0 0,.int 0 0,.int 3 0,.ref 201,.bool true,.int 181 0,.ref 202,.none,.none,.none,.ref 203,.int 447 0,.int 106 0,.str "/claim/cut.py" 448]),#[]⟩)::
 (nat_lit 205,⟨.type "function",none,(.func (aC "grown" "grown" (bu (top 32)) (aU (top 32)) (aG (top 32)) .none .none .none (.str "copykin.trees" 424) none (.ref 204) .none)),#[]⟩)::
 (nat_lit 211,⟨.type "code",none,(.fields #[.str "tree" 450,.str "tree" 451,.str "/claim/cut.py" 452,.int 121 0,.int 1 0,.int 0 0,.int 0 0,.int 3 0,.ref 206,.bool true,.int 181 0,.ref 207,.none,.ref 208,.ref 209,.ref 210,.int 455 0,.int 121 0,.str "/claim/cut.py" 456]),#[]⟩)::
 (nat_lit 212,⟨.type "function",none,(.func (aC "tree" "tree" (bu (top 33)) (aU (top 33)) (aG (top 33)) .none .none .none (.str "copykin.trees" 424) none (.ref 211) .none)),#[]⟩)::
 (nat_lit 225,⟨.type "code",none,(.fields #[.str "__init__" 473,.str "Shelf.__init__" 474,.str "/claim/cut.py" 475,.int 131 0,.int 1 0,.int 0 0,.int 0 0,.int 3 0,.ref 220,.bool true,.int 181 0,.ref 221,.none,.ref 222,.ref 223,.ref 224,.int 477 0,.int 131 0,.str "/claim/cut.py" 478]),#[]⟩)::
 (nat_lit 226,⟨.type "function",none,(.func (aC "__init__" "Shelf.__init__" (bu (cU 36 0)) (aU (cU 36 0)) (aG (cU 36 0)) .none .none .none (.str "copykin.shelf" 459) none (.ref 225) .none)),#[]⟩)::
 (nat_lit 232,⟨.type "code",none,(.fields #[.str "put" 480,.str "Shelf.put" 481,.str "/claim/cut.py" 482,.int 134 0,.int 3 0,.int 0 0,.int 0 0,.int 3 0,.ref 227,.bool true,.int 181 0,.ref 228,.none,.ref 229,.ref 230,.ref 231,.int 487 0,.int 134 0,.str "/claim/cut.py" 488]),#[]⟩)::
 (nat_lit 233,⟨.type "function",none,(.func (aC "put" "Shelf.put" (bu (cU 36 1)) (aU (cU 36 1)) (aG (cU 36 1)) .none .none .none (.str "copykin.shelf" 459) none (.ref 232) .none)),#[]⟩)::
 (nat_lit 239,⟨.type "code",none,(.fields #[.str "off" 490,.str "Shelf.off" 491,.str "/claim/cut.py" 492,.int 143 0,.int 2 0,.int 0 0,.int 0 0,.int 3 0,.ref 234,.bool true,.int 181 0,.ref 235,.none,.ref 236,.ref 237,.ref 238,.int 495 0,.int 143 0,.str "/claim/cut.py" 496]),#[]⟩)::
 (nat_lit 240,⟨.type "function",none,(.func (aC "off" "Shelf.off" (bu (cU 36 2)) (aU (cU 36 2)) (aG (cU 36 2)) .none .none .none (.str "copykin.shelf" 459) none (.ref 239) .none)),#[]⟩)::
 (nat_lit 246,⟨.type "code",none,(.fields #[.str "table" 498,.str "Shelf.table" 499,.str "/claim/cut.py" 500,.int 146 0,.int 1 0,.int 0 0,.int 0 0,.int 3 0,.ref 241,.bool true,.int 181 0,.ref 242,.none,.ref 243,.ref 244,.ref 245,.int 502 0,.int 146 0,.str "/claim/cut.py" 503]),#[]⟩)::
 (nat_lit 247,⟨.type "function",none,(.func (aC "table" "Shelf.table" (bu (cU 36 3)) (aU (cU 36 3)) (aG (cU 36 3)) .none .none .none (.str "copykin.shelf" 459) none (.ref 246) .none)),#[]⟩)::
 (nat_lit 253,⟨.type "code",none,(.fields #[.str "tree" 505,.str "Shelf.tree" 506,.str "/claim/cut.py" 507,.int 149 0,.int 1 0,.int 0 0,.int 0 0,.int 3 0,.ref 248,.bool true,.int 181 0,.ref 249,.none,.ref 250,.ref 251,.ref 252,.int 509 0,.int 149 0,.str "/claim/cut.py" 510]),#[]⟩)::
 (nat_lit 254,⟨.type "function",none,(.func (aC "tree" "Shelf.tree" (bu (cU 36 4)) (aU (cU 36 4)) (aG (cU 36 4)) .none .none .none (.str "copykin.shelf" 459) none (.ref 253) .none)),#[]⟩)::
 (nat_lit 256,⟨.type "dict",none,(.dict #[⟨ak P "__module__",.str "__module__" 468,.str "copykin.shelf" 459⟩,⟨ak P "__firstlineno__",.str "__firstlineno__" 472,.int 129 471⟩,⟨ak P "__init__",.str "__init__" 479,.ref 226⟩,⟨ak P "put",.str "put" 489,.ref 233⟩,⟨ak P "off",.str "off" 497,.ref 240⟩,⟨ak P "table",.str "table" 504,.ref 247⟩,⟨ak P "tree",.str "tree" 511,.ref 254⟩,⟨ak P "__static_attributes__",.str "__static_attributes__" 513,.ref 255⟩,⟨ak P "__dict__",.str "__dict__" 515,.ref 258⟩,⟨ak P "__weakref__",.str "__weakref__" 517,.ref 259⟩,⟨ak P "__doc__",.str "__doc__" 518,.none⟩] 4),#[]⟩)::
 (nat_lit 257,⟨.type "type",none,(.cls {name:="Shelf",bases:=[.type "object"],mro:=[.ref 257,.type "object"],ns:=256,qualname:="Shelf",hasDict:=true,slotNames:=[],subclasses:=[],abstract:=false,collection:=none,hasDel:=false}),#[none,none,(some (.str "Shelf" 461)),(some (.str "Shelf" 469)),(some (.builtin "object.__new__")),(some (.bool true))]⟩)::
 (nat_lit 267,⟨.type "code",none,(.fields #[.str "_law_drawn" 523,.str "_law_drawn" 524,.str "/claim/cut.py" 525,.int 152 0,.int 2 0,.int 0 0,.int 0 0,.int 3 0,.ref 262,.bool true,.int 181 0,.ref 263,.none,.ref 264,.ref 265,.ref 266,.int 528 0,.int 152 0,.str "/claim/cut.py" 529]),#[]⟩)::
 (nat_lit 268,⟨.type "function",none,(.func (aC "_law_drawn" "_law_drawn" (bu (top 38)) (aU (top 38)) (aG (top 38)) .none .none .none (.str "law_copykin_k82_shelf_refuses" 521) none (.ref 267) .none)),#[]⟩)::
 (nat_lit 274,⟨.type "code",none,(.fields #[.str "_law_truths" 531,.str "_law_truths" 532,.str "/claim/cut.py" 533,.int 154 0,.int 4 0,.int 0 0,.int 0 0,.int 3 0,.ref 269,.bool true,.int 181 0,.ref 270,.none,.ref 271,.ref 272,.ref 273,.int 541 0,.int 154 0,.str "/claim/cut.py" 542]),#[]⟩)::
 (nat_lit 275,⟨.type "function",none,(.func (aC "_law_truths" "_law_truths" (bu (top 39)) (aU (top 39)) (aG (top 39)) .none .none .none (.str "law_copykin_k82_shelf_refuses" 521) none (.ref 274) .none)),#[]⟩)::
 (nat_lit 281,⟨.type "code",none,(.fields #[.str "_law_no_name" 544,.str "_law_no_name" 545,.str "/claim/cut.py" 546,.int 167 0,.int 1 0,.int 0 0,.int 0 0,.int 3 0,.ref 276,.bool true,.int 181 0,.ref 277,.none,.ref 278,.ref 279,.ref 280,.int 548 0,.int 167 0,.str "/claim/cut.py" 549]),#[]⟩)::
 (nat_lit 282,⟨.type "function",none,(.func (aC "_law_no_name" "_law_no_name" (bu (top 40)) (aU (top 40)) (aG (top 40)) .none .none .none (.str "law_copykin_k82_shelf_refuses" 521) none (.ref 281) .none)),#[]⟩)::
 (nat_lit 288,⟨.type "code",none,(.fields #[.str "_law_no_readings" 551,.str "_law_no_readings" 552,.str "/claim/cut.py" 553,.int 169 0,.int 1 0,.int 0 0,.int 0 0,.int 3 0,.ref 283,.bool true,.int 181 0,.ref 284,.none,.ref 285,.ref 286,.ref 287,.int 556 0,.int 169 0,.str "/claim/cut.py" 557]),#[]⟩)::
 (nat_lit 289,⟨.type "function",none,(.func (aC "_law_no_readings" "_law_no_readings" (bu (top 41)) (aU (top 41)) (aG (top 41)) .none .none .none (.str "law_copykin_k82_shelf_refuses" 521) none (.ref 288) .none)),#[]⟩)::
 (nat_lit 295,⟨.type "code",none,(.fields #[.str "law" 559,.str "law" 560,.str "/claim/cut.py" 561,.int 172 0,.int 1 0,.int 0 0,.int 0 0,.int 3 0,.ref 290,.bool true,.int 181 0,.ref 291,.none,.ref 292,.ref 293,.ref 294,.int 568 0,.int 172 0,.str "/claim/cut.py" 569]),#[]⟩)::
 (nat_lit 296,⟨.type "function",none,(.func (aC "law" "law" (bu (top 42)) (aU (top 42)) (aG (top 42)) .none .none .none (.str "law_copykin_k82_shelf_refuses" 521) none (.ref 295) .none)),#[]⟩)::[]
noncomputable def yo:List Addr:=[2,3,23,24,40,41,43,44,55,56,67,68,79,80,91,92,100,101,105,106,112,113,117,118,124,125,129,130,136,137,141,142,146,147,151,152,156,157,163,164,165,166,167,168,169,173,174,180,181,187,188,194,195,199,200,204,205,211,212,225,226,232,233,239,240,246,247,253,254,256,257,267,268,274,275,281,282,288,289,295,296]
noncomputable def lhsB(w:World):=(G4 treeTable PySem.Challenge.pw_copykin_k82_shelf_refuses w 5032).map (zj (jj K82.yn K82.yo (fun _=>by kernel_rfl) [144]))
noncomputable def rhsB(w:World):=some (zi (jj K82.yn K82.yo (fun _=>by kernel_rfl) [144]) w)
theorem laidB:(seen lhsB&&seen rhsB)=true:=by k_qdec
theorem leftB(w:World):lhsB w=rhsB w:=by
 have _:=laidB;rw[PySem.W.Fast.te428457270258332093,PySem.W.Fast.te10360179309799136567]
 kernel_rfl
theorem Bo{us:List Value}(h:us.length=4):∃a b c d,us=[a,b,c,d]:=by
 cases us with
 |nil=>exact nomatch h
 |cons a r=>
  obtain⟨b,c,d,e⟩:=Kc.nQ (o5 h);exact⟨a,b,c,d,by rw[e]⟩
noncomputable def FP(st:Stmt):Pos:=match aU st with
 |_::.Assign _ (.Call _ _ [⟨_,.Lambda _ _ _ p,_⟩] _) _::_=>p
 |_=>⟨0,0,0,0⟩
noncomputable def tb(p:Addr):Tb:=⟨p,FP (top 20),"table_list.<locals>.<lambda>"⟩
theorem tl_ok:(jZ iI nY (aG (top 20))&&chkK (aG (top 20)) iI jO 1 (.var 0) "copy" (FP (top 20)) jN (aU (top 20)))=true:=by decide+kernel
theorem tl_q:("table_list":Str)++".<locals>."++"<lambda>"="table_list.<locals>.<lambda>":=by decide+kernel
noncomputable def vals(C CE CN CC CR CT CS kd:Addr):List (Str×V):=[("LETTERS",.str LETTERS),("LONGEST_NAME",.int 8),("MOST_PLACES",.int 60),("MOST_COPIES",.int 40),("NoTable",.ref C),("KinError",.ref CE),("NoName",.ref CN),("Clash",.ref CC),("NoReading",.ref CR),("Twice",.ref CT),("Shelf",.ref CS),("KINDS",.ref kd)]
theorem qG{K:ae}{a:Addr}{od:Option Addr}{n:Nat}{sl:Array (Option Value)}{i j:Int}{t u:Tok}(l:K.lookup a=some ⟨.type "tuple",od,.seq #[.int i t,.int j u] n,sl⟩)(H:Hp):SqT K H a [.int i,.int j]:=
 .inr ⟨_,_,_,l,rfl,rfl,by show 2<=sizeLine;decide,.cons ⟨t,rfl⟩ (.cons ⟨u,rfl⟩ .nil)⟩
theorem FV{K:ae}{kd a0 a1 a2 a3:Addr}{od o0 o1 o2 o3:Option Addr}{n n0 n1 n2 n3:Nat}{sl s0 s1 s2 s3:Array (Option Value)}{t0 t1 t2 t3 u0 u1 u2 u3:Tok}(l:K.lookup kd=some ⟨.type "tuple",od,.seq #[.ref a0,.ref a1,.ref a2,.ref a3] n,sl⟩)
  (l0:K.lookup a0=some ⟨.type "tuple",o0,.seq #[.int 0 t0,.int 0 u0] n0,s0⟩)(l1:K.lookup a1=some ⟨.type "tuple",o1,.seq #[.int 0 t1,.int 1 u1] n1,s1⟩)(l2:K.lookup a2=some ⟨.type "tuple",o2,.seq #[.int 1 t2,.int 0 u2] n2,s2⟩)(l3:K.lookup a3=some ⟨.type "tuple",o3,.seq #[.int 1 t3,.int 1 u3] n3,s3⟩):Kc.Kinds K kd:=
 ⟨a0,a1,a2,a3,fun H=>⟨.inr ⟨_,_,_,l,rfl,rfl,by show 4<=sizeLine;decide,.cons rfl (.cons rfl (.cons rfl (.cons rfl .nil)))⟩,qG l0 H,qG l1 H,qG l2 H,qG l3 H⟩⟩
theorem oy{K:ae}{C:Addr}{cd:ClassData}(a:cn K (.ref C) "__getattribute__"=some (some (.builtin "BaseException.__getattribute__")))(b:cn K (.ref C) "__getattr__"=some none)(c:cn K (.ref C) "__class__"=some (some (.builtin "object.__class__")))
  (d:pO K (.builtin "object.__class__") "__get__"=some (some (.builtin "getset_descriptor.__get__")))(e:PySem.W.takesIn K (.builtin "object.__class__")=some true)(f:wZ K C (.type "object")=some true)(g:wZ K C (.type "BaseException")=some true)(h:PySem.W.clsIn K C=some cd):lO K C=true:=by
 unfold lO;rw[a,b,c,d,e,f,g,h];simp only[beq_self_eq_true,Bool.and_self,eX]
noncomputable def wO(K:ae)(x:Str)(st:Stmt)(c p:Addr):Prop:=∃(f:Addr)(oc:Value)(od an:Option Addr)(osl:Array (Option Value))(kV doc pm ct:Value),b9 K bh x=some (some (.ref f))/\
 K.lookup f=some ⟨oc,od,.func (aC x x (bu st) (aU st) (aG st) .none kV doc pm an (.ref c) ct),osl⟩/\cJ K (.ref c) x=true/\bA K (.ref f)=true/\G7 K c p=true
theorem uB{K:ae}{x:Str}{st:Stmt}{f c p:Addr}{oc:Value}{od an:Option Addr}{osl:Array (Option Value)}{kV doc pm ct:Value}(a:b9 K bh x=some (some (.ref f)))
  (l:K.lookup f=some ⟨oc,od,.func (aC x x (bu st) (aU st) (aG st) .none kV doc pm an (.ref c) ct),osl⟩)(k:cJ K (.ref c) x=true)(q:bA K (.ref f)=true)(h:G7 K c p=true):∃c,wO K x st c p:=
 ⟨c,f,oc,od,an,osl,kV,doc,pm,ct,a,l,k,q,h⟩
theorem add_fnK{P:Program}{w:World}{K:ae}{mg:Str->Option Value}{base h:Heap}{k:Nat}{vals:List (Str×V)}{fns:List ((Str×Nat)×(Sp×List V))}{x lx:Str}{st:Stmt}{N ps:List Str}{sp:Sp}{c1:CS}{i:Nat}{ce:R.CE}{c2:CB}{T:Tb}{c:Addr}{inis:List ((Str×Nat)×(Addr×Sp×List V))}{dics:List (Addr×List (Key×V))}
  (g:GOk P w K mg base (CXx P w) k (gam vals fns inis dics))(X:K.In h)(Xb:K.In base)(Gm:h.Ns bh mg)(d:wO K x st c T.P)(hc:(jZ N ps (aG st)&&chkK (aG st) N c1 i ce lx T.pos c2 (aU st))=true)(hq:x++".<locals>."++"<lambda>"=T.q)(hb:BM mg base)
  (hbd:∀(p:Pos)(body:Expr)(scope:Scope)(qual:Str)(pm ctv v:Value)(c':Addr),iR (PySem.W.kla_fn "<lambda>" qual (oo lx p) body scope [] pm (.ref c') ctv) ⟨[v],[]⟩=pure [(lx,v)])
  (hba:∀(kV doc pm:Value)(an:Option Addr)(cdv ct:Value)(us:List Value),us.length=ps.length->iR (aC x x (bu st) (aU st) (aG st) .none kV doc pm an cdv ct) ⟨us,[]⟩=pure (ps.zip us))(len:∀vs H Q E,sp vs H Q E->vs.length=ps.length)
  (hw:∀vs H Q E,sp vs H Q E->td (R.wpS (gam vals fns inis dics) K (fun _=>E) c1) (td (vg (qV K T (wpE (gam vals fns inis dics) K (fun _=>E) ce)) (lL i)) (wpB (gam vals fns inis dics) K (fun _=>E) c2)) {nx:=fun _ H'=>Q .non H',rt:=Q} (L2.start N vs) H):
  GOk P w K mg base (CXx P w) (k+1) (gam vals (((x,ps.length),(sp,[]))::fns) inis dics):=by
 rw[ag]at hc;obtain⟨f,oc,od,an,osl,kV,doc,pm,ct,a,l,q1,q2,q3⟩:=d;have F:=pB l q1 q2;exact g.add (n:=ps.length) (Gk F hc.1 hc.2 rfl (BH Xb q3) hq hb hbd g len hw) (bZ X Gm a) q2 (F.binds hba) .nil
theorem Al{K:ae}{kV doc pm cdv ct:Value}{an:Option Addr}:Binds K (aC "__init__" "Clash.__init__" (bu (cU 2 0)) (aU (cU 2 0)) (aG (cU 2 0)) .none kV doc pm an cdv ct) K32.kN []:=fun s us X hl=>by
 rw[cX]at hl⊢;obtain⟨_,_,_,_,rfl⟩:=Bo hl;exact .of_eq rfl
theorem init_ok:(jZ K32.il K32.kN (aG (cU 2 0))&&jK (aG (cU 2 0)) K32.il K32.iu (aU (cU 2 0)))=true:=by decide+kernel
theorem all_mk{P:Program}{w:World}{K:ae}{h:Heap}{mg:Str->Option Value}{fa p:Addr}(X:K.In h)(Gm:h.Ns bh mg)(hfa:mg "law"=some (.ref fa)){t1 t2 t3 t4:Tok}{C CE CN CC CR CT CS kd fI:Addr}{odI anI:Option Addr}{kVI docI pmI cdI ctI:Value}{slI:Array (Option Value)}
  (v1:b9 K bh "LETTERS"=some (some (.str LETTERS t1)))(v2:b9 K bh "LONGEST_NAME"=some (some (.int 8 t2)))(v3:b9 K bh "MOST_PLACES"=some (some (.int 60 t3)))(v4:b9 K bh "MOST_COPIES"=some (some (.int 40 t4)))(v5:b9 K bh "NoTable"=some (some (.ref C)))(v6:b9 K bh "KinError"=some (some (.ref CE)))(v7:b9 K bh "NoName"=some (some (.ref CN)))(v8:b9 K bh "Clash"=some (some (.ref CC)))(v9:b9 K bh "NoReading"=some (some (.ref CR)))(v10:b9 K bh "Twice"=some (some (.ref CT)))(v11:b9 K bh "Shelf"=some (some (.ref CS)))(v12:b9 K bh "KINDS"=some (some (.ref kd)))
  (xc:XC K C)(xn:XC K CN)(xr:XC K CR)(xt:XC K CT)(ownCS:Ow K CS)(F1:Xt (gam [] []) K CE CN CN CR C CT true false false false)(F2:Xt (gam [] []) K CE CR CN CR C CT false true false false)(F3:Xt (gam [] []) K CE C CN CR C CT false false true false)(F4:Xt (gam [] []) K CE CT CN CR C CT false false false true)(kd0:Kc.Kinds K kd)(mx:ng K CC fI bmV "ValueError.__new__"=true)(kI:bA K (.ref CC)=true)(lI:K.lookup fI=some ⟨.type "function",odI,.func (aC "__init__" "Clash.__init__" (bu (cU 2 0)) (aU (cU 2 0)) (aG (cU 2 0)) .none kVI docI pmI anI cdI ctI),slI⟩)(cI:cJ K cdI "Clash.__init__"=true)(b1:pO K (.ref CE) "__getattribute__"=some (some (.builtin "type.__getattribute__")))(b2:PySem.W.readsIn K CE (.type "type")=true)(b3:PySem.W.findCls K (.ref CE) (.type "type") "__init__"=some (.val (.builtin "ValueError.__init__")))(st1:StX K CC "one")(st2:StX K CC "other")(st3:StX K CC "names")(ha33:R.HasA K "tree_trees" "tree" (top 33))(mkCS:ll K CS=true)(kcCS:bA K (.ref CS)=true)(hm36_0:R.yV K CS "__init__" "Shelf.__init__" (cU 36 0))(hm36_1:R.yV K CS "put" "Shelf.put" (cU 36 1))(hm36_2:R.yV K CS "off" "Shelf.off" (cU 36 2))(hm36_3:R.yV K CS "table" "Shelf.table" (cU 36 3))(hm36_4:R.yV K CS "tree" "Shelf.tree" (cU 36 4))(bl:∀x∈hZ,b9 K bh x=some none)
  (h12:HasFn K "is_whole" (top 12))(h13:HasFn K "is_name" (top 13))(h14:HasFn K "is_reading" (top 14))(h15:HasFn K "are_readings" (top 15))(h16:HasFn K "is_copy" (top 16))(h17:HasFn K "is_table" (top 17))(h18:HasFn K "need_table" (top 18))(h19:HasFn K "need_name" (top 19))(h21:HasFn K "with_copy" (top 21))(h22:HasFn K "without_copy" (top 22))(h23:HasFn K "place_count" (top 23))(h26:HasFn K "first_of_kinds" (top 26))(h27:HasFn K "clash" (top 27))(h28:HasFn K "refuse_clash" (top 28))(h30:HasFn K "group_at" (top 30))(h31:HasFn K "turned" (top 31))(h32:HasFn K "grown" (top 32))(h38:HasFn K "_law_drawn" (top 38))(h39:HasFn K "_law_truths" (top 39))(h40:HasFn K "_law_no_name" (top 40))(h41:HasFn K "_law_no_readings" (top 41))(h20:∃c,wO K "table_list" (top 20) c p)(h42:HasFn K "law" (top 42)):
  ∃fd:dI,(∀(s:Shared)(v:Value),BindsTo s fd ⟨[v],[]⟩ [("_law_script",v)])/\∀base:Heap,K.In base->base.Ns bh mg->BM mg base->fX P w K mg base CX0 32 fa fd ["_law_script"] (fun vs H Q _=>Eg K (tb p) vs H Q E0):=by
 obtain⟨f,oc',od,an,osl,kV,doc,pm,cdv,ct,a,l,c,k⟩:=id h42;have e:=hfa.symm.trans (bZ X Gm a);cases e;obtain⟨cc,h20⟩:=h20;refine⟨aC "law" "law" (bu (top 42)) (aU (top 42)) (aG (top 42)) .none kV doc pm an cdv ct,fun s v=>.of_eq rfl,fun base Xb _ bm=>?_⟩;have hv:∀x v,(x,v)∈vals C CE CN CC CR CT CS kd->∃u,mg x=some u/\RelV v u:=by
  intro x v hm;simp only[vals,aA,bP,or_false,Prod.mk.injEq]at hm;rcases hm with⟨rfl,rfl⟩ |⟨rfl,rfl⟩ |⟨rfl,rfl⟩ |⟨rfl,rfl⟩ |⟨rfl,rfl⟩ |⟨rfl,rfl⟩ |⟨rfl,rfl⟩ |⟨rfl,rfl⟩ |⟨rfl,rfl⟩ |⟨rfl,rfl⟩ |⟨rfl,rfl⟩ |⟨rfl,rfl⟩
  ·exact⟨_,bZ X Gm v1,t1,rfl⟩
  ·exact⟨_,bZ X Gm v2,t2,rfl⟩
  ·exact⟨_,bZ X Gm v3,t3,rfl⟩
  ·exact⟨_,bZ X Gm v4,t4,rfl⟩
  ·exact⟨_,bZ X Gm v5,rfl⟩
  ·exact⟨_,bZ X Gm v6,rfl⟩
  ·exact⟨_,bZ X Gm v7,rfl⟩
  ·exact⟨_,bZ X Gm v8,rfl⟩
  ·exact⟨_,bZ X Gm v9,rfl⟩
  ·exact⟨_,bZ X Gm v10,rfl⟩
  ·exact⟨_,bZ X Gm v11,rfl⟩
  ·exact⟨_,bZ X Gm v12,rfl⟩
 have g0:GOk P w K mg base (CXx P w) 0 (gam (vals C CE CN CC CR CT CS kd) []):=GOk.start hv fun x hx=>PySem.W.mg_none_of X Gm (bl x hx);have g1:=eB (N:=Cp.rM) (ps:=Cp.zW) g0 (h12.def X Gm) (by decide+kernel) (fun _ _ _ _ _ _ us hl=>by obtain⟨_,rfl⟩:=Kc.eO hl;rfl) (sp:=spB isWhole) (fun vs H Q E h=>Kc.bW h fun _ h=>Kc.gB h rfl) xu;have g2:=eB (N:=Cp.uo) (ps:=Cp.Cm) g1 (h13.def X Gm) (by decide+kernel) (fun _ _ _ _ _ _ us hl=>by obtain⟨_,rfl⟩:=Kc.eO hl;rfl) (sp:=spN) (fun vs H Q E h=>Kc.bW h fun _ h=>Kc.gB h rfl) (zt (by kernel_rfl) (by kernel_rfl));have g3:=eB (N:=Cp.oh) (ps:=Cp.vN) g2 (h14.def X Gm) (by decide+kernel) (fun _ _ _ _ _ _ us hl=>by obtain⟨_,rfl⟩:=Kc.eO hl;rfl) (sp:=spB aR) (fun vs H Q E h=>Kc.bW h fun _ h=>Kc.gB h rfl) (sY (by kernel_rfl));have g4:=eB (N:=Cp.lD) (ps:=Cp.rH) g3 (h15.def X Gm) (by decide+kernel) (fun _ _ _ _ _ _ us hl=>by obtain⟨_,rfl⟩:=Kc.eO hl;rfl) (sp:=spR) (fun vs H Q E h=>Kc.bW h fun _ h=>Kc.gB h rfl) (qr (by kernel_rfl) (by kernel_rfl));have g5:=eB (N:=Cp.ur) (ps:=Cp.Cn) g4 (h16.def X Gm) (by decide+kernel) (fun _ _ _ _ _ _ us hl=>by obtain⟨_,rfl⟩:=Kc.eO hl;rfl) (sp:=spC) (fun vs H Q E h=>Kc.bW h fun _ h=>Kc.gB h rfl) (zu (by kernel_rfl) (by kernel_rfl));have g6:=eB (N:=Cp.rN) (ps:=Cp.zX) g5 (h17.def X Gm) (by decide+kernel) (fun _ _ _ _ _ _ us hl=>by obtain⟨_,rfl⟩:=Kc.eO hl;rfl) (sp:=Cp.spT) (fun vs H Q E h=>Kc.bW h fun _ h=>Kc.gB h rfl) (xv (by kernel_rfl) (by kernel_rfl));have g7:=eB (N:=Cp.oa) (ps:=Cp.vL) g6 (h18.def X Gm) (by decide+kernel) (fun _ _ _ _ _ _ us hl=>by obtain⟨_,rfl⟩:=Kc.eO hl;rfl) (sp:=pd C) (fun vs H Q E h=>Kc.bW h fun _ h=>Kc.gB h rfl) (sX (by kernel_rfl) (by kernel_rfl) xc);have g8:=eB (N:=K32.pX) (ps:=K32.xP) g7 (h19.def X Gm) (by decide+kernel) (fun _ _ _ _ _ _ us hl=>by obtain⟨_,_,rfl⟩:=Kc.mZ hl;rfl) (sp:=K32.rg C CN) (fun vs H Q E h=>Kc.bW h fun _ h=>Kc.bW h fun _ h=>Kc.gB h rfl) (K32.BR (C:=C) (CN:=CN) (by kernel_rfl) (by kernel_rfl) (by kernel_rfl) xn);have g9:=add_fnK (T:=tb p) (N:=iI) (ps:=nY) (lx:="copy") g8 X Xb Gm h20 tl_ok tl_q bm (fun _ _ _ _ _ _ _ _=>rfl) (fun _ _ _ _ _ _ us hl=>by obtain⟨_,rfl⟩:=Kc.eO hl;rfl) (sp:=rh C (tb p)) (fun vs H Q E h=>Kc.bW h fun _ h=>Kc.gB h rfl) (sW (C:=C) (by kernel_rfl));have g10:=eB (N:=K82.pW) (ps:=K82.xO) g9 (h21.def X Gm) (by decide+kernel) (fun _ _ _ _ _ _ us hl=>by obtain⟨_,_,_,rfl⟩:=Kc.nQ hl;rfl) (sp:=spWc CT C) (fun vs H Q E h=>Kc.bW h fun _ h=>Kc.bW h fun _ h=>Kc.bW h fun _ h=>Kc.bW h fun _ h=>Kc.bW h fun _ h=>Kc.bW h fun _ h=>Kc.gB h rfl) (wp_wc (C:=C) (CT:=CT) (by kernel_rfl) xt (by kernel_rfl));have g11:=eB (N:=K82.lB) (ps:=K82.rF) g10 (h22.def X Gm) (by decide+kernel) (fun _ _ _ _ _ _ us hl=>by obtain⟨_,_,rfl⟩:=Kc.mZ hl;rfl) (sp:=spWo C CN) (fun vs H Q E h=>Kc.bW h fun _ h=>Kc.bW h fun _ h=>Kc.bW h fun _ h=>Kc.bW h fun _ h=>Kc.gB h rfl) (wp_wo (C:=C) (CN:=CN) (by kernel_rfl));have g12:=eB (N:=Cp.mJ) (ps:=Cp.tu) g11 (h23.def X Gm) (by decide+kernel) (fun _ _ _ _ _ _ us hl=>by obtain⟨_,rfl⟩:=Kc.eO hl;rfl) (sp:=vn C) (fun vs H Q E h=>Kc.bW h fun _ h=>Kc.gB h rfl) (qR (C:=C) (by kernel_rfl));have g13:=eB (N:=Kc.j4) (ps:=Kc.pj) g12 (h26.def X Gm) (by decide+kernel) (fun _ _ _ _ _ _ us hl=>by obtain⟨_,_,_,rfl⟩:=Kc.nQ hl;rfl) (sp:=Kc.vm) (fun vs H Q E h=>Kc.bW h fun _ h=>Kc.bW h fun _ h=>Kc.bW h fun _ h=>Kc.bW h fun _ h=>Kc.bW h fun _ h=>Kc.gB h rfl) (Kc.DR (by kernel_rfl) kd0);have g14:=eB (N:=K22.Bb) (ps:=K22.p_clash) g13 (h27.def X Gm) (by decide+kernel) (fun _ _ _ _ _ _ us hl=>by obtain⟨_,rfl⟩:=Kc.eO hl;rfl) (sp:=K22.vo C (tb p)) (fun vs H Q E h=>Kc.bW h fun _ h=>Kc.gB h rfl) (K22.DS (C:=C) (T:=tb p) (by kernel_rfl) (by kernel_rfl) (by kernel_rfl));have nt:K32.Cl K CE CC:=⟨⟨b1,b2,b3⟩,st1,st2,st3,fI,mx⟩;have hi:=nO.mp init_ok;have g14I:=g14.addI (n:=3) (x:="Clash") (C:=CC) ⟨mx,⟨_,lI,rfl⟩,kI⟩ (yv lI cI hi.1 hi.2 g14 (sp:=K32.vj CC) (fun vs H Q E h=>Kc.bW h fun _ h=>Kc.bW h fun _ h=>Kc.bW h fun _ h=>Kc.bW h fun _ h=>Kc.gB h rfl) (K32.DP (B:=CE) (C:=CC) (by kernel_rfl) nt)) (bZ X Gm v8) Al .nil;have g15:=eB (N:=K32.lC) (ps:=K32.rG) g14I (h28.def X Gm) (by decide+kernel) (fun _ _ _ _ _ _ us hl=>by obtain⟨_,rfl⟩:=Kc.eO hl;rfl) (sp:=K32.nS C CC (tb p)) (fun vs H Q E h=>Kc.bW h fun _ h=>Kc.gB h rfl) (K32.BQ (C:=C) (CC:=CC) (T:=tb p) (by kernel_rfl) (by kernel_rfl));have g16:=eB (N:=K32.rO) (ps:=K32.zY) g15 (h30.def X Gm) (by decide+kernel) (fun _ _ _ _ _ _ us hl=>by obtain⟨_,_,rfl⟩:=Kc.mZ hl;rfl) (sp:=K32.vk) (fun vs H Q E h=>Kc.bW h fun _ h=>Kc.bW h fun _ h=>Kc.bW h fun _ h=>Kc.bW h fun _ h=>Kc.bW h fun _ h=>Kc.gB h rfl) K32.DQ;have g17:=eB (N:=K32.x8) (ps:=K32.Fi) g16 (h31.def X Gm) (by decide+kernel) (fun _ _ _ _ _ _ us hl=>by obtain⟨_,_,rfl⟩:=Kc.mZ hl;rfl) (sp:=K32.lu K) (fun vs H Q E h=>Kc.bW h fun _ h=>Kc.bW h fun _ h=>Kc.bW h fun _ h=>Kc.bW h fun _ h=>Kc.gB h rfl) K32.BP;have g18:=eB (N:=K32.Ba) (ps:=K32.p_grown) g17 (h32.def X Gm) (by decide+kernel) (fun _ _ _ _ _ _ us hl=>by obtain⟨_,rfl⟩:=Kc.eO hl;rfl) (sp:=K32.rj) (fun vs H Q E h=>Kc.bW h fun _ h=>Kc.bW h fun _ h=>Kc.bW h fun _ h=>Kc.bW h fun _ h=>Kc.gB h rfl) (K32.BS (by kernel_rfl) (by kernel_rfl));have g19:=R.add_as (N:=K32.Fv) (ps:=K32.p_tree) g18 X Gm ha33 (by decide+kernel) (fun _ _ _ _ _ _ us hl=>by obtain⟨_,rfl⟩:=Kc.eO hl;rfl) (sp:=K32.zE C CC (tb p)) (fun vs H Q E h=>Kc.bW h fun _ h=>Kc.gB h rfl) (K32.wp_tree (C:=C) (CC:=CC) (T:=tb p) (by kernel_rfl) (by kernel_rfl) (by kernel_rfl));have g20:=R.add_cls 0 (x:="Shelf") (N:=K82.kP) (ps:=K82.qt) g19 mkCS kcCS (bZ X Gm v11) hm36_0 (by decide+kernel) (fun _ _ _ _ _ _ us hl=>by obtain⟨_,rfl⟩:=Kc.eO hl;rfl) (sp:=Eh CS) (fun vs H Q E h=>Kc.bW h fun _ h=>Kc.bW h fun _ h=>Kc.gB h rfl) (wp_ini ownCS);have g21:=R.qL 2 (N:=K82.rP) (ps:=K82.zZ) g20 ownCS.c hm36_1 (by decide+kernel) (fun _ _ _ _ _ _ us hl=>by obtain⟨_,_,_,rfl⟩:=Kc.nQ hl;rfl) (sp:=gU CS CN CR CT C (tb p)) (fun vs H Q E h=>Kc.bW h fun _ h=>Kc.bW h fun _ h=>Kc.bW h fun _ h=>Kc.bW h fun _ h=>Kc.bW h fun _ h=>Kc.bW h fun _ h=>Kc.bW h fun _ h=>Kc.gB h rfl) (wp_put (C:=C) (CC:=CC) (CN:=CN) (CR:=CR) (CT:=CT) (T:=tb p) ownCS (by kernel_rfl) xn (by kernel_rfl) xr (by kernel_rfl) (by kernel_rfl) (by kernel_rfl) (by kernel_rfl));have g22:=R.qL 1 (N:=K82.rQ) (ps:=K82.z6) g21 ownCS.c hm36_2 (by decide+kernel) (fun _ _ _ _ _ _ us hl=>by obtain⟨_,_,rfl⟩:=Kc.mZ hl;rfl) (sp:=jY CS C CN) (fun vs H Q E h=>Kc.bW h fun _ h=>Kc.bW h fun _ h=>Kc.bW h fun _ h=>Kc.bW h fun _ h=>Kc.bW h fun _ h=>Kc.bW h fun _ h=>Kc.gB h rfl) (wp_off (C:=C) (CN:=CN) ownCS (by kernel_rfl));have g23:=R.qL 0 (N:=K82.oi) (ps:=K82.vO) g22 ownCS.c hm36_3 (by decide+kernel) (fun _ _ _ _ _ _ us hl=>by obtain⟨_,rfl⟩:=Kc.eO hl;rfl) (sp:=kY CS (tb p)) (fun vs H Q E h=>Kc.bW h fun _ h=>Kc.bW h fun _ h=>Kc.bW h fun _ h=>Kc.bW h fun _ h=>Kc.bW h fun _ h=>Kc.gB h rfl) (wp_tb (C:=C) (T:=tb p) ownCS (by kernel_rfl));have g24:=R.qL 0 (N:=K82.pZ) (ps:=K82.xR) g23 ownCS.c hm36_4 (by decide+kernel) (fun _ _ _ _ _ _ us hl=>by obtain⟨_,rfl⟩:=Kc.eO hl;rfl) (sp:=kM CS (tb p)) (fun vs H Q E h=>Kc.bW h fun _ h=>Kc.bW h fun _ h=>Kc.bW h fun _ h=>Kc.bW h fun _ h=>Kc.bW h fun _ h=>Kc.bW h fun _ h=>Kc.gB h rfl) (wp_tr1 (C:=C) (CC:=CC) (T:=tb p) ownCS (by kernel_rfl));have g25:=eB (N:=K82.pY) (ps:=K82.xQ) g24 (h38.def X Gm) (by decide+kernel) (fun _ _ _ _ _ _ us hl=>by obtain⟨_,_,rfl⟩:=Kc.mZ hl;rfl) (sp:=B0 K) (fun vs H Q E h=>Kc.bW h fun _ h=>Kc.bW h fun _ h=>Kc.bW h fun _ h=>Kc.gB h rfl) wp_dw;have g26:=eB (N:=K82.og) (ps:=K82.vM) g25 (h39.def X Gm) (by decide+kernel) (fun _ _ _ _ _ _ us hl=>by obtain⟨_,_,_,_,rfl⟩:=Bo hl;rfl) (sp:=nR CS CN CR CT C (tb p) (fun D b1 b2 b3 b4=>Xt (gam [] []) K CE D CN CR C CT b1 b2 b3 b4)) (fun vs H Q E h=>Kc.bW h fun _ h=>Kc.bW h fun _ h=>Kc.bW h fun _ h=>Kc.bW h fun _ h=>Kc.bW h fun _ h=>Kc.bW h fun _ h=>Kc.bW h fun _ h=>Kc.bW h fun _ h=>Kc.bW h fun _ h=>Kc.bW h fun _ h=>Kc.bW h fun _ h=>Kc.bW h fun _ h=>Kc.bW h fun _ h=>Kc.gB h rfl) (wp_tt (CE:=CE) (CS:=CS) (CN:=CN) (CR:=CR) (CT:=CT) (C:=C) (T:=tb p) (by kernel_rfl) (by kernel_rfl) (by kernel_rfl) (by kernel_rfl) (by kernel_rfl) (fun _ _ _ _ _ h=>⟨h.m,h.o,h.kv,h.k1,h.k2,h.k3,h.k4⟩) (by kernel_rfl) (by kernel_rfl));have g27:=eB (N:=K82.mK) (ps:=K82.tw) g26 (h40.def X Gm) (by decide+kernel) (fun _ _ _ _ _ _ us hl=>by obtain⟨_,rfl⟩:=Kc.eO hl;rfl) (sp:=qZ) (fun vs H Q E h=>Kc.bW h fun _ h=>Kc.gB h rfl) wp_nn;have g28:=eB (N:=K82.js) (ps:=K82.nZ) g27 (h41.def X Gm) (by decide+kernel) (fun _ _ _ _ _ _ us hl=>by obtain⟨_,rfl⟩:=Kc.eO hl;rfl) (sp:=tf) (fun vs H Q E h=>Kc.bW h fun _ h=>Kc.gB h rfl) wp_nr;have hk:(jZ K82.Fw K82.p_law (aG (top 42))&&jK (aG (top 42)) K82.Fw K82.GN (aU (top 42)))=true:=by decide+kernel
 rw[ag]at hk;exact fX.calm (ou (pB l c k) hk.1 hk.2 g28 (fun vs H Q E h=>Kc.bW h fun _ h=>Kc.bW h fun _ h=>Kc.gB h rfl) (wp_law (C:=C) (CN:=CN) (CR:=CR) (CT:=CT) (CS:=CS) (T:=tb p) (Rf:=(fun D b1 b2 b3 b4=>Xt (gam [] []) K CE D CN CR C CT b1 b2 b3 b4)) (by kernel_rfl) (by kernel_rfl) (by kernel_rfl) (by kernel_rfl) (by kernel_rfl) (by kernel_rfl) (by kernel_rfl) (by kernel_rfl) (by kernel_rfl) F1 F2 F3 F4))
end K82
open PySem PySem.W PyProof.Rows
set_option maxRecDepth 100000 in
set_option maxHeartbeats 0 in
theorem PySem.Challenge.cw_copykin_k82_shelf_refuses_holds : PySem.Challenge.rw_copykin_k82_shelf_refuses.Holds := by
 w_on;o_law
 refine PySem.W.holds_open (q:=K82.vw) (loose:=K82.loo) (Xt:=K82.xt)
  (XP:=PySem.W.XL K82.vw []) (Yf:=zj (jj K82.yn K82.yo (fun _=>by kernel_rfl) [144])) (Ya:=zi (jj K82.yn K82.yo (fun _=>by kernel_rfl) [144]))
  (YP:=PySem.W.Hook.says (jj K82.yn K82.yo (fun _=>by kernel_rfl) [144])) (N:=5032) (fun w=>K82.both (K82.leftA w) (K82.leftB w)) (PySem.W.Hook.of _) (PySem.W.Hook.keeps _)
  (fun s e=>PySem.W.xl_of s (nO.mp e).1) PySem.W.XL.keeps
  (by rfl) (by rfl) (by rfl)
  (fun s e=>PySem.W.recFacts_of (nO.mp e).2) rfl (by assumption) (by decide+kernel)
  ⟨rfl,rfl,rfl,rfl,rfl,by decide+kernel⟩ ?hw ?hc
 (case hw=>w_witness2)
 k_fill
 refine Lm.DT (l:=PySem.Challenge.rw_copykin_k82_shelf_refuses) (n:=63) (k:=32) (x:="_law_script") (CX:=L2.CX0) (sp:=fun K=>fun vs H Q _=>K82.Eg K (K82.tb 144) vs H Q L2.E0) (tabs:=[144]) rfl (by decide) rfl ⟨rfl,by decide,by decide⟩ (fun w h Y=>G5 Y) ?T ?F (fun K H a ns hl ht hS=>⟨a,ns,rfl,hS,hl,.inl (ht 144 (aO.mpr rfl)),fun _=>rfl⟩) (fun _ _ _ _ z=>z)
 case T=>
  intro w s₀ mg mb h G Y p hp;obtain rfl:=aO.mp hp;have KX:=G5 Y;have T:=PySem.W.km_tabs_of Y 144 (aO.mpr rfl);have F:∃c,K82.wO (L2.KOf KX) "table_list" (K82.top 20) c 144:=by
   dsimp only[L2.KOf];refine' K82.uB ?ta ?tl ?tk ?tq ?th;(case ta=>k_is);(case tl=>k_is);(case tk=>k_is);(case tq=>k_is);(case th=>first |k_is|kernel_rfl)
  obtain⟨c,_,_,_,_,_,_,_,_,_,_,_,_,_,q⟩:=F;exact⟨T,((BH KX q).tab T).isCodeTable,by kernel_rfl⟩
 case F=>
  intro w mg fa h KX G hmg;refine' K82.all_mk (p:=144) (fI:=41) (cdI:=.ref 40) KX G hmg ?v1 ?v2 ?v3 ?v4 ?v5 ?v6 ?v7 ?v8 ?v9 ?v10 ?v11 ?v12 ?xc ?xn ?xr ?xt ?ownCS ?F1 ?F2 ?F3 ?F4 ?kd0 ?mx ?kI ?lI ?cI ?b1 ?b2 ?b3 ?st1 ?st2 ?st3 ?ha33 ?mkCS ?kcCS ?hm36_0 ?hm36_1 ?hm36_2 ?hm36_3 ?hm36_4 ?bl ?h12 ?h13 ?h14 ?h15 ?h16 ?h17 ?h18 ?h19 ?h21 ?h22 ?h23 ?h26 ?h27 ?h28 ?h30 ?h31 ?h32 ?h38 ?h39 ?h40 ?h41 ?h20 ?h42
  (case v1=>k_is);(case v2=>k_is);(case v3=>k_is);(case v4=>k_is);(case v5=>k_is);(case v6=>k_is);(case v7=>k_is);(case v8=>k_is);(case v9=>k_is);(case v10=>k_is);(case v11=>k_is);(case v12=>k_is)
  (case xc=>refine'⟨?x1,?x2⟩;(case x1=>k_is);(case x2=>k_exc))
  (case xn=>refine'⟨?x1,?x2⟩;(case x1=>k_is);(case x2=>k_exc))
  (case xr=>refine'⟨?x1,?x2⟩;(case x1=>k_is);(case x2=>k_exc))
  (case xt=>refine'⟨?x1,?x2⟩;(case x1=>k_is);(case x2=>k_exc))
  (case ownCS=>refine'⟨⟨?c1,?c2,?c3,?c4⟩,?n⟩;(case c1=>first |k_is|kernel_rfl);(case c2=>first |k_is|kernel_rfl);(case c3=>first |k_is|kernel_rfl);(case c4=>k_is);(case n=>unfold L2.l9;k_is))
  (case F1=>refine'⟨?m,?o,?kv,?k1,?k2,?k3,?k4⟩;(case o=>refine' K82.oy ?xa ?xb ?xc ?xd ?xe ?xf ?xg ?xh;(case xa=>k_is);(case xb=>k_is);(case xc=>k_is);(case xd=>k_is);(case xe=>k_is);(case xf=>k_is);(case xg=>k_is);(case xh=>k_is));(case m=>kts_exm);(case kv=>kit_is);(case k1=>kit_is);(case k2=>kit_is);(case k3=>kit_is);(case k4=>kit_is))
  (case F2=>refine'⟨?m,?o,?kv,?k1,?k2,?k3,?k4⟩;(case o=>refine' K82.oy ?xa ?xb ?xc ?xd ?xe ?xf ?xg ?xh;(case xa=>k_is);(case xb=>k_is);(case xc=>k_is);(case xd=>k_is);(case xe=>k_is);(case xf=>k_is);(case xg=>k_is);(case xh=>k_is));(case m=>kts_exm);(case kv=>kit_is);(case k1=>kit_is);(case k2=>kit_is);(case k3=>kit_is);(case k4=>kit_is))
  (case F3=>refine'⟨?m,?o,?kv,?k1,?k2,?k3,?k4⟩;(case o=>refine' K82.oy ?xa ?xb ?xc ?xd ?xe ?xf ?xg ?xh;(case xa=>k_is);(case xb=>k_is);(case xc=>k_is);(case xd=>k_is);(case xe=>k_is);(case xf=>k_is);(case xg=>k_is);(case xh=>k_is));(case m=>kts_exm);(case kv=>kit_is);(case k1=>kit_is);(case k2=>kit_is);(case k3=>kit_is);(case k4=>kit_is))
  (case F4=>refine'⟨?m,?o,?kv,?k1,?k2,?k3,?k4⟩;(case o=>refine' K82.oy ?xa ?xb ?xc ?xd ?xe ?xf ?xg ?xh;(case xa=>k_is);(case xb=>k_is);(case xc=>k_is);(case xd=>k_is);(case xe=>k_is);(case xf=>k_is);(case xg=>k_is);(case xh=>k_is));(case m=>kts_exm);(case kv=>kit_is);(case k1=>kit_is);(case k2=>kit_is);(case k3=>kit_is);(case k4=>kit_is))
  (case kd0=>refine' K82.FV ?l ?l0 ?l1 ?l2 ?l3;(case l=>k_is);(case l0=>k_is);(case l1=>k_is);(case l2=>k_is);(case l3=>k_is))
  (case mx=>first |k_exc|kernel_rfl)
  (case kI=>k_is)
  (case lI=>k_is)
  (case cI=>k_is)
  (case b1=>k_is)
  (case b2=>first |k_is|kernel_rfl)
  (case b3=>first |k_is|kernel_rfl)
  (case st1=>refine'⟨?s1,?s2,?s3,?s4⟩;(case s1=>k_is);(case s2=>first |k_is|kernel_rfl);(case s3=>first |k_is|kernel_rfl);(case s4=>first |k_is|kernel_rfl))
  (case st2=>refine'⟨?s1,?s2,?s3,?s4⟩;(case s1=>k_is);(case s2=>first |k_is|kernel_rfl);(case s3=>first |k_is|kernel_rfl);(case s4=>first |k_is|kernel_rfl))
  (case st3=>refine'⟨?s1,?s2,?s3,?s4⟩;(case s1=>k_is);(case s2=>first |k_is|kernel_rfl);(case s3=>first |k_is|kernel_rfl);(case s4=>first |k_is|kernel_rfl))
  (case ha33=>refine' R.hasA_mk ?a ?l ?c ?k;(case a=>k_is);(case l=>k_is);(case c=>k_is);(case k=>k_is))
  (case mkCS=>first |k_is|kernel_rfl)
  (case kcCS=>k_is)
  (case hm36_0=>refine' R.oq ?a ?b ?l ?c ?k;(case a=>k_is);(case b=>first |k_is|kernel_rfl);(case l=>k_is);(case c=>k_is);(case k=>k_is))
  (case hm36_1=>refine' R.oq ?a ?b ?l ?c ?k;(case a=>k_is);(case b=>first |k_is|kernel_rfl);(case l=>k_is);(case c=>k_is);(case k=>k_is))
  (case hm36_2=>refine' R.oq ?a ?b ?l ?c ?k;(case a=>k_is);(case b=>first |k_is|kernel_rfl);(case l=>k_is);(case c=>k_is);(case k=>k_is))
  (case hm36_3=>refine' R.oq ?a ?b ?l ?c ?k;(case a=>k_is);(case b=>first |k_is|kernel_rfl);(case l=>k_is);(case c=>k_is);(case k=>k_is))
  (case hm36_4=>refine' R.oq ?a ?b ?l ?c ?k;(case a=>k_is);(case b=>first |k_is|kernel_rfl);(case l=>k_is);(case c=>k_is);(case k=>k_is))
  (case bl=>
   intro x hx;simp only[R.hZ,aA,bP,or_false]at hx;rcases hx with rfl|rfl|rfl|rfl|rfl|rfl|rfl|rfl|rfl|rfl|rfl|rfl|rfl|rfl|rfl|rfl|rfl|rfl|rfl<;>k_is)
  (case h20=>refine' K82.uB ?ua ?ul ?uk ?uq ?uh;(case ua=>k_is);(case ul=>k_is);(case uk=>k_is);(case uq=>k_is);(case uh=>first |k_is|kernel_rfl))
  all_goals(refine' R.Gb ?a ?l ?c ?k;(case a=>k_is);(case l=>k_is);(case c=>k_is);(case k=>k_is))
