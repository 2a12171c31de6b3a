import PyProof.Rows.All
import Wide.All
import OpenK.AllK
import Wide.FinOn
import Lean
import PyProof.EqAt
import PyProof.EqKinds
import PyProof.TupleCall
import PyProof.NeKinds
import PySem.Challenge.RW_copykin_k83_whole_any_order
open Array renaming length_toList → bY, getElem?_eq_some_iff → dE, getElem?_eq_getElem → dN, perm_iff_toList_perm → gA, mem_toList_iff → i3, forIn_toList → jP, toList_push → ke, getElem?_eq_none → lL, getElem?_toList → B4, ext' → Hl
open Bool renaming and_eq_true → aj, false_ne_true → aC, false_eq_true → aJ, or_eq_true → cS, true_and → dD, false_and → dG, eq_iff_iff → ee, not_true → eF, beq_eq_decide_eq → iP, and_eq_true_iff → i6, and_false → jV, or_false → zz
open Classical renaming byContradiction → sY
open False renaming elim → gz
open ForInStep renaming yield → gJ
open Int renaming toNat_natCast → aX, emod_nonneg → eA, zero_add → eE, eq_ofNat_of_zero_le → fC, emod_lt_of_pos → fQ, fdiv_eq_ediv_of_nonneg → j8, ediv_nonneg → mQ
open Lean.Name renaming str → ck, anonymous → zx
open List renaming getElem?_eq_getElem → af, getD_eq_getElem?_getD → ah, length_map → ao, range → aq, size_toArray → av, mem_cons → ay, getElem?_map → aA, getElem?_eq_some_iff → aF, mem_cons_self → aG, mem_singleton → aL, mem_cons_of_mem → aM, mem_map → aO, mem_range → aQ, mem_of_getElem? → aR, replicate → aT, lookup_cons → aW, length_cons → ba, mem_append_right → bg, all_eq_true → bD, mem_filter → bF, length_range → bI, not_mem_nil → bJ, map_cons → bK, getElem?_eq_none → bN, getElem_mem → bO, any_eq_true → bP, getElem?_range → bR, map_map → b9, length_eq_zero_iff → cg, mem_append → cj, length_append → cu, nodup_cons → cA, getElem_map → cB, length_take → cJ, map_congr_left → cL, lookup → cM, mem_iff_getElem → cR, getElem_inj → cW, ext_getElem → cX, filter_sublist → de, take_add_one → dj, map_append → du, take_length → dv, getElem?_cons_zero → dw, replicate_succ → dH, foldl_cons → dJ, toArray → dZ, mem_map_of_mem → eB, nodup_append → eQ, nodup_range → fq, pairwise_map → gf, ext_getElem? → gh, append_assoc → gp, getElem?_append_right → gB, pairwise_iff_getElem → gO, find?_cons → hU, map_id → ig, length → il, take_of_length_le → iz, nodup_nil → iA, flatten_cons → iB, mem_iff_getElem? → iO, length_pos_iff → jl, filterMap_cons → jm, zip_cons_cons → jQ, getElem?_drop → jR, forIn_nil → jS, filter_append → jT, getElem?_append_left → kb, getElem?_cons_succ → k9, cons_append → la, map_nil → l8, nil_append → mh, length_nil → mi, forIn_cons → mj, length_singleton → mO, length_filter_le → mP, mem_append_left → nC, lookup_append → qa, find?_eq_none → qb, take_sublist → qE, filter_congr → qF, any_map → qG, range_succ → vd, of_mem_zip → ve, filter_map → vg, length_eraseIdx_of_lt → xm, drop_zero → xo, getElem?_eq_none_iff → zg, getElem?_take_of_lt → zu, any_cons → zv, all_cons → zw, getElem?_replicate → AO, pairwise_lt_range → B1, getElem?_set_self → B2, perm_cons_erase → DW, mem_erase_of_ne → DX, map → DY, getElem?_set_ne → DZ, getElem?_of_mem → D1, toList_toArray → Hj
open List.Pairwise renaming nil → mn, and_mem → sX
open List.Perm renaming refl → eW, eq_of_pairwise → tT, swap → Hk
open Nat renaming le_refl → ax, ne_of_lt → aB, le_trans → aI, zero_le → bf, lt_of_lt_of_le → bh, lt_succ_of_lt → bx, lt_succ_self → bE, le_add_right → bQ, ne_of_gt → cz, le_succ_of_le → cN, lt_of_le_of_lt → dX, lt_irrefl → d5, le_succ → eG, not_lt → fO, lt_trans → fP, not_lt_zero → fY, le_of_not_lt → gN, lt_add_of_pos_right → iq, le_of_lt → jN, zero_add → sR, min_self → sS, le_of_eq → sT, lt_add_right → tS, le_antisymm → xf, max_le → zf, sub_zero → DR, add_le_add_right → Hi
open Nat.succ renaming inj → kQ
open Ne renaming symm → bZ
open Option renaming isSome_iff_exists → eP, isSome_some → gV, map_some → i5, getD_none → qD, map_eq_some_iff → zt, isSome_none → DV
open Option.some renaming inj → aV, injEq → cU
open PyProof.Rows renaming callWith_type1 → bV, IntsAre → cb, listUpdate_at → fB, boot_list → gR, AllBare → l9, callWith_builtin1 → nz, subscriptTail_builtinR → oI, get?_update_seq → oO, seqEpoch_at → qk, boot_tuple → sQ, tupleItemsOf_ → sV, subscriptTail → sW, boot_int → tR, StrsAre → xa, entry_list_sort → AN, slot_list_sort → DG, size_push' → DI, Subscript_ → DP
open PyProof.Rows.F renaming plain_set_update_loop → fS, entry_set_update_loop → kP
open PySem renaming wpAny_bind → aa, wpAny_pure → ai, starEach → bc, mainGlobals → bq, mem_of_lookup → bw, wpAny_holding → bC, SetTable → bM, wpAny_newObj_type → b8, wpAny_call_entry → cm, codeAny_builtin → cC, cellsFrom → cD, wpAny_truthy_bool → cQ, wpAny_callSpecial?_slot → cT, wpAny_setField_rec → cZ, wpAny_seqItems → da, plainId_quiet → dc, compareOp → dg, wpAny_field → dz, wpAny_askSetting → dA, wpAny_setState_of → dO, Fin → dS, wpAny_updateSeq → dW, binaryOp → d4, NameKind → d7, wpAny_mono → eD, bootBuiltins → eK, wpAny_Call_Name_kw → eM, FuncData → eN, wpAny_letGo → fk, codeAny → fo, wpAny_rule → fA, wpAny_tryCatch → fM, scanBound → fN, wpAny_pyIter_tuple → fZ, sysModules → gb, strIterType → gS, sliceBounds → gT, assignEach → gU, wpAny_isInstance → gZ, pickOrder → hJ, attributeBase → iw, sizeLine_eq → iF, wpAny_pyIter_list → iU, recursionLimit → iV, foldedSetIterable → iX, codeAny_mono → iY, bindArgs → iZ, builtinLookup_eq_fast → je, wpAny_eqBool_int → ji, seqItems? → jj, wpAny_standAt → jz, wpAny_attempt → jA, wpAny_passesOwn → j6, wpAny_richCompare_same_room → kA, updateSeq → kN, noteFrame → kO, setsByText → kX, builtinsNs → kY, wpAny_of_eq → lX, keywordEach → lY, fits_of_scanBound → lZ, atKey_none_of_get → l5, wpAny_newList → me, tupleKind → nh, swapsWith → ni, setField → nj, relayAll → nq, wpAny_nextOf_list_item → oH, wpAny_specialOf → oK, typeLookup_type → oM, letOwnedTupleGo → oN, wpAny_setField → qj, firstArgMember → ql, Within → qm, call_meets → tQ, wpAny_typeOf → wY, slot_list_getitem → wZ, backToKw → w8, ZipApart → w9, GenState → xg, setFlight → zb, noFill_tuple_add → zc, seqIndex_of → zk, richCompare → zl, callerA → BW, UnaryOp → BX, wpAny_newTuple → DD, wpAny_call → DE, wpAny_Name → DF, sliceRange → DH, raiseNew → DJ, isSubtype_type → DK, isSubtype_stop → DL, dictSetDefault → DM, closureFor → DN, wpAny_getItem_list_slice → G5, swapsWithSole → G6, seq_tuple_add → G7, evalPart_none → G8, behindInMarks → G9
open PySem.Around renaming under_plainId → bS, under → zA
open PySem.AutoSeq1 renaming wpAny_loadPart' → jW
open PySem.Builtin renaming bitAnd → ip, bitXor → jo
open PySem.Builtin.Builtins renaming bindParams → eY
open PySem.Builtin.List renaming listExtendWith → dm, listLengthHint → fE, listFitsIndex → iQ, listTooLong → jf, listSameRef → jg, listTouch → jU, listUpdate → sU, listItems → sZ
open PySem.Builtin.Range renaming rangeSize → qI
open PySem.Builtin.SmallTypes renaming nextOf → cw, ownedTupleIsFree → dU
open PySem.Builtin.Str renaming occurrences → gK, strSliceIndices → qd
open PySem.Builtin.Tuple renaming tupleCompareSizes → eI
open PySem.Calls renaming spliced_cons → jO, call_function_entry → j9, Name_function_global → xj
open PySem.Code renaming isFrame → B3
open PySem.EntryCells renaming newEntry → zj
open PySem.F renaming plain_min_loop → fH, plain_max_loop → fI, slot_tuple_iterator_next → gP, plain_extend_loop → hV, args_tuple_add_2 → j7, entry_tuple_add → kD, slot_tuple_add → k6, slot_zip_next → nF, slot_tuple_lt → nG, slot_dict_setdefault → sP, entry_min_loop → xh, entry_max_loop → xi, plainAttrs_list → xl, args_tuple_iterator_next_1 → zi, entry_tuple_iterator_next → zy
open PySem.Heap renaming get?_push_of_some → ag, get?_push_size → au, lt_size → aw, get?_update_other → aE, get?_update_self → bA, size_push → bT, SameBut → cY, size_update → fu, MadeExcOf → xp, get?_none_of_le → D4
open PySem.Heap.IsSliceOf renaming new → vh
open PySem.Heap.SameBut renaming update → bU, refl → zh
open PySem.IsL renaming update → DQ
open PySem.Moved renaming trans → ny
open PySem.NameKind renaming free → b7, cell → cO
open PySem.Obj renaming mapSeq → aS, mapFields → hO, data_mapFields → ie, isFreed_of_fields → nv, data_mapDictKeys → Hh
open PySem.Paired renaming length → iN
open PySem.PassesOwn renaming leaving → B0
open PySem.PyData renaming keyHash → ak
open PySem.SeqAt.EqAt renaming str_int → zm, int_str → zo
open PySem.SetTable renaming below → cE, grown → eX, insertAt → oP, has → xk, orStandIn → BY, relaid → Hb
open PySem.SetTable.below renaming go → xb
open PySem.SetTable.probe renaming go → l7
open PySem.Str renaming ofString → bj, length → zd
open PySem.Value renaming none → bo, ref → bz, type → eT, int → fR, str → gH, bool → pC, float → DO
open PySem.W renaming Frag → ae, fnOf → aD, keepIn → bH, nsIn → cK, mg_of → cP, findIn → dh, codeIn → di, kia_one → dk, emptyDict → dy, kas_sort → dB, instObj → eL, kitOne → ic, kas_descPart → iW, kmHook → jk, plainGet → kB, kas_sort → kC, isFn → kZ, makesIn → k7, lookIn → mf, plainGet_of → nr, callWith_K0 → nu, callWith_K → oJ, methodObj → pD, hasDictIn → pE, takerIn → sO, kas_rev → w6, cellsFrom_some → ze, codeHd_of_K → BZ, plainOver → DS, kitx_list → DT, kitx_dict → DU, openEnds → Hd, km_in_of → He, handedIn → Hf, codeHdIn → Hg
open PySem.W.Hook renaming val → zq, obs → zr
open PySem.W.KasT renaming ret → qH
open PySem.Walks renaming list → Ha
open PySem.pickOrder renaming go → w4
open Sum renaming inr → eU, inl → eV
set_option Elab.async false
set_option linter.all false
set_option maxRecDepth 100000
set_option maxHeartbeats 0
namespace K83
open PySem PySem.Spec PySem.Calls PyProof.Rows
noncomputable def top(i:Nat):Stmt:=PySem.Challenge.pw_copykin_k83_whole_any_order.main.body.getD i (.Pass ⟨0,0,0,0⟩)
noncomputable def eR(i j:Nat):Stmt:=match top i with
 |.ClassDef _ _ _ b .. =>b.getD j (.Pass ⟨0,0,0,0⟩)
 |s=>s
noncomputable def vw:Program:=
 {PySem.Challenge.pw_copykin_k83_whole_any_order with main:={PySem.Challenge.pw_copykin_k83_whole_any_order.main with body:=[top 1,top 2,top 3,top 4,top 5,top 6,top 8,top 9,top 10,top 11,top 12,top 13,top 14,top 15,top 16,top 17,top 18,top 19,top 20,top 21,top 22,top 23,top 25,top 26,top 27,top 28,top 30,top 31,top 32,top 33,top 34,top 36,top 38,top 39,top 40,top 41,top 42,top 43,top 44,top 45,top 46]}}
noncomputable def loo:List Str:=[bj "tree_trees"]
noncomputable def xt(s:Shared):Bool:=PySem.W.xlAt vw [] s&&PySem.W.recOk [] s
noncomputable def lhsA(w:World):=(Hd treeTable PySem.Challenge.pw_copykin_k83_whole_any_order w 5220).map
 (PySem.W.openSeen vw loo (importedModules PySem.Challenge.pw_copykin_k83_whole_any_order.main.body) xt true)
noncomputable def rhsA(_:World):=some (PySem.W.openGood vw loo)
noncomputable def seen{α:Type}(_:α):Bool:=true
theorem laidA:(seen lhsA&&seen rhsA)=true:=by k_qdec
theorem leftA(w:World):lhsA w=rhsA w:=by
 have _:=laidA;rw[PySem.W.Fast.te17187782896808304398,PySem.W.Fast.te4692675996839613714]
 kernel_rfl
theorem both{α β γ:Type}{o:Option α}{f:α->β}{g:α->γ}{a:β}{b:γ}(h:o.map f=some a)(k:o.map g=some b):(o.map fun s=>(f s,g s))=some (a,b):=by
 cases o with
 |none=>cases h
 |some x=>
  injection h with h;injection k with k;rw[<-h,<-k];rfl
end K83
namespace L2
open PySem PySem.Spec PyProof.Rows
noncomputable abbrev Key:=Sum Int Str
noncomputable def rO:Key->Value->Bool
 |.inl k,v=>Value.isInt k v
 |.inr x,v=>Value.isStrOf x v
noncomputable def keyH(w:World):Key->Int
 |.inl k=>hashInt k
 |.inr x=>hashStr w x
theorem eJ:∀{k:Key}{v:Value},rO k v=true->(∃i t,k=eV i/\v=fR i t)\/(∃x t,k=eU x/\v=gH x t)
 |.inl i,v,h=>by
  obtain⟨t,e⟩:=Value.isInt_shape (k:=i) (v:=v) h;exact .inl ⟨i,t,rfl,e⟩
 |.inr x,v,h=>by
  obtain⟨t,e⟩:=Value.isStrOf_shape (x:=x) (v:=v) h;exact .inr ⟨x,t,rfl,e⟩
theorem C4(i:Int)(t:Tok):rO (.inl i) (.int i t)=true:=by simp[rO,Value.isInt]
theorem C3(x:Str)(t:Tok):rO (.inr x) (.str x t)=true:=by simp[rO,Value.isStrOf]
theorem key_ll(a b:Int):decide ((eV a:Key)=eV b)=(a==b):=by
 by_cases e:a=b
 ·subst e;simp
 ·have h:¬(eV a:Key)=eV b:=fun q=>e (eV.inj q)
  rw[decide_eq_false h];exact(beq_eq_false_iff_ne.mpr e).symm
theorem key_rr(a b:Str):decide ((eU a:Key)=eU b)=decide (a=b):=by
 by_cases e:a=b
 ·subst e;simp
 ·have h:¬(eU a:Key)=eU b:=fun q=>e (eU.inj q)
  rw[decide_eq_false h,decide_eq_false e]
theorem key_lr(a:Int)(b:Str):decide ((eV a:Key)=eU b)=false:=decide_eq_false (fun q=>nomatch q)
theorem key_rl(a:Str)(b:Int):decide ((eU a:Key)=eV b)=false:=decide_eq_false (fun q=>nomatch q)
noncomputable def cy(prog:Program)(w:World):PySem.KeyKind prog w Key where
 is:=rO
 hash:=keyH w
 inj:=fun v a b ha hb=>by
  rcases eJ ha with⟨i,t,rfl,rfl⟩ |⟨x,t,rfl,rfl⟩
  ·rcases eJ hb with⟨j,u,rfl,e⟩ |⟨y,u,rfl,e⟩
   ·injection e with e1 _;rw[e1]
   ·exact nomatch e
  ·rcases eJ hb with⟨j,u,rfl,e⟩ |⟨y,u,rfl,e⟩
   ·exact nomatch e
   ·injection e with e1 _;rw[e1]
 byValue:=fun k v h=>by
  rcases eJ h with⟨i,t,rfl,rfl⟩ |⟨x,t,rfl,rfl⟩<;>rfl
 pyHash:=fun hv h=>by
  rcases eJ hv with⟨i,t,rfl,rfl⟩ |⟨x,t,rfl,rfl⟩
  ·exact wpAny_pyHash_int h
  ·exact wpAny_pyHash_str h
 eqBool:=fun hu hv h=>by
  rcases eJ hu with⟨i,t,rfl,rfl⟩ |⟨x,t,rfl,rfl⟩
  ·rcases eJ hv with⟨j,u,rfl,rfl⟩ |⟨y,u,rfl,rfl⟩
   ·rw[key_ll]at h;exact ji h
   ·rw[key_lr]at h;exact zo i t y u _ _ _ _ h
  ·rcases eJ hv with⟨j,u,rfl,rfl⟩ |⟨y,u,rfl,rfl⟩
   ·rw[key_rl]at h;exact zm x t j u _ _ _ _ h
   ·rw[key_rr]at h;exact wpAny_eqBool_str h
 «strs»:=fun k x t v h=>by
  rcases eJ h with⟨i,u,rfl,e⟩ |⟨y,u,rfl,e⟩
  ·exact nomatch e
  ·injection e with e1 _
   subst e1;cases v<;>rfl
theorem An(prog:Program)(w:World)(k:Key)(v:Value):(cy prog w).is k v=rO k v:=rfl
theorem ly(prog:Program)(w:World)(i:Int)(t:Tok):(cy prog w).is (.inl i) (.int i t)=true:=C4 i t
theorem yh(prog:Program)(w:World)(x:Str)(t:Tok):(cy prog w).is (.inr x) (.str x t)=true:=C3 x t
inductive V where
 |non|bl (b:Bool) |int (i:Int) |str (x:Str) |byt (b:Array UInt8) |flt (b:UInt64) |ref (a:Addr) |ty (n:String)
 deriving DecidableEq
noncomputable def RelV:V->Value->Prop
 |.non,u=>u=bo
 |.bl b,u=>u=pC b
 |.int i,u=>∃t,u=fR i t
 |.str x,u=>∃t,u=gH x t
 |.byt b,u=>∃t,u=Value.bytes b t
 |.flt b,u=>∃t,u=DO b t
 |.ref a,u=>u=bz a
 |.ty n,u=>u=eT n
noncomputable abbrev bL:List V->List Value->Prop:=Paired RelV
theorem bL.length{xs:List V}{us:List Value}(r:bL xs us):xs.length=us.length:=iN r
theorem bL.get:∀{xs:List V}{us:List Value}{i:Nat}{x:V},bL xs us->xs[i]? =some x->∃u,us[i]? =some u/\RelV x u
 |_,_,_,_,.nil,e=>by simp at e
 |_,_,0,_,.cons r _,e=>by simp at e;subst e;exact⟨_,rfl,r⟩
 |_,_,i+1,x,.cons _ t,e=>by
  obtain⟨u,h1,h2⟩:=bL.get (i:=i) (x:=x) t (by simpa using e);exact⟨u,by simpa using h1,h2⟩
theorem bL.set{x:V}{u:Value}(r:RelV x u):∀{xs:List V}{us:List Value}(i:Nat),bL xs us->bL (xs.set i x) (us.set i u)
 |_,_,_,.nil=>.nil
 |_,_,0,.cons _ t=>.cons r t
 |_,_,i+1,.cons q t=>.cons q (bL.set r i t)
theorem bL.append:∀{xs ys:List V}{us ws:List Value},bL xs us->bL ys ws->bL (xs++ys) (us++ws)
 |_,_,_,_,.nil,s=>s
 |_,_,_,_,.cons r t,s=>.cons r (bL.append t s)
theorem bL.take:∀{xs:List V}{us:List Value}(n:Nat),bL xs us->bL (xs.take n) (us.take n)
 |_,_,0,_=>.nil
 |_,_,_+1,.nil=>.nil
 |_,_,n+1,.cons r t=>.cons r (bL.take n t)
theorem bL.drop:∀{xs:List V}{us:List Value}(n:Nat),bL xs us->bL (xs.drop n) (us.drop n)
 |_,_,0,r=>r
 |_,_,_+1,.nil=>.nil
 |_,_,n+1,.cons _ t=>bL.drop n t
noncomputable def md:Option V->Option Value->Prop
 |some v,some u=>RelV v u
 |none,none=>True
 |_,_=>False
noncomputable def KV{κ:Type}:List (κ×V)->List (κ×Value)->Prop:=Paired fun(p:κ×V)(q:κ×Value)=>p.1=q.1/\RelV p.2 q.2
noncomputable def kV:Key->V
 |.inl i=>.int i
 |.inr x=>.str x
inductive HO where
 |lst (xs:List V)
 |tup (xs:List V)
 |dK (kvs:List (Key×V)) |dT (kvs:List (List Key×V))
 |set (S:Int->Bool) (n:Nat)
 |ins (C dx:Addr) (fs:List (Str×V))
 |own (x:Addr)
 |xd (fs:List (Str×V))
 |met (f x:Addr)
 |rng (lo hi:Int)
 |frz (o:Obj) (u:HO)
 |tbl (ps:Array Value)
 |ext (φ:Heap->Prop)
noncomputable abbrev Hp:=Addr->Option HO
noncomputable def upd(H:Hp)(a:Addr)(o:HO):Hp:=fun b=>if b=a then some o else H b
theorem az{H:Hp}{a:Addr}{o:HO}:upd H a o a=some o:=by unfold upd;rw[if_pos rfl]
theorem aY{H:Hp}{a b:Addr}{o:HO}(h:b≠a):upd H a o b=H b:=by unfold upd;rw[if_neg h]
theorem ne_of{H:Hp}{a b:Addr}{o u:HO}(h:H a=some o)(h':H b=some u)(d:o≠u):a≠b:=by
 intro e;subst e;rw[h]at h';exact d (aV h')
theorem cf{H:Hp}{a b:Addr}{o:HO}(h:H a=some o)(h':H b=none):a≠b:=by
 intro e;subst e;rw[h]at h';cases h'
section
variable(P:Program)(w:World)
noncomputable def dR(H:Hp)(h:Heap)(a:Addr):HO->Prop
 |.lst xs=>xs.length<=sizeLine/\∃(its:List Value)(n:Nat),bL xs its/\h.get? a=some {cls:=.type "list",data:=.seq its.toArray n}
 |.tup xs=>xs.length<=sizeLine/\∃its:List Value,bL xs its/\IsTup h a its.toArray
 |.dK kvs=>kvs.length<=sizeLine/\(a==gb)=false/\∃vs,KV kvs vs/\h.DictOf (cy P w) a vs
 |.dT kvs=>kvs.length<=sizeLine/\(a==gb)=false/\∃xs:List (List Key×Addr×Value),
   Paired (fun(p:List Key×V)(q:List Key×Addr×Value)=>p.1=q.1/\H q.2.1=some (.tup (p.1.map kV))/\RelV p.2 q.2.2) kvs xs/\
   ∃o es ep,h.get? a=some o/\o.ExactDict/\o.data=.dict es ep/\es.toList=xs.map (entryOfKey (nh (cy P w)))/\(xs.map (·.1)).Nodup
 |.set S n=>h.SetOf (intKind P w) a S n
 |.ins C dx fs=>H dx=some (.own a)/\fs.length<=1000/\dx≠a/\h.get? a=some (eL C dx)/\
   ∃mA,h.Ns1 dx mA/\(∀f,md (fs.lookup f) (mA f))/\qm mA (fs.map (·.1))
 |.own _=>∃o,h.get? a=some o
 |.xd fs=>∃mA,h.Ns1 a mA/\∀f,md (fs.lookup f) (mA f)
 |.rng lo hi=>∃t u v,h.get? a=some {cls:=.type "range",data:=.fields #[.int lo t,.int hi u,.int 1 v]}
 |.frz o u=>h.get? a=some o/\dR H h a u
 |.tbl ps=>h.get? a=some {cls:=.none,data:=.fields ps}
 |.met f x=>h.get? a=some (pD (.ref f) (.ref x))
 |.ext φ=>φ h/\(∃o,h.get? a=some o)/\∀h1 h2:Heap,φ h1->(∀o,h1.get? a=some o->h2.get? a=some o)->φ h2
noncomputable def HOk(H:Hp)(h:Heap):Prop:=∀a o,H a=some o->dR P w H h a o
end
section
variable {P:Program}{w:World}{H H':Hp}{h h':Heap}{a:Addr}{o:HO}
theorem dR.lt(x:dR P w H h a o):a<h.objs.size:=by
 cases o with
 |lst xs=>obtain⟨_,_,_,_,e⟩:=x;exact aw e
 |tup xs=>obtain⟨_,_,_,p⟩:=x;exact p.lt
 |dK kvs=>obtain⟨_,_,_,_,o,_,_,e,_⟩:=x;exact aw e
 |dT kvs=>obtain⟨_,_,_,_,o,_,_,e,_⟩:=x;exact aw e
 |set S n=>obtain⟨o,_,_,_,e,_⟩:=x;exact aw e
 |ins C dx fs=>obtain⟨_,_,_,e,_⟩:=x;exact aw e
 |own y=>obtain⟨_,e⟩:=x;exact aw e
 |xd fs=>obtain⟨_,⟨_,_,_,e,_⟩,_⟩:=x;exact aw e
 |rng lo hi=>obtain⟨_,_,_,e⟩:=x;exact aw e
 |frz ob u=>obtain⟨e,_⟩:=x;exact aw e
 |tbl ps=>exact aw (show h.get? a=some _ from x)
 |met f y=>exact aw (show h.get? a=some _ from x)
 |ext φ=>obtain⟨_,⟨_,e⟩,_⟩:=x;exact aw e
theorem Paired.qg{α β:Type}{F G:α->β->Prop}:∀{l₁:List α}{l₂:List β},Paired F l₁ l₂->(∀a b,F a b->G a b)->Paired G l₁ l₂
 |_,_,.nil,_=>.nil
 |_,_,.cons r t,f=>.cons (f _ _ r) (Paired.qg t f)
theorem dR.qR(x:dR P w H h a o)(k:∀b u,(b=a\/H b=some (.own a))->h.get? b=some u->h'.get? b=some u)
  (ho:∀b,H b=some (.own a)->H' b=some (.own a))(ht:∀b xs,H b=some (.tup xs)->H' b=some (.tup xs)):dR P w H' h' a o:=by
 induction o with
 |lst xs=>obtain⟨z,its,n,r,e⟩:=x;exact⟨z,its,n,r,k _ _ (.inl rfl) e⟩
 |tup xs=>obtain⟨z,its,r,ob,e,c⟩:=x;exact⟨z,its,r,ob,k _ _ (.inl rfl) e,c⟩
 |dK kvs=>obtain⟨z,y,vs,r,ob,es,ep,e,c⟩:=x;exact⟨z,y,vs,r,ob,es,ep,k _ _ (.inl rfl) e,c⟩
 |dT kvs=>
  obtain⟨z,y,xs,r,ob,es,ep,e,c⟩:=x;exact⟨z,y,xs,Paired.qg r fun p q z=>⟨z.1,ht _ _ z.2.1,z.2.2⟩,ob,es,ep,k _ _ (.inl rfl) e,c⟩
 |set S n=>obtain⟨ob,es,ep,t,e,c⟩:=x;exact⟨ob,es,ep,t,k _ _ (.inl rfl) e,c⟩
 |ins C dx fs=>
  obtain⟨d,z,ne,e,mA,⟨od,es,ep,e2,c⟩,r⟩:=x;exact⟨ho _ d,z,ne,k _ _ (.inl rfl) e,mA,⟨od,es,ep,k _ _ (.inr d) e2,c⟩,r⟩
 |own y=>obtain⟨ob,e⟩:=x;exact⟨ob,k _ _ (.inl rfl) e⟩
 |xd fs=>obtain⟨mA,⟨od,es,ep,e,c⟩,r⟩:=x;exact⟨mA,⟨od,es,ep,k _ _ (.inl rfl) e,c⟩,r⟩
 |rng lo hi=>obtain⟨t,u,v,e⟩:=x;exact⟨t,u,v,k _ _ (.inl rfl) e⟩
 |frz ob u ih=>obtain⟨e,q⟩:=x;exact⟨k _ _ (.inl rfl) e,ih q⟩
 |tbl ps=>
  have e:h.get? a=some {cls:=.none,data:=.fields ps}:=x;show h'.get? a=some {cls:=.none,data:=.fields ps};exact k a _ (.inl rfl) e
 |met f y=>
  have e:h.get? a=some (pD (.ref f) (.ref y)):=x;show h'.get? a=some (pD (.ref f) (.ref y));exact k a _ (.inl rfl) e
 |ext φ=>obtain⟨p,⟨o,e⟩,st⟩:=x;exact⟨st _ _ p fun o q=>k _ _ (.inl rfl) q,⟨o,k _ _ (.inl rfl) e⟩,st⟩
theorem HOk.lt(x:HOk P w H h)(e:H a=some o):a<h.objs.size:=(x a o e).lt
theorem HOk.fresh(x:HOk P w H h)(e:h.objs.size<=a):H a=none:=by
 cases q:H a with
 |none=>rfl
 |some u=>exact absurd (bh (x.lt q) e) (d5 _)
theorem HOk.kept(x:HOk P w H h)(k:∀b u,h.get? b=some u->h'.get? b=some u):HOk P w H h':=fun a o e=>
 (x a o e).qR (fun b u _ q=>k b u q) (fun _ q=>q) fun _ _ q=>q
theorem HOk.laid(x:HOk P w H h)(k:∀b u,h.get? b=some u->h'.get? b=some u)(hp:h.objs.size<=a)(new:dR P w (upd H a o) h' a o):HOk P w (upd H a o) h':=fun b u e=>by
 have hn:=x.fresh hp;by_cases hb:b=a
 ·subst hb;rw[az]at e;cases e;exact new
 ·rw[aY hb]at e
  exact(x b u e).qR (fun c v _ q=>k c v q) (fun c q=>by rw[aY (cf q hn)];exact q) fun c xs q=>by rw[aY (cf q hn)];exact q
end
noncomputable def Rd(H:Hp)(a:Addr)(u:HO):Prop:=H a=some u\/∃o,H a=some (.frz o u)
theorem Rd.ok{P:Program}{w:World}{H:Hp}{h:Heap}{a:Addr}{u:HO}(r:Rd H a u)(x:HOk P w H h):dR P w H h a u:=by
 rcases r with r|⟨o,r⟩
 ·exact x a u r
 ·obtain⟨_,q⟩:=x a _ r
  exact q
noncomputable def Mut:Option HO->Prop
 |some (.lst _)=>True
 |some (.dK _)=>True
 |some (.dT _)=>True
 |some (.set _ _)=>True
 |some (.ins _ _ _)=>True
 |some (.ext _)=>True
 |_=>False
section
variable {P:Program}{w:World}{H:Hp}{h h':Heap}{x e:Addr}{o':HO}
theorem HOk.write(ok:HOk P w H h)(mu:Mut (H x))(he:e=x\/H e=some (.own x))(k:∀b u,b≠e->h.get? b=some u->h'.get? b=some u)(heo:∃u,h'.get? e=some u)
  (new:dR P w (upd H x o') h' x o'):HOk P w (upd H x o') h':=fun b u q=>by
 have nown:∀c y,H c=some (.own y)->c≠x:=fun c y r z=>by subst z;rw[r]at mu;exact mu
 have ntup:∀c xs,H c=some (.tup xs)->c≠x:=fun c xs r z=>by subst z;rw[r]at mu;exact mu
 by_cases hb:b=x
 ·subst hb;rw[az]at q;cases q;exact new
 ·rw[aY hb]at q
  by_cases hbe:b=e
  ·have q':H b=some (.own x):=by
    rcases he with z|z
    ·exact absurd (hbe.trans z) hb
    ·rw[hbe];exact z
   rw[q]at q';cases q';obtain⟨v,hv⟩:=heo;exact⟨v,by rw[hbe];exact hv⟩
  ·refine(ok b u q).qR (fun c v hc r=>k c v ?_ r) (fun c r=>by rw[aY (nown c b r)];exact r) fun c xs r=>by rw[aY (ntup c xs r)];exact r
   rcases hc with rfl|hc
   ·exact hbe
   ·rintro rfl
    rcases he with z|z
    ·exact nown c b hc z
    ·rw[hc]at z;cases z;exact hb rfl
end
structure Un(fs ex:List Addr)(H H':Hp)(h h':Heap):Prop where
 keep:∀b o,h.get? b=some o->H b=none->b∉fs->b∉ex->h'.get? b=some o
 slot:∀b o,h.get? b=some o->H b=none->b∈fs->b∉ex->∃sl,h'.get? b=some {o with slots:=sl}
 free:∀b o,h.get? b=some o->H b=none->b∉ex->H' b=none
 there:∀b o,h.get? b=some o->b∉ex->∃o',h'.get? b=some o'
 tups:∀b xs,H b=some (.tup xs)->H' b=some (.tup xs)
 frzs:∀b o u,H b=some (.frz o u)->H' b=some (.frz o u)
 tbls:∀b ps,H b=some (.tbl ps)->∃more,H' b=some (.tbl (ps++more))
section
variable {fs fs' ex ex':List Addr}{H H1 H2:Hp}{h h1 h2 h':Heap}{a x e:Addr}{o:HO}
theorem Un.any(u:Un fs ex H H1 h h1){b:Addr}{ob:Obj}(q:h.get? b=some ob)(n:H b=none)(hx:b∉ex):∃sl,h1.get? b=some {ob with slots:=sl}:=by
 by_cases hb:b∈fs
 ·exact u.slot b ob q n hb hx
 ·exact⟨ob.slots,u.keep b ob q n hb hx⟩
theorem Un.kept(k:∀b u,h.get? b=some u->h'.get? b=some u):Un fs ex H H h h':=
 ⟨fun b ob q _ _ _=>k b ob q,fun b ob q _ _ _=>⟨ob.slots,k b ob q⟩,fun _ _ _ n _=>n,fun b ob q _=>⟨ob,k b ob q⟩,fun _ _ q=>q,fun _ _ _ q=>q,fun _ ps q=>⟨#[],by rw[q];simp⟩⟩
theorem Un.refl:Un fs ex H H h h:=Un.kept fun _ _ q=>q
theorem Un.laid(k:∀b u,h.get? b=some u->h'.get? b=some u)(hp:h.objs.size<=a)(hn:H a=none):Un fs ex H (upd H a o) h h' where
 keep:=fun b u q _ _ _=>k b u q
 slot:=fun b u q _ _ _=>⟨u.slots,k b u q⟩
 free:=fun b u q n _=>by rw[aY (aB (bh (aw q) hp))];exact n
 there:=fun b u q _=>⟨u,k b u q⟩
 tups:=fun b xs q=>by rw[aY (cf q hn)];exact q
 frzs:=fun b u xs q=>by rw[aY (cf q hn)];exact q
 tbls:=fun b ps q=>⟨#[],by rw[aY (cf q hn),q];simp⟩
theorem Un.write(mu:Mut (H x))(he:e=x\/H e=some (.own x))(k:∀b u,b≠e->h.get? b=some u->h'.get? b=some u)(heo:∃u,h'.get? e=some u):Un fs ex H (upd H x o) h h':=by
 have hx:∀b,H b=none->b≠x:=fun b n z=>by subst z;rw[n]at mu;exact mu
 have hb:∀b,H b=none->b≠e:=fun b n z=>by
  subst z;rcases he with r|r
  ·exact hx b n r
  ·rw[n]at r;cases r
 have hm:∀b u,H b=some u->¬Mut (some u)->b≠x:=fun b u q nm z=>by subst z;rw[q]at mu;exact nm mu
 refine⟨fun b u q n _ _=>k b u (hb b n) q,fun b u q n _ _=>⟨u.slots,k b u (hb b n) q⟩,fun b u q n _=>by rw[aY (hx b n)];exact n,fun b u q _=>?_,
  fun b xs q=>by rw[aY (hm b _ q fun z=>z)];exact q,fun b u xs q=>by rw[aY (hm b _ q fun z=>z)];exact q,fun b ps q=>⟨#[],by rw[aY (hm b _ q fun z=>z),q];simp⟩⟩
 by_cases hbe:b=e
 ·subst hbe;exact heo
 ·exact⟨u,k b u hbe q⟩
end
noncomputable def trk(h:Heap)(H:Hp):List Addr:=(aq h.objs.size).filter fun a=>(H a).isSome
noncomputable def yv(h:Heap)(H:Hp):Heap:=PySem.W.hideAll h (trk h H)
theorem Dc(h:Heap)(H:Hp):(yv h H).objs.size=h.objs.size:=PySem.W.hideAll_size _ _
theorem rQ{h:Heap}{H:Hp}{b:Addr}{o:Obj}(e:h.get? b=some o)(n:H b=none):(yv h H).get? b=some o:=
 PySem.W.hideAll_get _ e fun hm=>by
  have q:(H b).isSome=true:=(bF.mp hm).2;rw[n]at q;simp at q
theorem of_hidT{h:Heap}{H:Hp}{b:Addr}{o:Obj}(e:(yv h H).get? b=some o):h.get? b=some o/\H b=none:=by
 have e':h.get? b=some o:=PySem.W.of_hideAll (trk h H) e;refine⟨e',?_⟩;cases q:H b with
 |none=>rfl
 |some x=>
  have hm:b∈trk h H:=bF.mpr ⟨aQ.mpr (aw e'),by simp[q]⟩;have z:(yv h H).get? b=none:=PySem.W.hideAll_none (trk h H) hm;rw[z]at e;cases e
structure Mod(K:ae)(mg:Str->Option Value)(base:Heap):Prop where
 kin:K.In base
 glob:base.Ns bq mg
 blt:∃mb,base.Ns kY mb/\∀x:Str,x≠"__name__"->mb x=eK x
 nolimit:base.NoLimit
structure Cx where
 prog:Program
 w:World
 K:ae
 mg:Str->Option Value
 base:Heap
 A:Around
 N:List Str
 s₀:Shared
 H₀:Hp
 env:Env
 outer:List Env
 stack:List Env
 ex:List Addr
 fn:Str->Bool
 calm:Bool
 pn:List (Addr×Obj)
 xe:Value->Shared->Prop
noncomputable def frs(l:List Env):List Addr:=l.filterMap (·.frame)
noncomputable abbrev Cx.fs(X:Cx):List Addr:=frs X.outer
noncomputable def Vis(sc:Scope)(x:Str):Prop:=sc.names.lookup x=some .local\/sc.names.lookup x=some .cell\/sc.names.lookup x=some .free
noncomputable def Loc(sc:Scope)(x:Str):Prop:=sc.names.lookup x=some .local\/sc.names.lookup x=some .cell
noncomputable def Look(env:Env)(h:Heap)(m:Str->Option Value)(x:Str)(u:Value):Prop:=
 (env.kindOf x=some .local/\m x=some u)\/((env.kindOf x=some .cell\/env.kindOf x=some .free)/\∃c,env.cells.lookup x=some c/\h.IsCell c (some u))
structure Cx.Ok(X:Cx):Prop where
 mod:Mod X.K X.mg X.base
 kind:X.env.scope.kind=.function
 glob:X.env.globals=bq
 blt:X.env.builtins=kY
 above:X.s₀.heap.objs.size<=X.env.locals
 inj:∀x y c,X.env.cells.lookup x=some c->X.env.cells.lookup y=some c->x=y
 has:∀x,(X.env.kindOf x=some .cell\/X.env.kindOf x=some .free)->∃c,X.env.cells.lookup x=some c
 cab:∀x c,X.fn x=true->X.env.cells.lookup x=some c->X.s₀.heap.objs.size<=c
 hd:X.calm=true->X.A.handled=none
 frames:X.A.frames=some X.stack
 stk:X.stack=X.outer\/(X.stack=X.env::X.outer/\X.env.frame=some X.env.locals)
 exf:∀b∈X.ex,b≠X.env.locals/\∀x c,X.env.cells.lookup x=some c->c≠b
 bs:∀b o,X.base.get? b=some o->X.s₀.heap.get? b=some o/\X.H₀ b=none
 bsz:X.base.objs.size<=X.s₀.heap.objs.size
 noex:∀b o,X.base.get? b=some o->b∉X.ex
 exfs:∀b∈X.ex,b∉X.fs
 tG:X.s₀.heap.FunFrames X.base X.outer
 frf:∀b∈X.fs,X.H₀ b=none
structure Inv(X:Cx)(pins:List (Addr×Obj))(σ:List (Option V))(H:Hp)(s:Shared):Prop where
 ok:X.Ok
 os:s.os=X.s₀.os
 bare:l9 s.gens
 base:Un X.fs X.ex X.H₀ H X.s₀.heap s.heap
 loc:∃m,s.heap.Ns X.env.locals m/\∀(i:Nat)(x:Str)(v:V),X.N[i]? =some x->σ[i]? =some (some v)->Vis X.env.scope x->∃u,RelV v u/\Look X.env s.heap m x u
 cell:∀x c,X.env.cells.lookup x=some c->∃v,s.heap.IsCell c v
 free:H X.env.locals=none
 freeC:∀x c,X.env.cells.lookup x=some c->H c=none
 pin:∀p∈X.pn++pins,s.heap.get? p.1=some p.2/\H p.1=none/\p.1≠X.env.locals/\p.1∉X.fs/\∀v,p.2.data≠.cell v
 hok:HOk X.prog X.w H s.heap
 len:σ.length=X.N.length
section
variable {X:Cx}{pins:List (Addr×Obj)}{σ:List (Option V)}{H H':Hp}{s:Shared}{h':Heap}
theorem Cx.Ok.nofr(ok:X.Ok){b:Addr}{o:Obj}(e:X.base.get? b=some o):b∉X.fs:=fun hb=>by
 have :=(ok.tG.mem hb).1
 rw[e]at this;cases this
theorem Inv.bs(I:Inv X pins σ H s):∀b o,X.base.get? b=some o->s.heap.get? b=some o/\H b=none:=fun b o e=>
 ⟨I.base.keep b o (I.ok.bs b o e).1 (I.ok.bs b o e).2 (I.ok.nofr e) (I.ok.noex b o e),I.base.free b o (I.ok.bs b o e).1 (I.ok.bs b o e).2 (I.ok.noex b o e)⟩
theorem Inv.bk(I:Inv X pins σ H s):∀b o,X.base.get? b=some o->s.heap.get? b=some o:=fun b o e=>(I.bs b o e).1
theorem Inv.mod(I:Inv X pins σ H s):Mod X.K X.mg X.base:=I.ok.mod
theorem Inv.kIn(I:Inv X pins σ H s):X.K.In s.heap:=I.ok.mod.kin.keeps I.bk
theorem Inv.nolimit(I:Inv X pins σ H s):s.heap.NoLimit:=I.ok.mod.nolimit.keeps I.bk
theorem Inv.lt(I:Inv X pins σ H s):X.env.locals<s.heap.objs.size:=let⟨_,hn,_⟩:=I.loc;hn.lt
theorem Inv.sz(I:Inv X pins σ H s):X.s₀.heap.objs.size<=s.heap.objs.size:=aI I.ok.above (jN I.lt)
theorem Inv.nofs(I:Inv X pins σ H s){a:Addr}(h:s.heap.objs.size<=a):a∉X.fs:=fun hb=>by
 obtain⟨_,o,ho,_⟩:=I.ok.tG.mem hb;exact absurd (bh (aw ho) (aI I.sz h)) (d5 _)
theorem Inv.cne(I:Inv X pins σ H s):∀x c,X.env.cells.lookup x=some c->c≠X.env.locals:=fun x c e z=>by
 obtain⟨v,o,ho,hd⟩:=I.cell x c e;obtain⟨m,⟨o',es,ep,ho',hd',_⟩,_⟩:=I.loc;rw[z,ho']at ho;cases ho;rw[hd']at hd;cases hd
theorem Inv.tG(I:Inv X pins σ H s):s.heap.FunFrames X.base X.outer:=by
 have all:∀(l:List Env),(∀b∈frs l,b∈X.fs)->X.s₀.heap.FunFrames X.base l->s.heap.FunFrames X.base l:=by
  intro l
  induction l with
  |nil=>intro _ _;trivial
  |cons env r ih=>
   intro hs hl;obtain⟨hk,⟨L,o,hf,hn,ho,hd⟩,hr⟩:=hl;have hL:L∈X.fs:=hs L (by unfold frs;rw[jm,hf];exact aG);obtain⟨sl,e⟩:=I.base.slot L o ho (I.ok.frf L hL) hL fun z=>I.ok.exfs L z hL;exact⟨hk,⟨L,_,hf,hn,e,hd⟩,ih (fun b hb=>hs b (by unfold frs;rw[jm,hf];exact aM _ hb)) hr⟩
 exact all X.outer (fun _ hb=>hb) I.ok.tG
theorem Inv.stack(I:Inv X pins σ H s):s.heap.FunFrames X.base X.stack:=by
 rcases I.ok.stk with e|⟨e,hf⟩
 ·rw[e];exact I.tG
 ·rw[e]
  obtain⟨m,hn,_⟩:=I.loc;refine .cons (by rw[I.ok.kind];decide) hf hn ?_ I.tG;exact D4 (aI I.ok.bsz I.ok.above)
theorem Inv.zL(I:Inv X pins σ H s):∀b∈frs X.stack,b∈X.env.locals::X.fs:=fun b hb=>by
 rcases I.ok.stk with e|⟨e,hf⟩
 ·rw[e]at hb;exact aM _ hb
 ·rw[e]at hb
  unfold frs at hb;rw[jm,hf]at hb;exact hb
theorem Inv.vt(I:Inv X pins σ H s):∀b∈frs X.stack,H b=none:=fun b hb=>by
 rcases ay.mp (I.zL b hb)with e|hb
 ·rw[e];exact I.free
 ·obtain⟨_,o,ho,_⟩:=I.ok.tG.mem hb
  exact I.base.free b o ho (I.ok.frf b hb) fun z=>I.ok.exfs b z hb
theorem Inv.step{g':Array xg}{t':Nat}{d':Drawn}{ch:List Addr}(I:Inv X pins σ H s)
  (hch:∀b∈ch,(b∈X.ex\/X.s₀.heap.objs.size<=b)/\b≠X.env.locals/\(∀x c,X.env.cells.lookup x=some c->c≠b)/\∀p∈X.pn++pins,p.1≠b)
  (keep:∀b o,b≠X.env.locals->b∉X.fs->b∉ch->s.heap.get? b=some o->H b=none->h'.get? b=some o)
  (slot:∀b o,b≠X.env.locals->b∈X.fs->b∉ch->s.heap.get? b=some o->H b=none->∃sl,h'.get? b=some {o with slots:=sl}) (free:∀b o,b∉ch->s.heap.get? b=some o->H b=none->H' b=none)
  (there:∀b o,b∉ch->s.heap.get? b=some o->∃o',h'.get? b=some o')
  (tups:∀b xs,H b=some (.tup xs)->H' b=some (.tup xs)) (frzs:∀b o u,H b=some (.frz o u)->H' b=some (.frz o u)) (tbls:∀b ps,H b=some (.tbl ps)->∃more,H' b=some (.tbl (ps++more)))
  (ns:∀m,s.heap.Ns X.env.locals m->h'.Ns X.env.locals m) (hok:HOk X.prog X.w H' h') (hg:l9 g'):
  Inv X pins σ H' {s with heap:=h',gens:=g',drawn:=d',toks:=t'}:=by
 have neL:∀b o,X.s₀.heap.get? b=some o->b≠X.env.locals:=fun b o e=>aB (bh (aw e) I.ok.above);have neC:∀b o,X.s₀.heap.get? b=some o->b∉X.ex->b∉ch:=fun b o e hx hb=>by
  rcases(hch b hb).1 with z|z
  ·exact hx z
  ·exact absurd (bh (aw e) z) (d5 _)
 have cellK:∀x c,X.env.cells.lookup x=some c->∀v,s.heap.IsCell c v->h'.IsCell c v:=fun x c e v ⟨o,ho,hd⟩=>by
  have nch:c∉ch:=fun z=>(hch c z).2.2.1 x c e rfl;by_cases hc:c∈X.fs
  ·obtain⟨sl,q⟩:=slot c o (I.cne x c e) hc nch ho (I.freeC x c e)
   exact⟨_,q,hd⟩
  ·exact⟨o,keep c o (I.cne x c e) hc nch ho (I.freeC x c e),hd⟩
 refine⟨I.ok,I.os,hg,⟨fun b o e n hb hx=>?_,fun b o e n hb hx=>?_,fun b o e n hx=>?_,fun b o e hx=>?_,fun b xs e=>tups b xs (I.base.tups b xs e),fun b o xs e=>frzs b o xs (I.base.frzs b o xs e),fun b ps e=>?_⟩,?_,fun x c e=>?_,?_,fun x c e=>?_,fun p hp=>?_,hok,I.len⟩
 ·exact keep b o (neL b o e) hb (neC b o e hx) (I.base.keep b o e n hb hx) (I.base.free b o e n hx)
 ·obtain⟨sl,e1⟩:=I.base.slot b o e n hb hx
  obtain⟨sl',e2⟩:=slot b _ (neL b o e) hb (neC b o e hx) e1 (I.base.free b o e n hx);exact⟨sl',e2⟩
 ·obtain⟨o',e1⟩:=I.base.there b o e hx
  exact free b o' (neC b o e hx) e1 (I.base.free b o e n hx)
 ·obtain⟨o',e1⟩:=I.base.there b o e hx
  exact there b o' (neC b o e hx) e1
 ·obtain⟨m1,e1⟩:=I.base.tbls b ps e
  obtain⟨m2,e2⟩:=tbls b _ e1;exact⟨m1++m2,by rw[e2,Array.append_assoc]⟩
 ·obtain⟨m,hn,hl⟩:=I.loc
  refine⟨m,ns m hn,fun i x v e1 e2 e3=>?_⟩;obtain⟨u,r,l⟩:=hl i x v e1 e2 e3;refine⟨u,r,?_⟩;rcases l with l|⟨k,c,e,z⟩
  ·exact .inl l
  ·exact .inr ⟨k,c,e,cellK x c e _ z⟩
 ·obtain⟨v,z⟩:=I.cell x c e
  exact⟨v,cellK x c e v z⟩
 ·obtain⟨m,⟨o,_,_,ho,_⟩,_⟩:=I.loc
  exact free _ o (fun z=>(hch _ z).2.1 rfl) ho I.free
 ·obtain⟨v,o,ho,hd⟩:=I.cell x c e
  exact free c o (fun z=>(hch c z).2.2.1 x c e rfl) ho (I.freeC x c e)
 ·obtain⟨e,n,ne,nf,d⟩:=I.pin p hp
  have nch:p.1∉ch:=fun z=>(hch p.1 z).2.2.2 p hp rfl;exact⟨keep p.1 p.2 ne nf nch e n,free p.1 p.2 nch e n,ne,nf,d⟩
theorem Inv.un{t':Nat}(I:Inv X pins σ H s)(u:Un X.fs [] H H' s.heap h')(hok:HOk X.prog X.w H' h'):Inv X pins σ H' {s with heap:=h',toks:=t'}:=by
 obtain⟨m,⟨o,es,ep,ho,r⟩,_⟩:=id I.loc;obtain⟨sl,hL⟩:=u.any ho I.free (by simp);exact I.step (g':=s.gens) (d':=s.drawn) (ch:=[]) (fun _ z=>nomatch z) (fun b o _ hb _ e n=>u.keep b o e n hb (by simp)) (fun b o _ hb _ e n=>u.slot b o e n hb (by simp)) (fun b o _ e n=>u.free b o e n (by simp)) (fun b o _ e=>u.there b o e (by simp)) u.tups u.frzs u.tbls (fun m' hm=>by
  obtain⟨o',es',ep',ho',r'⟩:=hm;rw[ho]at ho';cases ho';exact⟨_,es',ep',hL,r'⟩) hok I.bare
theorem Inv.call{g':Array xg}{t':Nat}{d':Drawn}{ch:List Addr}(I:Inv X pins σ H s)(u:Un (frs X.stack) ch H H' s.heap h')(hok:HOk X.prog X.w H' h')(hg:l9 g')
  (hch:∀b∈ch,(b∈X.ex\/X.s₀.heap.objs.size<=b)/\b≠X.env.locals/\(∀x c,X.env.cells.lookup x=some c->c≠b)/\∀p∈X.pn++pins,p.1≠b):
  Inv X pins σ H' {s with heap:=h',gens:=g',drawn:=d',toks:=t'}:=by
 obtain⟨m,⟨o,es,ep,ho,r⟩,_⟩:=id I.loc;obtain⟨sl,hL⟩:=u.any ho I.free fun z=>(hch _ z).2.1 rfl;exact I.step (ch:=ch) hch (fun b o hL hb hc e n=>u.keep b o e n (fun z=>(ay.mp (I.zL b z)).elim hL hb) hc) (fun b o _ _ hc e n=>u.any e n hc) (fun b o hc e n=>u.free b o e n hc) (fun b o hc e=>u.there b o e hc) u.tups u.frzs u.tbls (fun m' hm=>by
  obtain⟨o',es',ep',ho',r'⟩:=hm;rw[ho]at ho';cases ho';exact⟨_,es',ep',hL,r'⟩) hok hg
theorem Inv.turned{t':Nat}{it:Addr}(I:Inv X pins σ H s)(k:∀b o,b≠it->s.heap.get? b=some o->h'.get? b=some o)(hn:H it=none)(hL:it≠X.env.locals)
  (h1:it∈X.ex\/X.s₀.heap.objs.size<=it)(h2:∀x c,X.env.cells.lookup x=some c->c≠it)(h3:∀p∈X.pn++pins,p.1≠it):Inv X pins σ H {s with heap:=h',toks:=t'}:=by
 have nit:∀b u,H b=some u->b≠it:=fun b u e z=>by rw[z,hn]at e;cases e
 refine I.step (g':=s.gens) (d':=s.drawn) (ch:=[it]) (fun b hb=>?_) (fun b o _ _ hc e _=>k b o (fun z=>hc (by simp[z])) e) (fun b o _ _ hc e _=>⟨o.slots,k b o (fun z=>hc (by simp[z])) e⟩) (fun _ _ _ _ n=>n)
  (fun b o hc e=>⟨o,k b o (fun z=>hc (by simp[z])) e⟩) (fun _ _ e=>e) (fun _ _ _ e=>e) (fun b ps e=>⟨#[],by rw[e];simp⟩) (fun m hm=>?_) (fun b u e=>?_) I.bare
 ·have e:b=it:=by simpa using hb
  subst e;exact⟨h1,hL,h2,h3⟩
 ·obtain⟨o,es,ep,ho,r⟩:=hm
  exact⟨o,es,ep,k _ o (bZ hL) ho,r⟩
 ·refine(I.hok b u e).qR (fun c v hc q=>k c v ?_ q) (fun _ q=>q) fun _ _ q=>q
  rcases hc with z|z
  ·rw[z];exact nit b u e
  ·exact nit c _ z
theorem Inv.tok(I:Inv X pins σ H s)(t:Nat):Inv X pins σ H {s with toks:=t}:=I.un (h':=s.heap) (t':=t) Un.refl I.hok
theorem Inv.kept{t':Nat}(I:Inv X pins σ H s)(k:∀b u,s.heap.get? b=some u->h'.get? b=some u):Inv X pins σ H {s with heap:=h',toks:=t'}:=I.un (Un.kept k) (I.hok.kept k)
theorem Inv.laid{a:Addr}{o:HO}{t':Nat}(I:Inv X pins σ H s)(k:∀b u,s.heap.get? b=some u->h'.get? b=some u)(hp:s.heap.objs.size<=a)(new:dR X.prog X.w (upd H a o) h' a o):
  Inv X pins σ (upd H a o) {s with heap:=h',toks:=t'}:=I.un (Un.laid k hp (I.hok.fresh hp)) (I.hok.laid k hp new)
theorem Inv.write{x e:Addr}{o:HO}{t':Nat}(I:Inv X pins σ H s)(mu:Mut (H x))(he:e=x\/H e=some (.own x))(k:∀b u,b≠e->s.heap.get? b=some u->h'.get? b=some u)(heo:∃u,h'.get? e=some u)
  (new:dR X.prog X.w (upd H x o) h' x o):Inv X pins σ (upd H x o) {s with heap:=h',toks:=t'}:=I.un (Un.write mu he k heo) (I.hok.write mu he k heo new)
theorem Inv.vT{pins':List (Addr×Obj)}(I:Inv X pins σ H s)(h:∀p∈pins',s.heap.get? p.1=some p.2/\H p.1=none/\p.1≠X.env.locals/\p.1∉X.fs/\∀v,p.2.data≠.cell v):Inv X pins' σ H s:=
 ⟨I.ok,I.os,I.bare,I.base,I.loc,I.cell,I.free,I.freeC,fun p hp=>(cj.mp hp).elim (fun z=>I.pin p (nC _ z)) (h p),I.hok,I.len⟩
theorem yd{N:List Str}(hN:N.Nodup){i j:Nat}{x:Str}(a:N[i]? =some x)(b:N[j]? =some x):i=j:=by
 obtain⟨h1,e1⟩:=aF.mp a;obtain⟨h2,e2⟩:=aF.mp b;exact(cW hN).mp (e1.trans e2.symm)
theorem Cb{M:Model}{A:Around}{E:Value->Shared->Prop}{i:Nat}{x:Str}{v:V}{u:Value}{Q:Unit->Shared->Prop}(I:Inv X pins σ H s)(hN:X.N.Nodup)(hi:X.N[i]? =some x)(hx:Loc X.env.scope x)(r:RelV v u)
  (h:∀s',Inv X pins (σ.set i (some v)) H s'->(∃a,cY a s.heap s'.heap/\(a=X.env.locals\/X.env.cells.lookup x=some a))->Q () s')(hf:X.fn x=true\/X.env.scope.names.lookup x=some .local:=by first |exact .inl rfl|exact .inr rfl|assumption):wpAny M A (storeName X.env x u) Q E s:=by
 obtain⟨m,hn,hl⟩:=id I.loc;have hcls:(X.env.scope.kind== .class||(X.env.scope.kind== .module&&X.env.locals != X.env.globals))=false:=by rw[I.ok.kind];rfl
 have hiσ:i<σ.length:=by rw[I.len];exact(aF.mp hi).1
 have cne:=I.cne;have tracked:∀{a:Addr}{h':Heap},(∃o,s.heap.get? a=some o/\H a=none)->cY a s.heap h'->HOk X.prog X.w H h':=fun{a h'} ha hs b ob e=>by
  obtain⟨_,_,hfree⟩:=ha;refine(I.hok b ob e).qR (fun c w' hc q=>(hs.2 c ?_).trans q) (fun _ q=>q) fun _ _ q=>q;rintro rfl;rcases hc with rfl|hc
  ·rw[hfree]at e;cases e
  ·rw[hfree]at hc;cases hc
 rcases hx with hk|hk
 ·refine wpAny_storeName_local hk hn (fun h' hn' hs=>?_) hcls
  obtain⟨oL,_,_,hoL,_⟩:=id hn;refine h _ ⟨I.ok,I.os,I.bare,⟨fun b o e n hb hx=>?_,fun b o e n hb hx=>?_,I.base.free,fun b o e hx=>?_,I.base.tups,I.base.frzs,I.base.tbls⟩,⟨_,hn',fun j y v' e1 e2 e3=>?_⟩,fun y c e=>?_,I.free,I.freeC,fun p hp=>?_,tracked ⟨oL,hoL,I.free⟩ hs,by simpa using I.len⟩ ⟨_,hs,.inl rfl⟩
  ·exact(hs.2 b (aB (bh (aw e) I.ok.above))).trans (I.base.keep b o e n hb hx)
  ·obtain⟨sl,e1⟩:=I.base.slot b o e n hb hx
   exact⟨sl,(hs.2 b (aB (bh (aw e) I.ok.above))).trans e1⟩
  ·obtain⟨o',e1⟩:=I.base.there b o e hx
   exact⟨o',(hs.2 b (aB (bh (aw e) I.ok.above))).trans e1⟩
  ·by_cases hj:j=i
   ·subst hj
    rw[hi]at e1;cases e1;rw[B2 hiσ]at e2;cases e2;exact⟨u,r,.inl ⟨hk,by simp⟩⟩
   ·rw[DZ (bZ hj)]at e2
    obtain⟨u',r',q⟩:=hl j y v' e1 e2 e3;refine⟨u',r',?_⟩;rcases q with⟨k,e⟩ |⟨k,c,e,z⟩
    ·refine .inl ⟨k,?_⟩
     have :y≠x:=fun e=>hj (yd hN e1 (e▸hi));simp[this,e]
    ·exact .inr ⟨k,c,e,z.sameBut hs (cne y c e)⟩
  ·obtain⟨w',z⟩:=I.cell y c e
   exact⟨w',z.sameBut hs (cne y c e)⟩
  ·obtain⟨e,n,ne,nf,d⟩:=I.pin p hp
   exact⟨(hs.2 p.1 ne).trans e,n,ne,nf,d⟩
 ·have hfn:X.fn x=true:=by
   rcases hf with z|z
   ·exact z
   ·rw[z]at hk;cases hk
  obtain⟨c,hc⟩:=I.ok.has x (.inl hk);obtain⟨w',z⟩:=I.cell x c hc;refine wpAny_storeName_cell I.ok.kind hk hc z (fun h' hc' hs=>?_);obtain⟨oc,hoc,hocd⟩:=id z;refine h {s with heap:=h'} ⟨I.ok,I.os,I.bare,⟨fun b o e n hb hx=>?_,fun b o e n hb hx=>?_,I.base.free,fun b o e hx=>?_,I.base.tups,I.base.frzs,I.base.tbls⟩,⟨m,hn.sameBut hs (bZ (cne x c hc)),fun j y v' e1 e2 e3=>?_⟩,fun y c' e=>?_,I.free,I.freeC,fun p hp=>?_,tracked ⟨oc,hoc,I.freeC x c hc⟩ hs,by simpa using I.len⟩ ⟨c,hs,.inr hc⟩
  ·exact(hs.2 b (aB (bh (aw e) (I.ok.cab x c hfn hc)))).trans (I.base.keep b o e n hb hx)
  ·obtain⟨sl,e1⟩:=I.base.slot b o e n hb hx
   exact⟨sl,(hs.2 b (aB (bh (aw e) (I.ok.cab x c hfn hc)))).trans e1⟩
  ·obtain⟨o',e1⟩:=I.base.there b o e hx
   exact⟨o',(hs.2 b (aB (bh (aw e) (I.ok.cab x c hfn hc)))).trans e1⟩
  ·by_cases hj:j=i
   ·subst hj
    rw[hi]at e1;cases e1;rw[B2 hiσ]at e2;cases e2;exact⟨u,r,.inr ⟨.inl hk,c,hc,hc'⟩⟩
   ·rw[DZ (bZ hj)]at e2
    obtain⟨u',r',q⟩:=hl j y v' e1 e2 e3;refine⟨u',r',?_⟩;rcases q with q|⟨k,c',e,z'⟩
    ·exact .inl q
    ·refine .inr ⟨k,c',e,z'.sameBut hs ?_⟩
     rintro rfl;exact hj (yd hN e1 (I.ok.inj _ _ _ e hc▸hi))
  ·by_cases hcc:c'=c
   ·subst hcc;exact⟨_,hc'⟩
   ·obtain⟨w2,z2⟩:=I.cell y c' e
    exact⟨w2,z2.sameBut hs hcc⟩
  ·obtain⟨e,n,ne,nf,d⟩:=I.pin p hp
   refine⟨(hs.2 p.1 ?_).trans e,n,ne,nf,d⟩;intro q;rw[q,hoc]at e;have q':oc=p.2:=aV e;exact d w' (by rw[<-q'];exact hocd)
theorem xF{M:Model}{A:Around}{E:Value->Shared->Prop}{i:Nat}{x:Str}{v:V}{u:Value}{Q:Unit->Shared->Prop}(I:Inv X pins σ H s)(hN:X.N.Nodup)(hi:X.N[i]? =some x)(hx:Loc X.env.scope x)(r:RelV v u)
  (h:∀s',Inv X pins (σ.set i (some v)) H s'->Q () s')(hf:X.fn x=true\/X.env.scope.names.lookup x=some .local:=by first |exact .inl rfl|exact .inr rfl|assumption):wpAny M A (storeName X.env x u) Q E s:=
 Cb I hN hi hx r (fun s' I' _=>h s' I') hf
theorem Inv.call'{s':Shared}{ch:List Addr}(I:Inv X pins σ H s)(ho:s'.os=s.os)(u:Un (frs X.stack) ch H H' s.heap s'.heap)(hok:HOk X.prog X.w H' s'.heap)(hg:l9 s'.gens)
  (hch:∀b∈ch,(b∈X.ex\/X.s₀.heap.objs.size<=b)/\b≠X.env.locals/\(∀x c,X.env.cells.lookup x=some c->c≠b)/\∀p∈X.pn++pins,p.1≠b):Inv X pins σ H' s':=by
 obtain⟨h',g',d',t',o'⟩:=s';have e:o'=s.os:=ho;subst e;exact I.call (g':=g') (t':=t') (d':=d') u hok hg hch
end
noncomputable abbrev XK:=Value->Option Addr->Hp->Prop
noncomputable abbrev St:=List (Option V)
noncomputable abbrev VK:=V->Hp->Prop
noncomputable abbrev TE:=St->Hp->VK->Prop
noncomputable abbrev TT:=St->Hp->(Bool->Hp->Prop)->Prop
noncomputable abbrev TA:=St->Hp->(List V->Hp->Prop)->Prop
structure Ends where
 nx:St->Hp->Prop
 rt:VK
 bk:St->Hp->Prop:=fun _ _=>False
 ct:St->Hp->Prop:=fun _ _=>False
noncomputable abbrev TS:=Ends->St->Hp->Prop
noncomputable def EP(X:Cx)(pins:List (Addr×Obj))(σ:St)(Q:VK)(u:Value)(s':Shared):Prop:=∃v H',Inv X pins σ H' s'/\RelV v u/\Q v H'
noncomputable def TP(X:Cx)(pins:List (Addr×Obj))(σ:St)(Q:Bool->Hp->Prop)(b:Bool)(s':Shared):Prop:=∃H',Inv X pins σ H' s'/\Q b H'
noncomputable def AP(X:Cx)(pins:List (Addr×Obj))(σ:St)(Q:List V->Hp->Prop)(us:List Value)(s':Shared):Prop:=∃vs H',Inv X pins σ H' s'/\bL vs us/\Q vs H'
noncomputable def SP(X:Cx)(pins:List (Addr×Obj))(D:Ends)(f:Flow)(s':Shared):Prop:=
 match f with
 |.next=>∃σ' H',Inv X pins σ' H' s'/\D.nx σ' H'
 |.brk=>∃σ' H',Inv X pins σ' H' s'/\D.bk σ' H'
 |.cont=>∃σ' H',Inv X pins σ' H' s'/\D.ct σ' H'
 |.ret u=>∃v σ' H',Inv X pins σ' H' s'/\RelV v u/\D.rt v H'
noncomputable def PE(X:Cx)(e:Expr)(t:TE):Prop:=
 ∀(pins:List (Addr×Obj))(s:Shared)(σ:St)(H:Hp)(Q:VK),Inv X pins σ H s->t σ H Q->wpAny (model X.prog X.w) X.A (eval e X.env) (EP X pins σ Q) X.xe s
noncomputable def PT(X:Cx)(e:Expr)(t:TT):Prop:=
 ∀(pins:List (Addr×Obj))(s:Shared)(σ:St)(H:Hp)(Q:Bool->Hp->Prop),Inv X pins σ H s->t σ H Q->wpAny (model X.prog X.w) X.A (isTrue e X.env (eval e X.env)) (TP X pins σ Q) X.xe s
noncomputable def PW(X:Cx)(e:Expr)(t:TT):Prop:=
 ∀(whole:Sem Value)(pins:List (Addr×Obj))(s:Shared)(σ:St)(H:Hp)(Q:Bool->Hp->Prop),Inv X pins σ H s->t σ H Q->wpAny (model X.prog X.w) X.A (isTrue e X.env whole) (TP X pins σ Q) X.xe s
theorem PW.pt{X:Cx}{e:Expr}{t:TT}(h:PW X e t):PT X e t:=h _
noncomputable def PA(X:Cx)(es:List Expr)(t:TA):Prop:=
 ∀(pos:Pos)(pins:List (Addr×Obj))(s:Shared)(σ:St)(H:Hp)(Q:List V->Hp->Prop),Inv X pins σ H s->t σ H Q->wpAny (model X.prog X.w) X.A (spliced (backTo pos (bc es X.env))) (AP X pins σ Q) X.xe s
noncomputable def PS(X:Cx)(st:Stmt)(t:TS):Prop:=
 ∀(pins:List (Addr×Obj))(s:Shared)(σ:St)(H:Hp)(D:Ends),Inv X pins σ H s->t D σ H->wpAny (model X.prog X.w) X.A (exec st X.env) (SP X pins D) X.xe s
noncomputable def PSs(X:Cx)(st:List Stmt)(t:TS):Prop:=
 ∀(pins:List (Addr×Obj))(s:Shared)(σ:St)(H:Hp)(D:Ends),Inv X pins σ H s->t D σ H->wpAny (model X.prog X.w) X.A (execs st X.env) (SP X pins D) X.xe s
theorem thn{α:Type}{t:Sem α}{Q Q':α->Shared->Prop}{M:Model}{A:Around}{E:Value->Shared->Prop}{s:Shared}(h:wpAny M A t Q E s)(hQ:∀a s,Q a s->Q' a s):wpAny M A t Q' E s:=eD h hQ fun _ _ x=>x
section
variable {X:Cx}
noncomputable def kR(i:Nat):TE:=fun σ H Q=>∃v,σ[i]? =some (some v)/\Q v H
noncomputable def tC(v:V):TE:=fun _ H Q=>Q v H
theorem Fd{i:Nat}{x:Str}{pos:Pos}(hN:X.N[i]? =some x)(hv:Vis X.env.scope x)(hd:(x==("__debug__":Str))=false:=by decide) (hcd:(x==("__classdict__":Str))=false:=by decide):PE X (.Name x pos) (kR i):=by
 intro pins s σ H Q I h;obtain⟨v,e,h⟩:=h;obtain⟨m,hn,hl⟩:=I.loc;obtain⟨u,r,l⟩:=hl i x v hN e hv;have fin:EP X pins σ Q u s:=⟨v,H,I,r,h⟩;rcases l with⟨hk,hm⟩ |⟨hk,c,hc,hcell⟩
 ·exact DF (wpAny_loadName_local I.ok.kind hk hn hm fin) hd
 ·rcases hk with hk|hk
  ·exact DF (wpAny_loadName_cell I.ok.kind hk hc hcell fin) hd
  ·exact DF (wpAny_loadName_free I.ok.kind hk hc hcell fin hcd) hd
theorem Fi{i j pos}:PE X (.Constant (.int i) j pos) (tC (.int i)):=fun _ _ _ H _ I h=>wpAny_Constant_int ⟨.int i,H,I.tok _,⟨_,rfl⟩,h⟩
theorem pe_bl{b j pos}:PE X (.Constant (.bool b) j pos) (tC (.bl b)):=fun _ _ _ H _ I h=>Constant_bool ⟨.bl b,H,I,rfl,h⟩
theorem pe_non{j pos}:PE X (.Constant .none j pos) (tC .non):=fun _ _ _ H _ I h=>Constant_none ⟨.non,H,I,rfl,h⟩
theorem pe_str{x j pos}:PE X (.Constant (.str x) j pos) (tC (.str x)):=fun _ _ _ H _ I h=>Calls.Constant_str ⟨.str x,H,I.tok _,⟨_,rfl⟩,h⟩
noncomputable def Gl(X:Cx)(x:Str):Prop:=X.env.kindOf x=some .globalImplicit
theorem nW{E:Value->Shared->Prop}{pins:List (Addr×Obj)}{s:Shared}{σ:St}{H:Hp}{x:Str}{u:Value}{pos:Pos}{Q:Value->Shared->Prop}(I:Inv X pins σ H s)(hg:Gl X x)(hm:X.mg x=some u)(h:Q u s)
  (hd:(x==("__debug__":Str))=false:=by decide):wpAny (model X.prog X.w) X.A (eval (.Name x pos) X.env) Q E s:=
 xj I.ok.kind hg (Calls.loadGlobal_global (by rw[I.ok.glob];exact I.mod.glob.keeps I.bk) hm h) hd
theorem iu{E:Value->Shared->Prop}{pins:List (Addr×Obj)}{s:Shared}{σ:St}{H:Hp}{x:Str}{u:Value}{pos:Pos}{Q:Value->Shared->Prop}(I:Inv X pins σ H s)(hg:Gl X x)(hm:X.mg x=none)(hv:eK x=some u)(h:Q u s)
  (hn:x≠"__name__":=by decide) (hd:(x==("__debug__":Str))=false:=by decide):wpAny (model X.prog X.w) X.A (eval (.Name x pos) X.env) Q E s:=by
 obtain⟨mb,h1,h2⟩:=I.mod.blt;exact xj I.ok.kind hg (Calls.loadGlobal_builtin (by rw[I.ok.glob];exact I.mod.glob.keeps I.bk) hm (by rw[I.ok.blt];exact h1.keeps I.bk) ((h2 x hn).trans hv) h) hd
theorem Bh{x:Str}{v:V}{u:Value}{pos:Pos}(hg:Gl X x)(hm:X.mg x=some u)(r:RelV v u)(hd:(x==("__debug__":Str))=false:=by decide):PE X (.Name x pos) (tC v):=
 fun _ _ _ H _ I h=>nW I hg hm ⟨v,H,I,r,h⟩ hd
theorem pe_bltn{x:Str}{v:V}{u:Value}{pos:Pos}(hg:Gl X x)(hm:X.mg x=none)(hv:eK x=some u)(r:RelV v u)(hn:x≠"__name__":=by decide) (hd:(x==("__debug__":Str))=false:=by decide):PE X (.Name x pos) (tC v):=
 fun _ _ _ H _ I h=>iu I hg hm hv ⟨v,H,I,r,h⟩ hn hd
variable {a b:Expr}{ta tb:TE}{pos:Pos}
variable {tA tB':TT}{rest:List Expr}
noncomputable def tAnd(t u:TT):TT:=fun σ H Q=>t σ H fun c H1=>if c=true then u σ H1 Q else Q false H1
noncomputable def tOr(t u:TT):TT:=fun σ H Q=>t σ H fun c H1=>if c=true then Q true H1 else u σ H1 Q
noncomputable def tNot(t:TT):TT:=fun σ H Q=>t σ H fun c H1=>Q (!c) H1
theorem Bc(ha:PT X a tA):PW X (.BoolOp .And [a] pos) tA:=by
 intro wh pins s σ H Q I h;refine isTrue_and (thn (ha pins s σ H Q I h) fun c s1 e=>?_);cases c with
 |true=>exact isTrue_and_nil e
 |false=>exact e
theorem EZ(ha:PT X a tA):PW X (.BoolOp .Or [a] pos) tA:=by
 intro wh pins s σ H Q I h;refine isTrue_or (thn (ha pins s σ H Q I h) fun c s1 e=>?_);cases c with
 |false=>exact isTrue_or_nil e
 |true=>exact e
theorem vS(ha:PT X a tA)(hb:PW X (.BoolOp .And (b::rest) pos) tB'):PW X (.BoolOp .And (a::b::rest) pos) (tAnd tA tB'):=by
 intro wh pins s σ H Q I h;refine isTrue_and (thn (ha pins s σ H _ I h) fun c s1 ⟨H1,I1,q1⟩=>?_);cases c with
 |true=>exact hb wh pins s1 σ H1 Q I1 q1
 |false=>exact⟨H1,I1,q1⟩
theorem Bb(ha:PT X a tA)(hb:PW X (.BoolOp .Or (b::rest) pos) tB'):PW X (.BoolOp .Or (a::b::rest) pos) (tOr tA tB'):=by
 intro wh pins s σ H Q I h;refine isTrue_or (thn (ha pins s σ H _ I h) fun c s1 ⟨H1,I1,q1⟩=>?_);cases c with
 |true=>exact⟨H1,I1,q1⟩
 |false=>exact hb wh pins s1 σ H1 Q I1 q1
theorem pt_not(ha:PT X a tA):PT X (.UnaryOp .Not a pos) (tNot tA):=by
 intro pins s σ H Q I h;exact isTrue_not (ha pins s σ H (fun c H1=>Q (!c) H1) I h)
noncomputable def Et(ta tb:TE):TE:=fun σ H Q=>ta σ H fun x H1=>∃c,x=.bl c/\if c=true then tb σ H1 Q else Q (.bl false) H1
noncomputable def tOrV(ta tb:TE):TE:=fun σ H Q=>ta σ H fun x H1=>∃c,x=.bl c/\if c=true then Q (.bl true) H1 else tb σ H1 Q
noncomputable def Eo(ta:TE):TE:=fun σ H Q=>ta σ H fun x H1=>∃c,x=.bl c/\Q (.bl (!c)) H1
theorem Fg{op}{t:TE}(h:PE X a t):PE X (.BoolOp op [a] pos) t:=fun pins s σ H Q I hw=>BoolOp_one (h pins s σ H Q I hw)
theorem Fo(ha:PE X a ta)(hb:PE X (.BoolOp .And (b::rest) pos) tb):PE X (.BoolOp .And (a::b::rest) pos) (Et ta tb):=by
 intro pins s σ H Q I h;refine BoolOp_and (thn (ha pins s σ H _ I h) fun v s1 ⟨x,H1,I1,r1,q1⟩=>?_);obtain⟨c,rfl,q1⟩:=q1;cases r1;refine cQ ?_;cases c with
 |true=>exact hb pins s1 σ H1 Q I1 q1
 |false=>exact⟨.bl false,H1,I1,rfl,q1⟩
theorem pe_or(ha:PE X a ta)(hb:PE X (.BoolOp .Or (b::rest) pos) tb):PE X (.BoolOp .Or (a::b::rest) pos) (tOrV ta tb):=by
 intro pins s σ H Q I h;refine BoolOp_or (thn (ha pins s σ H _ I h) fun v s1 ⟨x,H1,I1,r1,q1⟩=>?_);obtain⟨c,rfl,q1⟩:=q1;cases r1;refine cQ ?_;cases c with
 |false=>exact hb pins s1 σ H1 Q I1 q1
 |true=>exact⟨.bl true,H1,I1,rfl,q1⟩
theorem pe_not(ha:PE X a ta):PE X (.UnaryOp .Not a pos) (Eo ta):=by
 intro pins s σ H Q I h;refine UnaryOp_ (thn (ha pins s σ H _ I h) fun v s1 ⟨x,H1,I1,r1,q1⟩=>?_);obtain⟨c,rfl,q1⟩:=q1;cases r1;exact not_of (cQ ⟨.bl (!c),H1,I1,rfl,q1⟩)
noncomputable def tIf(t:TT)(ta tb:TE):TE:=fun σ H Q=>t σ H fun c H1=>if c=true then ta σ H1 Q else tb σ H1 Q
theorem Fj{c:Expr}(hc:PT X c tA)(ha:PE X a ta)(hb:PE X b tb):PE X (.IfExp c a b pos) (tIf tA ta tb):=by
 intro pins s σ H Q I h;refine wpAny_IfExp (thn (hc pins s σ H _ I h) fun d s1 ⟨H1,I1,q1⟩=>?_);cases d with
 |true=>exact ha pins s1 σ H1 Q I1 q1
 |false=>exact hb pins s1 σ H1 Q I1 q1
end
noncomputable def SqL(K:ae)(H:Hp)(a:Addr)(xs:List V):Prop:=
 Rd H a (.lst xs)\/
  ∃(o:Obj)(its:Array Value)(n:Nat),K.lookup a=some o/\o.cls=.type "list"/\o.dict=none/\o.data=.seq its n/\its.size<=sizeLine/\bL xs its.toList
noncomputable def SqT(K:ae)(H:Hp)(a:Addr)(xs:List V):Prop:=
 Rd H a (.tup xs)\/
  ∃(o:Obj)(its:Array Value)(n:Nat),K.lookup a=some o/\o.cls=.type "tuple"/\o.data=.seq its n/\its.size<=sizeLine/\bL xs its.toList
noncomputable def absV:Value->Option V
 |.none=>some .non
 |.bool b=>some (.bl b)
 |.int i _=>some (.int i)
 |.str x _=>some (.str x)
 |.bytes b _=>some (.byt b)
 |.float b _=>some (.flt b)
 |.ref a=>some (.ref a)
 |.type n=>some (.ty n)
 |_=>none
theorem RelV.abs{x:V}{u:Value}(r:RelV x u):absV u=some x:=by
 cases x with
 |non=>cases r;rfl
 |bl _=>cases r;rfl
 |int _=>obtain⟨t,rfl⟩:=r;rfl
 |str _=>obtain⟨t,rfl⟩:=r;rfl
 |byt _=>obtain⟨t,rfl⟩:=r;rfl
 |flt _=>obtain⟨t,rfl⟩:=r;rfl
 |ref _=>cases r;rfl
 |ty _=>cases r;rfl
theorem RelV.inj{x y:V}{u:Value}(r:RelV x u)(q:RelV y u):x=y:=aV (r.abs.symm.trans q.abs)
theorem bL.inj{xs ys:List V}{us:List Value}(h:bL xs us):bL ys us->xs=ys:=by
 induction h generalizing ys with
 |nil=>intro k;cases k;rfl
 |cons r k ih=>
  intro w;cases w with
  |cons r' w'=>rw[r.inj r',ih w']
section
variable {X:Cx}{pins:List (Addr×Obj)}{σ:St}{H:Hp}{s:Shared}{a:Addr}{xs ys:List V}
theorem SqL.of{K:ae}(h:H a=some (.lst xs)):SqL K H a xs:=.inl (.inl h)
theorem SqT.of{K:ae}(h:H a=some (.tup xs)):SqT K H a xs:=.inl (.inl h)
theorem Inv.list(I:Inv X pins σ H s)(h:SqL X.K H a xs):∃its:List Value,bL xs its/\PlainL s.heap a its.toArray/\xs.length<=sizeLine:=by
 rcases h with h|⟨o,its,n,hk,hc,hd,hs,hz,r⟩
 ·obtain⟨z,its,n,r,e⟩:=h.ok I.hok
  exact⟨its,r,⟨_,n,e,rfl,rfl,rfl⟩,z⟩
 ·refine⟨its.toList,r,⟨o,n,I.kIn a o hk,hc,hd,by simpa using hs⟩,?_⟩
  have e:=r.length;simp only[bY]at e;omega
theorem Inv.tuple(I:Inv X pins σ H s)(h:SqT X.K H a xs):∃its:List Value,bL xs its/\IsTup s.heap a its.toArray/\xs.length<=sizeLine:=by
 rcases h with h|⟨o,its,n,hk,hc,hs,hz,r⟩
 ·obtain⟨z,its,r,p⟩:=h.ok I.hok
  exact⟨its,r,p,z⟩
 ·refine⟨its.toList,r,⟨o,I.kIn a o hk,hc,n,by simpa using hs⟩,?_⟩
  have e:=r.length;simp only[bY]at e;omega
theorem Inv.yo(I:Inv X pins σ H s)(h:SqL X.K H a xs)(h':SqL X.K H a ys):xs=ys:=by
 obtain⟨its,r,⟨o,n,e,_,_,d⟩,_⟩:=I.list h;obtain⟨its',r',⟨o',n',e',_,_,d'⟩,_⟩:=I.list h';rw[e]at e';cases e';rw[d]at d';injection d' with d1 _
 have :its=its':=by simpa using congrArg Array.toList d1
 subst this;exact r.inj r'
theorem Inv.oR(I:Inv X pins σ H s)(h:SqT X.K H a xs)(h':SqT X.K H a ys):xs=ys:=by
 obtain⟨its,r,⟨o,e,_,n,d⟩,_⟩:=I.tuple h;obtain⟨its',r',⟨o',e',_,n',d'⟩,_⟩:=I.tuple h';rw[e]at e';cases e';rw[d]at d';injection d' with d1 _
 have :its=its':=by simpa using congrArg Array.toList d1
 subst this;exact r.inj r'
end
section
variable {X:Cx}{st:Stmt}{rest:List Stmt}{t u:TS}{e:Expr}{te:TE}{pos:Pos}
noncomputable def xB:TS:=fun D σ H=>D.nx σ H
noncomputable def tp(t u:TS):TS:=fun D σ H=>t {D with nx:=u D} σ H
theorem pss_nil:PSs X [] xB:=fun _ _ σ H _ I h=>wpAny_execs_nil ⟨σ,H,I,h⟩
theorem rf(h1:PS X st t)(h2:PSs X rest u):PSs X (st::rest) (tp t u):=by
 intro pins s σ H D I h;refine wpAny_execs_cons (thn (h1 pins s σ H {D with nx:=u D} I h) fun f s1 q=>?_);cases f with
 |next =>
  obtain⟨σ',H',I',q⟩:=q;exact h2 pins s1 σ' H' D I' q
 |ret v=>exact q
 |brk=>exact q
 |cont=>exact q
noncomputable def Es:TS:=fun D σ H=>D.bk σ H
noncomputable def tCont:TS:=fun D σ H=>D.ct σ H
theorem ps_pass:PS X (.Pass pos) xB:=fun _ _ σ H _ I h=>wpAny_Pass ⟨σ,H,I,h⟩
theorem E5:PS X (.Break pos) Es:=fun _ _ σ H _ I h=>wpAny_Break ⟨σ,H,I,h⟩
theorem xM:PS X (.Continue pos) tCont:=fun _ _ σ H _ I h=>wpAny_Continue ⟨σ,H,I,h⟩
theorem Inv.quiet{pins:List (Addr×Obj)}{σ:St}{H:Hp}{s:Shared}(I:Inv X pins σ H s):interactive X.env=false:=by simp[interactive,I.ok.kind]
noncomputable def Ep(te:TE):TS:=fun D σ H=>te σ H fun _ H1=>D.nx σ H1
theorem ps_expr(he:PE X e te)(hs:ni e none pos.line X.env=pure false:=by rfl):PS X (.Expr e pos) (Ep te):=by
 intro pins s σ H D I h;exact wpAny_Expr_any (thn (he pins s σ H _ I h) fun v s1 ⟨x,H1,I1,r1,q1⟩=>⟨σ,H1,I1,q1⟩) I.quiet hs
noncomputable def tRet(te:TE):TS:=fun D σ H=>te σ H D.rt
theorem ps_ret(he:PE X e te):PS X (.Return (some e) pos) (tRet te):=by
 intro pins s σ H D I h;exact wpAny_Return_some (thn (he pins s σ H _ I h) fun v s1 ⟨x,H1,I1,r1,q1⟩=>⟨x,σ,H1,I1,r1,q1⟩)
noncomputable def Em:TS:=fun D _ H=>D.rt .non H
theorem ps_retN:PS X (.Return none pos) Em:=fun _ _ σ H _ I h=>wpAny_Return_none ⟨.non,σ,H,I,rfl,h⟩
noncomputable def tIfS(c:TT)(t u:TS):TS:=fun D σ H=>c σ H fun b H1=>if b=true then t D σ H1 else u D σ H1
theorem ps_if{c:Expr}{a b:List Stmt}{tc:TT}(hc:PT X c tc)(ha:PSs X a t)(hb:PSs X b u):PS X (.If c a b pos) (tIfS tc t u):=by
 intro pins s σ H D I h;refine wpAny_If (thn (hc pins s σ H _ I h) fun d s1 ⟨H1,I1,q1⟩=>?_);cases d with
 |true=>exact ha pins s1 σ H1 D I1 q1
 |false=>exact hb pins s1 σ H1 D I1 q1
end
noncomputable abbrev TG:=V->St->Hp->(St->Hp->Prop)->Prop
noncomputable abbrev TGs:=List V->St->Hp->(St->Hp->Prop)->Prop
noncomputable def PG(X:Cx)(target:Expr)(t:TG):Prop:=
 ∀(pins:List (Addr×Obj))(s:Shared)(σ:St)(H:Hp)(v:V)(u:Value)(Q:St->Hp->Prop),Inv X pins σ H s->RelV v u->t v σ H Q->
  wpAny (model X.prog X.w) X.A (assign target X.env u) (fun _ s'=>∃σ' H',Inv X pins σ' H' s'/\Q σ' H') X.xe s
noncomputable def PGs(X:Cx)(ts:List Expr)(t:TGs):Prop:=
 ∀(pins:List (Addr×Obj))(s:Shared)(σ:St)(H:Hp)(vs:List V)(us:List Value)(Q:St->Hp->Prop),Inv X pins σ H s->bL vs us->t vs σ H Q->
  wpAny (model X.prog X.w) X.A (assignInOrder ((gU ts X.env).map (·.2)) us) (fun _ s'=>∃σ' H',Inv X pins σ' H' s'/\Q σ' H') X.xe s
noncomputable abbrev TSet:=V->V->V->Hp->(Hp->Prop)->Prop
noncomputable def PSet(X:Cx)(t:TSet):Prop:=
 ∀(pins:List (Addr×Obj))(s:Shared)(σ:St)(H:Hp)(o i v:V)(ov iv u:Value)(Q:Hp->Prop),Inv X pins σ H s->RelV o ov->RelV i iv->RelV v u->t o i v H Q->
  wpAny (model X.prog X.w) X.A (setItem ov iv u) (fun _ s'=>∃H',Inv X pins σ H' s'/\Q H') X.xe s
section
variable {X:Cx}{pos:Pos}
noncomputable def kG(i:Nat):TG:=fun v σ H Q=>Q (σ.set i (some v)) H
theorem Bg{i:Nat}{x:Str}(hN:X.N.Nodup)(hi:X.N[i]? =some x)(hx:Loc X.env.scope x)(hf:X.fn x=true\/X.env.scope.names.lookup x=some .local:=by first |exact .inl rfl|exact .inr rfl|assumption):PG X (.Name x pos) (kG i):=by
 intro pins s σ H v u Q I r h;exact wpAny_assign_Name (xF I hN hi hx r (fun s' I'=>⟨_,H,I',h⟩) hf)
noncomputable def gNil:TGs:=fun vs σ H Q=>vs=[]/\Q σ H
noncomputable def Gf(t:TG)(u:TGs):TGs:=fun vs σ H Q=>∃v r,vs=v::r/\t v σ H fun σ' H'=>u r σ' H' Q
theorem pgs_nil:PGs X [] gNil:=by
 intro pins s σ H vs us Q I r h;obtain⟨e,h⟩:=h;subst e;cases r;exact assignInOrder_nil ⟨σ,H,I,h⟩
theorem Fb{e:Expr}{es:List Expr}{t:TG}{u:TGs}(h1:PG X e t)(h2:PGs X es u)
  (hs:(gU (e::es) X.env).map (·.2)=assign e X.env::(gU es X.env).map (·.2):=by rfl):PGs X (e::es) (Gf t u):=by
 intro pins s σ H vs us Q I r h;obtain⟨v,vr,e1,h⟩:=h;subst e1;cases r with
 |cons r rr=>
  rw[hs];refine assignInOrder_cons (thn (h1 pins s σ H _ _ _ I r h) fun _ s1 ⟨σ1,H1,I1,q1⟩=>?_);exact h2 pins s1 σ1 H1 _ _ Q I1 rr q1
noncomputable def gTup(K:ae)(n:Nat)(t:TGs):TG:=fun v σ H Q=>∃a xs,v=.ref a/\SqT K H a xs/\xs.length=n/\t xs σ H Q
theorem pg_tup{es:List Expr}{k:Nat}{t:TGs}{n:Nat}(hc:X.calm=true)(h:PGs X es t)
  (hn:(gU es X.env).length=n:=by rfl) (hst:(gU es X.env).findIdx? (·.1)=none:=by rfl):PG X (.Tuple es k pos) (gTup X.K n t):=by
 intro pins s σ H v u Q I r hw;obtain⟨a,xs,e1,hq,hl,hw⟩:=hw;subst e1;cases r;obtain⟨its,rv,ht,hz⟩:=I.tuple hq;refine assign_Tuple_tuple (I.ok.hd hc) ht (by simp[hn,<-hl,rv.length]) hst fun h' hx=>?_;have I1:Inv X pins σ H {s with heap:=h'}:=I.kept (t':=s.toks) fun b o e=>hx b o (aB (aw e)) e;exact h pins _ σ H xs _ Q I1 (by simpa using rv) hw
noncomputable def gSub(to ti:TE)(t:TSet):TG:=fun v σ H Q=>to σ H fun o H1=>ti σ H1 fun i H2=>t o i v H2 fun H3=>Q σ H3
theorem pg_sub{o i:Expr}{to ti:TE}{t:TSet}(ho:PE X o to)(hi:PE X i ti)(hs:PSet X t)
  (ha:∀v,assign (.Subscript o i pos) X.env v=(do
   let ov<-holding [v] (eval o X.env)
   let iv<-holding [v,ov] (eval i X.env)
   standAt pos
   holding [v,ov,iv] (setItem ov iv v)
   release [v,ov,iv] []):=by intro _;rfl):PG X (.Subscript o i pos) (gSub to ti t):=by
 intro pins s σ H v u Q I r h;rw[ha];refine aa (bC (thn (ho pins s σ H _ I h) fun ov s1 ⟨x,H1,I1,r1,q1⟩=>?_));refine aa (bC (thn (hi pins s1 σ H1 _ I1 q1) fun iv s2 ⟨y,H2,I2,r2,q2⟩=>?_));refine aa (jz (aa (bC (thn (hs pins s2 σ H2 x y v ov iv u _ I2 r1 r2 r q2) fun _ s3 ⟨H3,I3,q3⟩=>?_))));exact wpAny_release ⟨σ,H3,I3,q3⟩
noncomputable def vq(te:TE)(g:TG):TS:=fun D σ H=>te σ H fun x H1=>g x σ H1 D.nx
theorem E6{tg e:Expr}{te:TE}{g:TG}(he:PE X e te)(hg:PG X tg g)(hs:G6 [tg] e pos.line X.env=pure false:=by rfl) (hw:swappedStores [tg] e X.env=pure none:=by rfl)
  (h1:(gU [tg] X.env).map (·.2)=[assign tg X.env]:=by rfl):PS X (.Assign [tg] e pos) (vq te g):=by
 intro pins s σ H D I h;refine wpAny_Assign_stores (thn (he pins s σ H _ I h) fun v s1 ⟨x,H1,I1,r1,q1⟩=>?_) hs hw;rw[h1];exact thn (hg pins s1 σ H1 x v _ I1 r1 q1) fun _ s2 q=>q
theorem ps_set{i:Nat}{x:Str}{e:Expr}{te:TE}{pos':Pos}(hN:X.N.Nodup)(hi:X.N[i]? =some x)(hx:Loc X.env.scope x)(he:PE X e te)(hs:ni e (some (.Name x pos')) pos.line X.env=pure false:=by rfl) (hf:X.fn x=true\/X.env.scope.names.lookup x=some .local:=by first |exact .inl rfl|exact .inr rfl|assumption):
  PS X (.Assign [.Name x pos'] e pos) (vq te (kG i)):=by
 intro pins s σ H D I h;refine wpAny_Assign_Name (thn (he pins s σ H _ I h) fun v s1 ⟨y,H1,I1,r1,q1⟩=>?_) hs;exact xF I1 hN hi hx r1 (fun s2 I2=>⟨_,H1,I2,q1⟩) hf
end
section
variable {X:Cx}{pos:Pos}
noncomputable def tWhile(c:TT)(tb:TS):TS:=fun D σ H=>∃W:Nat->St->Hp->Prop,(∃m,W m σ H)/\∀m σ H,W m σ H->
 c σ H fun b H1=>if b=true then ∃N:St->Hp->Prop,(∀σ' H',N σ' H'->∃m',m'<m/\W m' σ' H')/\tb {D with nx:=N,ct:=N,bk:=D.nx} σ H1 else D.nx σ H1
end
structure It where
 go:Nat->Hp->Prop
 yld:Nat->Hp->V->Hp->Prop
 stop:Nat->Hp->Prop
noncomputable def oG(X:Cx)(pins:List (Addr×Obj))(H:Hp)(b:Addr):Prop:=
 H b=none/\b≠X.env.locals/\b∉X.fs/\(b∈X.ex\/X.s₀.heap.objs.size<=b)/\(∀x c,X.env.cells.lookup x=some c->c≠b)/\∀p∈X.pn++pins,p.1≠b
theorem Inv.wz{X:Cx}{pins:List (Addr×Obj)}{σ:St}{H H':Hp}{s:Shared}{b:Addr}(I:Inv X pins σ H s)(hb:s.heap.objs.size<=b)(hn:H' b=none):oG X pins H' b:=by
 refine⟨hn,cz (bh I.lt hb),I.nofs hb,.inr (aI I.sz hb),fun x c e z=>?_,fun p hp z=>?_⟩
 ·obtain⟨v,q⟩:=I.cell x c e
  exact absurd (bh q.lt (by rw[z];exact hb)) (d5 _)
 ·exact absurd (bh (aw (I.pin p hp).1) (by rw[z];exact hb)) (d5 _)
structure Turn(P:Program)(w:World)(K:ae)(tg:Expr)(J:It)(fp:List Addr)(it:Addr)(tn:Nat->Heap->Prop):Prop where
 mem:it∈fp
 obj:∀i h,tn i h->∀b∈fp,∃o,h.get? b=some o/\∀v,o.data≠.cell v
 keep:∀i h h',tn i h->(∀b∈fp,∀o,h.get? b=some o->h'.get? b=some o)->tn i h'
 item:∀(X:Cx),X.prog=P->X.w=w->X.K=K->X.calm=true->∀(i:Nat)(pins:List (Addr×Obj))(s:Shared)(σ:St)(H:Hp)(E:Value->Shared->Prop),Inv X pins σ H s->(∀b∈fp,oG X pins H b)->tn i s.heap->J.go i H->
  wpAny (model P w) X.A (pyNext (.ref it)) (fun r s1=>∃u,r=some u/\
   wpAny (model P w) X.A (oN tg (.ref it) u) (fun _ s2=>∃x H',Inv X pins σ H' s2/\RelV x u/\J.yld i H x H'/\tn (i+1) s2.heap/\∀b∈fp,H' b=none) E s1) E s
 done:∀(X:Cx),X.prog=P->X.w=w->X.K=K->X.calm=true->∀(i:Nat)(pins:List (Addr×Obj))(s:Shared)(σ:St)(H:Hp)(E:Value->Shared->Prop),Inv X pins σ H s->(∀b∈fp,oG X pins H b)->tn i s.heap->J.stop i H->
  wpAny (model P w) X.A (pyNext (.ref it)) (fun r s1=>r=none/\Inv X pins σ H s1) E s
 self:∀(A:Around)(i:Nat)(s:Shared)(Q:Value->Shared->Prop)(E:Value->Shared->Prop),tn i s.heap->Q (.ref it) s->wpAny (model P w) A (pyIter (.ref it)) Q E s
noncomputable abbrev TI:=St->Hp->(It->Hp->Prop)->Prop
noncomputable def PIE(X:Cx)(pins:List (Addr×Obj))(σ:St)(tg:Expr)(R:It->Hp->Prop)(itv:Value)(s2:Shared):Prop:=
 ∃(it:Addr)(fp:List Addr)(tn:Nat->Heap->Prop)(J:It)(H':Hp),itv=.ref it/\Inv X pins σ H' s2/\Turn X.prog X.w X.K tg J fp it tn/\tn 0 s2.heap/\(∀b∈fp,oG X pins H' b)/\R J H'
noncomputable def PI(X:Cx)(tg iter:Expr)(wi:TI):Prop:=
 ∀(pins:List (Addr×Obj))(s:Shared)(σ:St)(H:Hp)(R:It->Hp->Prop),Inv X pins σ H s->wi σ H R->
  wpAny (model X.prog X.w) X.A (eval iter X.env) (fun v s1=>wpAny (model X.prog X.w) X.A (pyIter v) (PIE X pins σ tg R) X.xe s1) X.xe s
theorem BB{M:Model}{A:Around}{E:Value->Shared->Prop}{s:Shared}{tg:Expr}{it:Addr}{u:Value}{o:Obj}{n:String}{vs:Array Value}{Q:Unit->Shared->Prop}(ho:s.heap.get? it=some o)(hc:o.cls=.type n)(hd:o.data=.fields vs)
  (hn:["enumerate","zip","dict_itemiterator","dict_reverseitemiterator","odict_iterator","itertools.zip_longest","itertools.pairwise"].contains n=false)(hQ:Q () s):wpAny M A (oN tg (.ref it) u) Q E s:=by
 unfold oN;cases tg<;>first
  |exact ai hQ
  | (cases u<;>first
    |exact ai hQ
    | (refine aa (wpAny_load ho ?_)
       rw[hc,hd];show wpAny M A (if(["enumerate","zip","dict_itemiterator","dict_reverseitemiterator","odict_iterator","itertools.zip_longest","itertools.pairwise"].contains n&&vs[0]? ==some (rawInt _))=true then _ else _) Q E s;rw[if_neg (by intro h;rw[hn,dG]at h;cases h)];exact ai hQ))
noncomputable def Itl(K:ae)(a:Addr):It:=
 ⟨fun i H=>∃xs x,SqL K H a xs/\xs[i]? =some x,fun i H x H'=>H'=H/\∀xs,SqL K H a xs->xs[i]? =some x,fun i H=>∃xs,SqL K H a xs/\xs.length<=i⟩
noncomputable def Itt(K:ae)(a:Addr):It:=
 ⟨fun i H=>∃xs x,SqT K H a xs/\xs[i]? =some x,fun i H x H'=>H'=H/\∀xs,SqT K H a xs->xs[i]? =some x,fun i H=>∃xs,SqT K H a xs/\xs.length<=i⟩
noncomputable def Itr(lo:Int)(n:Nat):It:=⟨fun i _=>i<n,fun i H x H'=>H'=H/\x=.int (lo+i),fun i _=>n<=i⟩
theorem tW{P:Program}{w:World}{K:ae}{tg:Expr}(a it:Addr):Turn P w K tg (Itl K a) [it] it (fun i h=>h.IsListIter it a i) where
 mem:=by simp
 obj:=fun i h st b hb=>by
  have e:b=it:=by simpa using hb
  subst e;obtain⟨o,e,c,d⟩:=st;exact⟨o,e,fun v z=>by rw[d]at z;cases z⟩
 keep:=fun i h h' st k=>st.at fun o e=>k it (by simp) o e
 item:=by
  intro X hP hw hK hc i pins s σ H E I hf st hg;subst hP hw hK;obtain⟨xs,x,hq,hx⟩:=hg;obtain⟨its,rv,p,hz⟩:=I.list hq;obtain⟨u,hu,ru⟩:=rv.get hx;obtain⟨f0,f1,f2,f3,f4,f5⟩:=hf it (by simp);refine wpAny_pyNext_list_item st p.isList (x:=u) (by simpa using hu) fun h' st' sb=>?_;have I1:Inv X pins σ H {s with heap:=h'}:=I.turned (t':=s.toks) (fun b o hb e=>(sb.2 b hb).trans e) f0 f1 f3 f4 f5;obtain⟨o,e,c,d⟩:=id st';exact⟨u,rfl,BB (s:={s with heap:=h'}) e c d (by decide) ⟨x,H,I1,ru,⟨rfl,fun ys hy=>by rw[I.yo hy hq];exact hx⟩,st',fun b hb=>(hf b hb).1⟩⟩
 done:=by
  intro X hP hw hK hc i pins s σ H E I hf st hg;subst hP hw hK;obtain⟨xs,hq,hx⟩:=hg;obtain⟨its,rv,p,hz⟩:=I.list hq;obtain⟨f0,f1,f2,f3,f4,f5⟩:=hf it (by simp);have hl:=rv.length;exact wpAny_pyNext_list_end (I.ok.hd hc) st p.isList (by simp;omega) fun h' eb=>⟨rfl,I.turned (t':=s.toks) (fun b o hb e=>eb b o hb e) f0 f1 f3 f4 f5⟩
 self:=fun _ _ _ _ _ st h=>wpAny_pyIter_listiter st h
theorem qM{P:Program}{w:World}{K:ae}{tg:Expr}(a it:Addr):Turn P w K tg (Itt K a) [it] it (fun i h=>h.IsTupleIter it a i) where
 mem:=by simp
 obj:=fun i h st b hb=>by
  have e:b=it:=by simpa using hb
  subst e;obtain⟨o,e,c,d⟩:=st;exact⟨o,e,fun v z=>by rw[d]at z;cases z⟩
 keep:=fun i h h' st k=>st.at fun o e=>k it (by simp) o e
 item:=by
  intro X hP hw hK hc i pins s σ H E I hf st hg;subst hP hw hK;obtain⟨xs,x,hq,hx⟩:=hg;obtain⟨its,rv,p,hz⟩:=I.tuple hq;obtain⟨u,hu,ru⟩:=rv.get hx;obtain⟨f0,f1,f2,f3,f4,f5⟩:=hf it (by simp);refine wpAny_pyNext_tuple_item st (show s.heap.IsTuple a its.toArray from p) (x:=u) (by simpa using hu) fun h' st' sb=>?_;have I1:Inv X pins σ H {s with heap:=h'}:=I.turned (t':=s.toks) (fun b o hb e=>(sb.2 b hb).trans e) f0 f1 f3 f4 f5;obtain⟨o,e,c,d⟩:=id st';exact⟨u,rfl,BB (s:={s with heap:=h'}) e c d (by decide) ⟨x,H,I1,ru,⟨rfl,fun ys hy=>by rw[I.oR hy hq];exact hx⟩,st',fun b hb=>(hf b hb).1⟩⟩
 done:=by
  intro X hP hw hK hc i pins s σ H E I hf st hg;subst hP hw hK;obtain⟨xs,hq,hx⟩:=hg;obtain⟨its,rv,p,hz⟩:=I.tuple hq;obtain⟨f0,f1,f2,f3,f4,f5⟩:=hf it (by simp);have hl:=rv.length;exact wpAny_pyNext_tuple_end (I.ok.hd hc) st (show s.heap.IsTuple a its.toArray from p) (by simp;omega) fun h' eb=>⟨rfl,I.turned (t':=s.toks) (fun b o hb e=>eb b o hb e) f0 f1 f3 f4 f5⟩
 self:=fun _ _ _ _ _ st h=>wpAny_pyIter_tupleiter st h
theorem zF{P:Program}{w:World}{K:ae}{tg:Expr}(it:Addr)(lo:Int)(n:Nat):Turn P w K tg (Itr lo n) [it] it (fun i h=>IsRangeIter h it (lo+(i:Nat)*1) ((n:Int)-(i:Nat)) 1) where
 mem:=by simp
 obj:=fun i h st b hb=>by
  have e:b=it:=by simpa using hb
  subst e;exact⟨_,st,fun v z=>by
   have z':Data.fields _=Data.cell v:=z;cases z'⟩
 keep:=fun i h h' st k=>k it (by simp) _ st
 item:=by
  intro X hP hw hK hc i pins s σ H E I hf st hg;subst hP hw hK;obtain⟨f0,f1,f2,f3,f4,f5⟩:=hf it (by simp);have W:=Walks.range (prog:=X.prog) (w:=X.w) (I.ok.hd hc) it lo 1 n;refine W.item i s _ _ hg st fun v h' tk hv st' kk=>?_;obtain⟨t,rfl⟩:=hv;have I1:Inv X pins σ H {s with heap:=h',toks:=tk}:=I.turned (fun b o hb e=>kk b o (by simpa using hb) e) f0 f1 f3 f4 f5;refine⟨_,rfl,BB (s:={s with heap:=h',toks:=tk}) (n:="range_iterator") st' rfl rfl (by decide) ⟨.int (lo+i),H,I1,⟨t,?_⟩,⟨rfl,rfl⟩,st',fun b hb=>(hf b hb).1⟩⟩;rw[Int.mul_one]
 done:=by
  intro X hP hw hK hc i pins s σ H E I hf st hg;subst hP hw hK;obtain⟨f0,f1,f2,f3,f4,f5⟩:=hf it (by simp);exact wpAny_pyNext_range_end (I.ok.hd hc) st (by have :n<=i:=hg;omega) fun h' eb=>⟨rfl,I.turned (t':=s.toks) (fun b o hb e=>eb b o hb e) f0 f1 f3 f4 f5⟩
 self:=fun _ _ _ _ _ st h=>wpAny_pyIter_rangeiter st h
section
variable {X:Cx}{tg:Expr}
noncomputable def F7(K:ae)(tl:TE):TI:=fun σ H R=>tl σ H fun x H1=>∃a,x=.ref a/\(∃xs,SqL K H1 a xs)/\R (Itl K a) H1
noncomputable def iTup(K:ae)(tl:TE):TI:=fun σ H R=>tl σ H fun x H1=>∃a,x=.ref a/\(∃xs,SqT K H1 a xs)/\R (Itt K a) H1
theorem pi_list{l:Expr}{tl:TE}(hl:PE X l tl):PI X tg l (F7 X.K tl):=by
 intro pins s σ H R I h;refine thn (hl pins s σ H _ I h) fun v s1 ⟨x,H1,I1,r1,q1⟩=>?_;obtain⟨a,e,⟨xs,hq⟩,q⟩:=q1;subst e;cases r1;obtain⟨its,rv,p,hz⟩:=I1.list hq;refine iU p.isList ?_;refine⟨s1.heap.objs.size,[s1.heap.objs.size],_,_,H1,rfl,I1.kept (t':=s1.toks) fun b o e=>ag _ e,tW a _,⟨_,au _ rfl,rfl,rfl⟩,fun b hb=>?_,q⟩;have e:b=s1.heap.objs.size:=by simpa using hb
 subst e;exact I1.wz (ax _) (I1.hok.fresh (ax _))
theorem pi_tup{l:Expr}{tl:TE}(hl:PE X l tl):PI X tg l (iTup X.K tl):=by
 intro pins s σ H R I h;refine thn (hl pins s σ H _ I h) fun v s1 ⟨x,H1,I1,r1,q1⟩=>?_;obtain⟨a,e,⟨xs,hq⟩,q⟩:=q1;subst e;cases r1;obtain⟨its,rv,p,hz⟩:=I1.tuple hq;refine fZ (show s1.heap.IsTuple a its.toArray from p) ?_;refine⟨s1.heap.objs.size,[s1.heap.objs.size],_,_,H1,rfl,I1.kept (t':=s1.toks) fun b o e=>ag _ e,qM a _,⟨_,au _ rfl,rfl,rfl⟩,fun b hb=>?_,q⟩;have e:b=s1.heap.objs.size:=by simpa using hb
 subst e;exact I1.wz (ax _) (I1.hok.fresh (ax _))
theorem xK{pins:List (Addr×Obj)}{σ:St}{H:Hp}{s:Shared}{R:It->Hp->Prop}{E:Value->Shared->Prop}{lo hi:Int}{t u v:Tok}{tk:Nat}(I:Inv X pins σ H s)(h1: -(2^62)<=lo)(h2:lo<2^62)(h3: -(2^62)<=hi)(h4:hi<2^62)
  (q:R (Itr lo (hi-lo).toNat) H):wpAny (model X.prog X.w) X.A (pyIter (.ref s.heap.objs.size)) (PIE X pins σ tg R) E {s with heap:=s.heap.push {cls:=.type "range",data:=.fields #[.int lo t,.int hi u,.int 1 v]},toks:=tk}:=by
 refine wpAny_pyIter_range (IsRange.new ..) (small_one h1 h2 h3 h4) ?_;have I1:Inv X pins σ H {s with heap:=s.heap.push {cls:=.type "range",data:=.fields #[.int lo t,.int hi u,.int 1 v]},toks:=tk}:=I.kept fun b o e=>ag _ e;refine⟨(s.heap.push {cls:=.type "range",data:=.fields #[.int lo t,.int hi u,.int 1 v]}).objs.size,[(s.heap.push {cls:=.type "range",data:=.fields #[.int lo t,.int hi u,.int 1 v]}).objs.size],_,_,H,rfl,
  I1.kept (t':=tk) fun b o e=>ag _ e,zF _ lo (hi-lo).toNat,?_,fun b hb=>?_,q⟩
 ·have e1:lo+((0:Nat):Int)*1=lo:=by simp
  have e2:(((hi-lo).toNat:Nat):Int)-((0:Nat):Int)=qI lo hi 1:=by rw[rangeSize_one];split <;>omega
  show IsRangeIter _ _ (lo+((0:Nat):Int)*1) ((((hi-lo).toNat:Nat):Int)-((0:Nat):Int)) 1;rw[e1,e2];exact au _ rfl
 ·have e:b=(s.heap.push {cls:=.type "range",data:=.fields #[.int lo t,.int hi u,.int 1 v]}).objs.size:=by simpa using hb
  subst e;exact I1.wz (ax _) (I1.hok.fresh (ax _))
noncomputable def F6(ta:TA):TI:=fun σ H R=>ta σ H fun vs H1=>∃j:Int,vs=[.int j]∧-(2^62)<=j/\j<2^62/\R (Itr 0 j.toNat) H1
noncomputable def F5(ta:TA):TI:=fun σ H R=>ta σ H fun vs H1=>∃i j:Int,vs=[.int i,.int j]/\(-(2^62)<=i/\i<2^62∧-(2^62)<=j/\j<2^62)/\R (Itr i (j-i).toNat) H1
theorem Cu{a:Expr}{ta:TA}{p pos:Pos}(hg:Gl X "range")(hm:X.mg "range"=none)(ha:PA X [a] ta)(hs:bc [a] X.env=[(false,eval a X.env)]:=by rfl):PI X tg (.Call (.Name "range" p) [a] [] pos) (F6 ta):=by
 intro pins s σ H R I h;refine Call_ (iu I hg hm boot_range (bV (thn (ha pos pins s σ H _ I h) fun us s1 ⟨vs,H1,I1,r1,q1⟩=>?_) hs rfl));obtain⟨j,e,q1,q2,q⟩:=q1;subst e;cases r1 with
 |cons r rr=>
  cases rr;obtain⟨t,rfl⟩:=r;exact call_range_1 (xK I1 (by omega) (by omega) q1 q2 (by simpa using q))
theorem Ct{a b:Expr}{ta:TA}{p pos:Pos}(hg:Gl X "range")(hm:X.mg "range"=none)(ha:PA X [a,b] ta)(hs:bc [a,b] X.env=[(false,eval a X.env),(false,eval b X.env)]:=by rfl) (hs2:bc [b] X.env=[(false,eval b X.env)]:=by rfl):
  PI X tg (.Call (.Name "range" p) [a,b] [] pos) (F5 ta):=by
 intro pins s σ H R I h;refine Call_ (iu I hg hm boot_range (bV (thn (ha pos pins s σ H _ I h) fun us s1 ⟨vs,H1,I1,r1,q1⟩=>?_) (by rw[hs,hs2]) (by rw[hs2];rfl)));obtain⟨i,j,e,⟨q1,q2,q3,q4⟩,q⟩:=q1;subst e;cases r1 with
 |cons r rr=>
  cases rr with
  |cons r' rr=>
   cases rr;obtain⟨t,rfl⟩:=r;obtain⟨t',rfl⟩:=r';exact call_range_2 (xK I1 q1 q2 q3 q4 q)
noncomputable def tFor(wi:TI)(g:TG)(tb:TS):TS:=fun D σ H=>wi σ H fun J H1=>∃W:Nat->Nat->St->Hp->Prop,(∃m,W 0 m σ H1)/\∀i m σ H,W i m σ H->
 (J.stop i H/\D.nx σ H)\/(J.go i H/\∃N:St->Hp->Prop,(∀σ' H',N σ' H'->∃m',m'<m/\W (i+1) m' σ' H')/\∀x H',J.yld i H x H'->g x σ H' fun σ2 H2=>tb {D with nx:=N,ct:=N,bk:=D.nx} σ2 H2)
noncomputable def iH(fp:List Addr)(h:Heap):List (Addr×Obj):=fp.filterMap fun b=>(h.get? b).map fun o=>(b,o)
theorem ir{fp:List Addr}{h:Heap}{b:Addr}{o:Obj}(hb:b∈fp)(e:h.get? b=some o):(b,o)∈iH fp h:=List.mem_filterMap.mpr ⟨b,hb,by rw[e];rfl⟩
theorem oZ{fp:List Addr}{h:Heap}{p:Addr×Obj}(hp:p∈iH fp h):p.1∈fp/\h.get? p.1=some p.2:=by
 obtain⟨b,hb,e⟩:=List.mem_filterMap.mp hp;cases q:h.get? b with
 |none=>rw[q]at e;cases e
 |some o=>
  rw[q]at e;have e':(b,o)=p:=aV e;subst e';exact⟨hb,q⟩
theorem Inv.pinned{pins:List (Addr×Obj)}{σ:St}{H:Hp}{s:Shared}{fp:List Addr}(I:Inv X pins σ H s)(hf:∀b∈fp,oG X pins H b)(ho:∀b∈fp,∃o,s.heap.get? b=some o/\∀v,o.data≠.cell v):Inv X (pins++iH fp s.heap) σ H s:=
 I.vT fun p hp=>(cj.mp hp).elim (fun z=>I.pin p (bg _ z)) fun z=>by
  obtain⟨hb,e⟩:=oZ z;obtain⟨f0,f1,f2,_⟩:=hf p.1 hb;obtain⟨o,e',d⟩:=ho p.1 hb;rw[e]at e';cases e';exact⟨e,f0,f1,f2,d⟩
theorem Inv.gW{pins pl:List (Addr×Obj)}{σ:St}{H:Hp}{s:Shared}(I:Inv X (pins++pl) σ H s):Inv X pins σ H s:=I.vT fun p hp=>I.pin p (bg _ (nC _ hp))
theorem ps_for{iter:Expr}{body:List Stmt}{wi:TI}{g:TG}{tb:TS}{pos:Pos}(hp:PassesOwn (model X.prog X.w) X.A X.env X.xe)(hc:X.calm=true)(hi:PI X tg iter wi)(hg:PG X tg g)(hb:PSs X body tb)
  (hs:∀x,iX iter X.env x=pure x:=by intro _;rfl):PS X (.For tg iter body [] pos) (tFor wi g tb):=by
 intro pins s σ H D I h;refine wpAny_For (thn (hi pins s σ H _ I h) fun v s1 h1=>thn h1 fun itv s2 h2=>?_) hs;obtain⟨it,fp,tn,J,H2,e,I2,T,st2,f2,W,⟨m0,w0⟩,turn⟩:=h2;subst e
 --what stays true of the iterator's objects through the loop
 have stat:∀{H':Hp},(∀b∈fp,H' b=none)->∀b∈fp,oG X pins H' b:=fun hn b hb=>⟨hn b hb,(f2 b hb).2⟩;refine codeAny_forLoop_any (fun n s'=>∃i σ' H',Inv X pins σ' H' s'/\tn i s'.heap/\(∀b∈fp,H' b=none)/\W i n σ' H') ?_ m0 ⟨0,σ,H2,I2,st2,fun b hb=>(f2 b hb).1,w0⟩;rintro n s3 ⟨i,σ3,H3,I3,st3,fr3,w3⟩;rcases turn i n σ3 H3 w3 with⟨stop,qn⟩ |⟨go,N,hN,step⟩
 ·refine j6 hp (thn (T.done X rfl rfl rfl hc i pins s3 σ3 H3 X.xe I3 (stat fr3) st3 stop) fun r s4 ⟨hr,I4⟩=>?_)
  subst hr;exact wpAny_execs_nil ⟨σ3,H3,I4,qn⟩
 ·refine j6 hp (thn (T.item X rfl rfl rfl hc i pins s3 σ3 H3 X.xe I3 (stat fr3) st3 go) fun r s4 ⟨u,hr,h4⟩=>?_)
  subst hr;refine j6 hp (thn h4 fun _ s5 ⟨x,H5,I5,r5,y5,st5,fr5⟩=>?_);have I5':=I5.pinned (stat fr5) (T.obj _ _ st5);refine j6 hp (thn (hg _ s5 σ3 H5 x u _ I5' r5 (step x H5 y5)) fun _ s6 ⟨σ6,H6,I6,q6⟩=>?_);refine j6 hp (thn (hb _ s6 σ6 H6 _ I6 q6) fun f s7 q7=>?_);have again:∀{σ7:St}{H7:Hp},Inv X (pins++iH fp s5.heap) σ7 H7 s7->N σ7 H7->∃m,m<n/\∃i σ' H',Inv X pins σ' H' s7/\tn i s7.heap/\(∀b∈fp,H' b=none)/\W i m σ' H':=fun{σ7 H7} I7 n7=>by
   obtain⟨m',hm,w7⟩:=hN σ7 H7 n7;refine⟨m',hm,i+1,σ7,H7,I7.gW,T.keep _ _ _ st5 fun b hb o e=>(I7.pin (b,o) (bg _ (bg _ (ir hb e)))).1,fun b hb=>?_,w7⟩;obtain⟨o,e,d⟩:=T.obj _ _ st5 b hb;exact(I7.pin (b,o) (bg _ (bg _ (ir hb e)))).2.1
  cases f with
  |next =>obtain⟨σ7,H7,I7,n7⟩:=q7;exact again I7 n7
  |cont=>obtain⟨σ7,H7,I7,n7⟩:=q7;exact again I7 n7
  |brk=>obtain⟨σ7,H7,I7,q7⟩:=q7;exact⟨σ7,H7,I7.gW,q7⟩
  |ret v=>obtain⟨x7,σ7,H7,I7,r7,q7⟩:=q7;exact⟨x7,σ7,H7,I7.gW,r7,q7⟩
end
noncomputable abbrev R2:=V->V->Hp->VK->Prop
noncomputable def OpR(X:Cx)(f:Value->Value->Sem Value)(r:R2):Prop:=
 ∀(pins:List (Addr×Obj))(s:Shared)(σ:St)(H:Hp)(x y:V)(v u:Value)(Q:VK),Inv X pins σ H s->RelV x v->RelV y u->r x y H Q->
  wpAny (model X.prog X.w) X.A (f v u) (EP X pins σ Q) X.xe s
noncomputable def UnR(X:Cx)(f:Value->Sem Value)(r:V->Hp->VK->Prop):Prop:=
 ∀(pins:List (Addr×Obj))(s:Shared)(σ:St)(H:Hp)(x:V)(v:Value)(Q:VK),Inv X pins σ H s->RelV x v->r x H Q->
  wpAny (model X.prog X.w) X.A (f v) (EP X pins σ Q) X.xe s
noncomputable def fL(X:Cx)(f:Value)(r:List V->Hp->VK->Prop):Prop:=
 ∀(pins:List (Addr×Obj))(s:Shared)(σ:St)(H:Hp)(xs:List V)(us:List Value)(Q:VK),Inv X pins σ H s->bL xs us->r xs H Q->
  wpAny (model X.prog X.w) X.A (call f us) (EP X pins σ Q) X.xe s
noncomputable def TruR(X:Cx)(r:V->Hp->(Bool->Hp->Prop)->Prop):Prop:=
 ∀(pins:List (Addr×Obj))(s:Shared)(σ:St)(H:Hp)(x:V)(v:Value)(Q:Bool->Hp->Prop),Inv X pins σ H s->RelV x v->r x H Q->
  wpAny (model X.prog X.w) X.A (truthy v) (TP X pins σ Q) X.xe s
noncomputable def tOp(r:R2)(ta tb:TE):TE:=fun σ H Q=>ta σ H fun x H1=>tb σ H1 fun y H2=>r x y H2 Q
noncomputable def tUn(r:V->Hp->VK->Prop)(ta:TE):TE:=fun σ H Q=>ta σ H fun x H1=>r x H1 Q
noncomputable def rI(C:Int->Int->Prop)(g:Int->Int->V):R2:=fun x y H Q=>∃i j,x=.int i/\y=.int j/\C i j/\Q (g i j) H
noncomputable def rI0(g:Int->Int->V):R2:=fun x y H Q=>∃i j,x=.int i/\y=.int j/\Q (g i j) H
noncomputable def rU(g:Int->V):V->Hp->VK->Prop:=fun x H Q=>∃i,x=.int i/\Q (g i) H
section
variable {X:Cx}{a b c:Expr}{ta tb tc:TE}{pos:Pos}
theorem binT(ha:PE X a ta)(hb:PE X b tb){pins:List (Addr×Obj)}{s:Shared}{σ:St}{H:Hp}{R:V->V->Hp->Prop}(I:Inv X pins σ H s)
  (h:ta σ H fun x H1=>tb σ H1 fun y H2=>R x y H2){Q:Value->Shared->Prop}{f:Value->Value->Sem Value}
  (hf:∀v u s2 x y H2,Inv X pins σ H2 s2->RelV x v->RelV y u->R x y H2->wpAny (model X.prog X.w) X.A (f v u) Q X.xe s2):
  wpAny (model X.prog X.w) X.A (eval a X.env) (fun v s₁=>wpAny (model X.prog X.w) X.A (eval b X.env) (fun u s₂=>wpAny (model X.prog X.w) X.A (f v u) Q X.xe s₂) X.xe s₁) X.xe s:=by
 refine thn (ha pins s σ H _ I h) fun v s1 ⟨x,H1,I1,r1,q1⟩=>?_;refine thn (hb pins s1 σ H1 _ I1 q1) fun u s2 ⟨y,H2,I2,r2,q2⟩=>?_;exact hf v u s2 x y H2 I2 r1 r2 q2
theorem pe_op{op:Operator}{r:R2}(ho:OpR X (d4 op) r)(ha:PE X a ta)(hb:PE X b tb):PE X (.BinOp a op b pos) (tOp r ta tb):=by
 intro pins s σ H Q I h;exact wpAny_BinOp (binT ha hb I h fun v u s2 x y H2 I2 rx ry q=>ho pins s2 σ H2 x y v u Q I2 rx ry q)
theorem pe_un{op:BX}{r:V->Hp->VK->Prop}(ho:UnR X (unaryOp op) r)(ha:PE X a ta):PE X (.UnaryOp op a pos) (tUn r ta):=by
 intro pins s σ H Q I h;exact UnaryOp_ (thn (ha pins s σ H _ I h) fun v s1 ⟨x,H1,I1,r1,q1⟩=>ho pins s1 σ H1 x v Q I1 r1 q1)
theorem opI{f:Value->Value->Sem Value}{C:Int->Int->Prop}{g:Int->Int->Int}
  (rule:∀(i j:Int)(t u:Tok)(s:Shared)(Q:Value->Shared->Prop)(E:Value->Shared->Prop),C i j->Q (.int (g i j) s.toks) {s with toks:=s.toks+1}->wpAny (model X.prog X.w) X.A (f (.int i t) (.int j u)) Q E s):
  OpR X f (rI C fun i j=>.int (g i j)):=by
 intro pins s σ H x y v u Q I rx ry h;obtain⟨i,j,rfl,rfl,hc,q⟩:=h;obtain⟨t,rfl⟩:=rx;obtain⟨t',rfl⟩:=ry;exact rule i j t t' s _ _ hc ⟨.int (g i j),H,I.tok _,⟨_,rfl⟩,q⟩
theorem opI0{f:Value->Value->Sem Value}{g:Int->Int->Int}
  (rule:∀(i j:Int)(t u:Tok)(s:Shared)(Q:Value->Shared->Prop)(E:Value->Shared->Prop),Q (.int (g i j) s.toks) {s with toks:=s.toks+1}->wpAny (model X.prog X.w) X.A (f (.int i t) (.int j u)) Q E s):
  OpR X f (rI0 fun i j=>.int (g i j)):=by
 intro pins s σ H x y v u Q I rx ry h;obtain⟨i,j,rfl,rfl,q⟩:=h;obtain⟨t,rfl⟩:=rx;obtain⟨t',rfl⟩:=ry;exact rule i j t t' s _ _ ⟨.int (g i j),H,I.tok _,⟨_,rfl⟩,q⟩
theorem opB0{f:Value->Value->Sem Value}{g:Int->Int->Bool}
  (rule:∀(i j:Int)(t u:Tok)(s:Shared)(Q:Value->Shared->Prop)(E:Value->Shared->Prop),Q (.bool (g i j)) s->wpAny (model X.prog X.w) X.A (f (.int i t) (.int j u)) Q E s):
  OpR X f (rI0 fun i j=>.bl (g i j)):=by
 intro pins s σ H x y v u Q I rx ry h;obtain⟨i,j,rfl,rfl,q⟩:=h;obtain⟨t,rfl⟩:=rx;obtain⟨t',rfl⟩:=ry;exact rule i j t t' s _ _ ⟨.bl (g i j),H,I,rfl,q⟩
noncomputable def CDiv(i j:Int):Prop:=0<j/\j<1073741824
noncomputable def G4(i j:Int):Prop:=0<=j/\j<=1000000/\i.natAbs<2^64
noncomputable def wX(i j:Int):Prop:=(-(2^64)<i/\i<2^64)\/(-(2^64)<j/\j<2^64)
theorem wX.ok{i j:Int}(h:wX i j):IntMulOk i j:=by
 rcases h with⟨h1,h2⟩ |⟨h1,h2⟩
 ·exact .of_left (intBits_le_64 h1 h2)
 ·exact .of_right (intBits_le_64 h1 h2)
theorem zE(k:Nat):(0:Int)<=2^k:=by
 rw[two_pow_cast];exact Int.natCast_nonneg _
theorem op_add:OpR X (d4 .Add) (rI0 fun i j=>.int (i+j)):=opI0 fun _ _ _ _ _ _ _ q=>add_int q
theorem op_sub:OpR X (d4 .Sub) (rI0 fun i j=>.int (i-j)):=opI0 fun _ _ _ _ _ _ _ q=>sub_int q
theorem op_mul:OpR X (d4 .Mult) (rI wX fun i j=>.int (i*j)):=opI fun _ _ _ _ _ _ _ hc q=>mul_int q hc.ok
theorem op_fdiv:OpR X (d4 .FloorDiv) (rI CDiv fun i j=>.int (i/j)):=opI fun i j _ _ _ _ _ hc q=>by
 have h1:(0:Int)<j:=hc.1;have h2:j<1073741824:=hc.2;exact floordiv_int (by omega) (by rw[j8 i (by omega)];exact q) (.inl (PyProof.noPylong_small (by omega)))
theorem op_mod:OpR X (d4 .Mod) (rI (fun _ j=>0<j) fun i j=>.int (i%j)):=opI fun i j _ _ _ _ _ hc q=>by
 have h1:(0:Int)<j:=hc;exact mod_int' (by omega) (by rw[Int.fmod_eq_emod_of_nonneg i (by omega)];exact q)
theorem op_pow:OpR X (d4 .Pow) (rI G4 fun i j=>.int (i^j.toNat)):=opI fun _ _ _ _ _ _ _ hc q=>pow_int_small hc.1 hc.2.1 hc.2.2 q
theorem op_shl:OpR X (d4 .LShift) (rI G4 fun i j=>.int (i*2^j.toNat)):=opI fun _ _ _ _ _ _ _ hc q=>lshift_int_small hc.1 hc.2.1 hc.2.2 q
theorem op_shr:OpR X (d4 .RShift) (rI (fun _ j=>0<=j) fun i j=>.int (i/2^j.toNat)):=opI fun i j _ _ _ _ _ hc q=>
 rshift_int hc (by rw[j8 i (zE _)];exact q)
theorem op_and:OpR X (d4 .BitAnd) (rI0 fun i j=>.int (ip i j)):=opI0 fun _ _ _ _ _ _ _ q=>and_int q
theorem op_xor:OpR X (d4 .BitXor) (rI0 fun i j=>.int (jo i j)):=opI0 fun _ _ _ _ _ _ _ q=>xor_int q
theorem unI{f:Value->Sem Value}{g:Int->Int}
  (rule:∀(i:Int)(t:Tok)(s:Shared)(Q:Value->Shared->Prop)(E:Value->Shared->Prop),Q (.int (g i) s.toks) {s with toks:=s.toks+1}->wpAny (model X.prog X.w) X.A (f (.int i t)) Q E s):
  UnR X f (rU fun i=>.int (g i)):=by
 intro pins s σ H x v Q I rx h;obtain⟨i,rfl,q⟩:=h;obtain⟨t,rfl⟩:=rx;exact rule i t s _ _ ⟨.int (g i),H,I.tok _,⟨_,rfl⟩,q⟩
theorem Ef:UnR X (unaryOp .USub) (rU fun i=>.int (-i)):=unI fun _ _ _ _ _ q=>neg_int q
end
section
variable {X:Cx}{a b c:Expr}{ta tb tc:TE}{pos:Pos}
theorem rT{pins:List (Addr×Obj)}{σ:St}{H:Hp}{s:Shared}{Q:VK}{k k':Bool}(I:Inv X pins σ H s)(q:Q (.bl k) H)(e:k=k'):EP X pins σ Q (.bool k') s:=by
 subst e;exact⟨.bl k,H,I,rfl,q⟩
theorem op_lt:OpR X (dg .Lt) (rI0 fun i j=>.bl (decide (i<j))):=opB0 fun _ _ _ _ _ _ _ q=>lt_int q
theorem op_le:OpR X (dg .LtE) (rI0 fun i j=>.bl (decide (i<=j))):=opB0 fun _ _ _ _ _ _ _ q=>le_int q
theorem op_gt:OpR X (dg .Gt) (rI0 fun i j=>.bl (decide (j<i))):=opB0 fun _ _ _ _ _ _ _ q=>gt_int q
theorem op_ge:OpR X (dg .GtE) (rI0 fun i j=>.bl (decide (j<=i))):=opB0 fun _ _ _ _ _ _ _ q=>ge_int q
theorem CC:OpR X (dg .In) (fun x y H Q=>∃i j,x=.str i/\y=.str j/\Q (.bl (!(gK j i 0 j.length 1).isEmpty)) H):=by
 intro pins s σ H x y v u Q I rx ry h;obtain⟨i,j,rfl,rfl,q⟩:=h;obtain⟨t,rfl⟩:=rx;obtain⟨t',rfl⟩:=ry;exact in_str (rT I q rfl)
theorem op_isN:OpR X (dg .Is) (fun x y H Q=>y=.non/\Q (.bl (decide (x=.non))) H):=by
 intro pins s σ H x y v u Q I rx ry h;obtain⟨rfl,q⟩:=h;cases ry;refine is_none_gen (rT I q ?_);cases x<;>first
  | (cases rx;rfl)
  | (obtain⟨t,rfl⟩:=rx;rfl)
theorem op_notN:OpR X (dg .IsNot) (fun x y H Q=>y=.non/\Q (.bl (!decide (x=.non))) H):=by
 intro pins s σ H x y v u Q I rx ry h;obtain⟨rfl,q⟩:=h;cases ry;refine isnot_none_gen (rT I q ?_);cases x<;>first
  | (cases rx;rfl)
  | (obtain⟨t,rfl⟩:=rx;rfl)
theorem OpR.or{f:Value->Value->Sem Value}{r r':R2}(h:OpR X f r)(h':OpR X f r'):OpR X f (fun x y H Q=>r x y H Q\/r' x y H Q):=by
 intro pins s σ H x y v u Q I rx ry q;rcases q with q|q
 ·exact h pins s σ H x y v u Q I rx ry q
 ·exact h' pins s σ H x y v u Q I rx ry q
theorem pe_cmpR{op:CmpOp}{r:R2}(ho:OpR X (dg op) r)(ha:PE X a ta)(hb:PE X b tb)(hm:G9 op b=false):PE X (.Compare a [op] [b] pos) (tOp r ta tb):=by
 intro pins s σ H Q I h;exact wpAny_Compare1 (binT ha hb I h fun v u s2 x y H2 I2 rx ry q=>ho pins s2 σ H2 x y v u Q I2 rx ry q) hm
noncomputable def xy(t:TE):TT:=fun σ H Q=>t σ H fun x H'=>∃k,x=.bl k/\Q k H'
theorem pt_cmpR{op:CmpOp}{r:R2}(ho:OpR X (dg op) r)(ha:PE X a ta)(hb:PE X b tb)(hm:G9 op b=false):PT X (.Compare a [op] [b] pos) (xy (tOp r ta tb)):=by
 intro pins s σ H Q I h;refine wpAny_isTrue_Compare1 (thn (ha pins s σ H _ I h) fun v s1 ⟨x,H1,I1,r1,q1⟩=>thn (hb pins s1 σ H1 _ I1 q1) fun u s2 ⟨y,H2,I2,r2,q2⟩=>
  thn (ho pins s2 σ H2 x y v u _ I2 r1 r2 q2) fun c s3 ⟨z,H3,I3,r3,k,e,q3⟩=>?_) hm
 subst e;cases r3;exact cQ ⟨H3,I3,q3⟩
noncomputable def qP(r r':R2)(ta tb tc:TE):TE:=fun σ H Q=>ta σ H fun x H1=>tb σ H1 fun y H2=>r x y H2 fun z H3=>∃k,z=.bl k/\
 (if k=true then tc σ H3 fun w' H4=>r' y w' H4 Q else Q (.bl false) H3)
theorem Fl{op op':CmpOp}{r r':R2}(ho:OpR X (dg op) r)(ho':OpR X (dg op') r')(ha:PE X a ta)(hb:PE X b tb)(hc:PE X c tc)
  (hm:lastMarks [op,op'] [b,c]=false:=by with_unfolding_all rfl):PE X (.Compare a [op,op'] [b,c] pos) (qP r r' ta tb tc):=by
 intro pins s σ H Q I h;refine Compare_chain (thn (ha pins s σ H _ I h) fun v s1 ⟨x,H1,I1,r1,q1⟩=>chain_link (thn (hb pins s1 σ H1 _ I1 q1) fun u s2 ⟨y,H2,I2,r2,q2⟩=>
  thn (ho pins s2 σ H2 x y v u _ I2 r1 r2 q2) fun d s3 ⟨z,H3,I3,r3,k,e,q3⟩=>?_)) hm
 subst e;cases r3;refine cQ ?_;cases k with
 |false=>exact ite_ff ⟨.bl false,H3,I3,rfl,q3⟩
 |true=>exact ite_tt (chain_last (thn (hc pins s3 σ H3 _ I3 q3) fun w' s4 ⟨z',H4,I4,r4,q4⟩=>ho' pins s4 σ H4 y z' u w' Q I4 r2 r4 q4))
theorem E3{op op':CmpOp}{r r':R2}(ho:OpR X (dg op) r)(ho':OpR X (dg op') r')(ha:PE X a ta)(hb:PE X b tb)(hc:PE X c tc)
  (hm:lastMarks [op,op'] [b,c]=false:=by with_unfolding_all rfl):PT X (.Compare a [op,op'] [b,c] pos) (xy (qP r r' ta tb tc)):=by
 intro pins s σ H Q I h;refine isTrue_chain (thn (ha pins s σ H _ I h) fun v s1 ⟨x,H1,I1,r1,q1⟩=>test_link (thn (hb pins s1 σ H1 _ I1 q1) fun u s2 ⟨y,H2,I2,r2,q2⟩=>
  thn (ho pins s2 σ H2 x y v u _ I2 r1 r2 q2) fun d s3 ⟨z,H3,I3,r3,k,e,q3⟩=>?_)) hm
 subst e;cases r3;refine cQ ?_;cases k with
 |false=>
  obtain⟨k',e',q'⟩:=q3;cases e';exact ite_ff ⟨H3,I3,q'⟩
 |true=>
  refine ite_tt (test_last (thn (hc pins s3 σ H3 _ I3 q3) fun w' s4 ⟨z',H4,I4,r4,q4⟩=>thn (ho' pins s4 σ H4 y z' u w' _ I4 r2 r4 q4) fun d' s5 ⟨z2,H5,I5,r5,k2,e2,q5⟩=>?_));subst e2;cases r5;exact cQ ⟨H5,I5,q5⟩
noncomputable def TruV(K:ae)(x:V)(H:Hp)(k:Bool):Prop:=
 match x with
 |.non=>k=false
 |.bl b=>k=b
 |.int i=>k=(i != 0)
 |.str y=>y.length<=sizeLine/\k=((y.length:Int) != 0)
 |.byt y=>y.size<=sizeLine/\k=((y.size:Int) != 0)
 |.ref p=>(∃xs,SqL K H p xs/\k= !xs.isEmpty)\/(∃xs,SqT K H p xs/\k= !xs.isEmpty)\/∃kvs,H p=some (.dK kvs)/\k= !kvs.isEmpty
 |_=>False
theorem Ay{κ:Type}{kvs:List (κ×V)}{vs:List (κ×Value)}(r:KV kvs vs):(!vs.isEmpty)= !kvs.isEmpty:=by
 cases r<;>rfl
theorem rP{xs:List V}{its:List Value}(r:bL xs its):(!its.toArray.isEmpty)= !xs.isEmpty:=by
 cases r<;>simp
theorem mU:(sizeLine:Nat)<2^63:=by rw[iF];decide
theorem tru_ok:TruR X (fun x H Q=>∃k,TruV X.K x H k/\Q k H):=by
 intro pins s σ H x v Q I rx h;obtain⟨k,e,q⟩:=h;have hl:=mU;have hs:sizeLine=16777216:=iF;cases x with
 |non=>
  cases rx;have e':k=false:=e;subst e';exact truthy_none ⟨H,I,q⟩
 |bl b=>
  cases rx;have e':k=b:=e;subst e';exact cQ ⟨H,I,q⟩
 |int i=>
  obtain⟨t,rfl⟩:=rx;have e':k=(i != 0):=e;subst e';exact PySem.P.truthy_int ⟨H,I,q⟩
 |str y=>
  obtain⟨t,rfl⟩:=rx;obtain⟨hy,e'⟩:y.length<=sizeLine/\k=((y.length:Int) != 0):=e;subst e';exact PySem.P.truthy_str (by omega) ⟨H,I.tok _,q⟩
 |byt y=>
  obtain⟨t,rfl⟩:=rx;obtain⟨hy,e'⟩:y.size<=sizeLine/\k=((y.size:Int) != 0):=e;subst e';exact PySem.W.truthy_bytes (by omega) ⟨H,I.tok _,q⟩
 |ref p=>
  cases rx;have e':(∃xs,SqL X.K H p xs/\k= !xs.isEmpty)\/(∃xs,SqT X.K H p xs/\k= !xs.isEmpty)\/∃kvs,H p=some (.dK kvs)/\k= !kvs.isEmpty:=e;rcases e' with⟨xs,hx,e'⟩ |⟨xs,hx,e'⟩ |⟨kvs,hx,e'⟩
  ·subst e'
   obtain⟨its,r,pl,hz⟩:=I.list hx;have hlen:=r.length;exact wpAny_truthy_list pl.isList (by simp only[av];omega) ⟨H,I.tok _,by rw[rP r];exact q⟩
  ·subst e'
   obtain⟨its,r,pl,hz⟩:=I.tuple hx;have hlen:=r.length;exact truthy_tuple pl (by simp only[av];omega) ⟨H,I.tok _,by rw[rP r];exact q⟩
  ·subst e'
   obtain⟨hz,hS,vs,r,m⟩:kvs.length<=sizeLine/\(p==gb)=false/\∃vs,KV kvs vs/\s.heap.DictOf (cy X.prog X.w) p vs:=I.hok p _ hx;have hlen:kvs.length=vs.length:=iN r;exact wpAny_truthy_dict hS m (by omega) ⟨H,I.tok _,by rw[Ay r];exact q⟩
 |_=>exact(show False from e).elim
theorem nN(ha:PE X a ta)(he:∀whole,isTrue a X.env whole=(do let v<-whole;standAt a.pos;holding [v] (truthy v))):
  PT X a (fun σ H Q=>ta σ H fun x H'=>∃k,TruV X.K x H' k/\Q k H'):=by
 intro pins s σ H Q I h;exact isTrue_plain (thn (ha pins s σ H _ I h) fun v s1 ⟨x,H1,I1,r1,q1⟩=>tru_ok pins s1 σ H1 x v Q I1 r1 q1) (he _)
theorem Aj:OpR X (d4 .Add) (fun x y H Q=>∃i j,x=.str i/\y=.str j/\i.length+j.length<=sizeLine/\Q (.str (i++j)) H):=by
 intro pins s σ H x y v u Q I rx ry h;obtain⟨i,j,rfl,rfl,hz,q⟩:=h;obtain⟨t,rfl⟩:=rx;obtain⟨t',rfl⟩:=ry;exact add_str (fun t' tk=>⟨.str (i++j),H,I.tok _,⟨_,rfl⟩,q⟩) hz
theorem vals1{x:V}{us:List Value}(r:bL [x] us):∃u,us=[u]/\RelV x u:=by
 cases r with
 |cons r1 r2=>cases r2;exact⟨_,rfl,r1⟩
theorem vals2{x y:V}{us:List Value}(r:bL [x,y] us):∃u w',us=[u,w']/\RelV x u/\RelV y w':=by
 cases r with
 |cons r1 r2=>
  cases r2 with
  |cons r3 r4=>cases r4;exact⟨_,_,rfl,r1,r3⟩
theorem pv(hc:X.calm=true):fL X (.builtin "min") (fun xs H Q=>∃i j,xs=[.int i,.int j]/\Q (.int (if j<i then j else i)) H):=by
 intro pins s σ H xs us Q I r h;obtain⟨i,j,rfl,q⟩:=h;obtain⟨u,w',rfl,⟨t,rfl⟩,⟨t',rfl⟩⟩:=vals2 r;refine min_two_ints (I.ok.hd hc) fun h' tk k=>⟨_,H,I.kept k,?_,q⟩;by_cases hj:j<i
 ·rw[if_pos hj,if_pos hj];exact⟨_,rfl⟩
 ·rw[if_neg hj,if_neg hj];exact⟨_,rfl⟩
theorem Dv:fL X (.type "int") (fun xs H Q=>(∃i,xs=[.int i]/\Q (.int i) H)\/∃k,xs=[.bl k]/\Q (.int (if k then 1 else 0)) H):=by
 intro pins s σ H xs us Q I r h;rcases h with⟨i,rfl,q⟩ |⟨k,rfl,q⟩
 ·obtain⟨u,rfl,t,rfl⟩:=vals1 r
  exact call_int_int ⟨.int i,H,I,⟨_,rfl⟩,q⟩
 ·obtain⟨u,rfl,r1⟩:=vals1 r
  cases r1;exact call_int_bool ⟨.int (if k then 1 else 0),H,I.tok _,⟨_,rfl⟩,q⟩
end
structure AL(h:Heap)(x dx C:Addr)(mA:Str->Option Value):Prop where
 obj:h.get? x=some (eL C dx)
 ns:h.Ns1 dx mA
 ne:dx≠x
theorem C0{h:Heap}{dx:Addr}{mA:Str->Option Value}(n:h.Ns1 dx mA):∃od,h.get? dx=some od/\∀name,mf name od=some (mA name):=by
 obtain⟨o,es,ep,ho,hd,hk,_,hm⟩:=n;refine⟨o,ho,fun name=>?_⟩;have e:=hm name;unfold nsFind findBy at e;rw[<-Array.find?_toList]at e;unfold mf;rw[hd];dsimp only;split
 ·rename_i y q
  rw[q]at e;exact congrArg some e
 ·rename_i q
  rw[q]at e;have a:es.toList.any (·.refKey)=false:=by
   rw[List.any_eq_false];intro y hy;obtain⟨z,t,hkey⟩:=hk y (i3.mp hy);simp[DictEntry.refKey,hkey]
  have a':¬es.toList.any (·.refKey)=true:=by rw[a];exact aC
  rw[if_neg a'];exact congrArg some e
theorem AL.look{h:Heap}{x dx C:Addr}{mA:Str->Option Value}(I:AL h x dx C mA):∃od,PySem.W.InstAt h x (eL C dx) C (some od)/\∀name,mf name od=some (mA name):=
 let⟨od,ho,hl⟩:=C0 I.ns
 ⟨od,⟨I.obj,rfl,rfl,ho⟩,hl⟩
section
variable {prog:Program}{w:World}{A:Around}{E:Value->Shared->Prop}{s:Shared}{K:ae}{x dx C f:Addr}{mA:Str->Option Value}{name:Str}{v:Value}
theorem get_map{expr:Bool}{Q:Value->Shared->Prop}(X:K.In s.heap)(I:AL s.heap x dx C mA)(hg:kB K C name=true)(hh:pE K C=true)
  (ha:dh K (.ref C) name=some none)(hv:mA name=some v)(hv':Hf v=true)(h:Q v {s with toks:=s.toks+1}):
  wpAny (model prog w) A (getAttr (.ref x) name expr) Q E s:=by
 obtain⟨od,J,hl⟩:=I.look;exact PySem.W.get_value X J (nr hg).1 (PySem.W.findObj_own hh ha rfl (by rw[hl,hv])) hv' h
theorem Ge{pl:Sem Bool}{Q:Value×List Value->Shared->Prop}(X:K.In s.heap)(I:AL s.heap x dx C mA)(hg:kB K C name=true)
  (hf:dh K (.ref C) name=some (some (.ref f)))(ht:kZ K (.ref f)=true)(hv:mA name=none)(h:Q (.ref f,[.ref x]) s):
  wpAny (model prog w) A (getMethod (.ref x) name pl) Q E s:=by
 obtain⟨od,J,hl⟩:=I.look;exact PySem.W.method_fn X J (nr hg).1 (nr hg).2 hf (beq_iff_eq.mp ht) (by show(mf name od).map (·.isSome)=some false;rw[hl,hv];rfl) h
theorem set_map{ns:List Str}{Q:Unit->Shared->Prop}(X:K.In s.heap)(I:AL s.heap x dx C mA)
  (hs:dh K (.ref C) "__setattr__"=some (some (.builtin "object.__setattr__")))(hp:DS K C=true)(ht:sO K C name=some none)(hh:pE K C=true)
  (hw:qm mA ns)(hsz:ns.length<=sizeLine)
  (h:∀h',AL h' x dx C (fun y=>if y=name then some v else mA y)->cY dx s.heap h'->Q () {s with heap:=h',toks:=s.toks+2}):
  wpAny (model prog w) A (setAttr (.ref x) name v) Q E s:=by
 obtain⟨od,J,hl⟩:=I.look;refine PySem.W.set_plain X J hs (PySem.W.osa_open (s:={s with toks:=s.toks+1}) (r:=none) X J hp ht fun b=>?_);obtain⟨cd,hc,hd'⟩:=PySem.W.any_some hh;have hx:s.heap.get? x=some ⟨.ref C,some dx,.plain,#[]⟩:=I.obj;refine aa (ai (aa (aa (wpAny_loadPart hx (aa (PySem.W.Looks.here (s:={s with toks:=s.toks+1}) (PySem.W.looks_clsIn X hc) ?_))))));rw[hd'];refine ai (a:=some dx) (aa (ai (aa ?_)));refine wpAny_nsSet1 (s:={s with toks:=s.toks+1}) I.ns fun h' hn2 hs2=>?_;obtain⟨oD,esD,epD,hoD,hdD,hcD⟩:=hn2.count (qm.cons name v hw);refine aa (wpAny_lookBehind hoD (by rw[hdD];exact pastItsLine_dict (aI hcD (by rw[ba];omega))) ?_);exact ai (h _ ⟨(hs2.2 _ (bZ I.ne)).trans I.obj,hn2,I.ne⟩ hs2)
theorem FK{R:Result->Shared->Prop}{vs:List Value}{kw:List (Str×Value)}(X:K.In s.heap)(hm:k7 K C=true)
  (hi:dh K (.ref C) "__init__"=some (some (.ref f)))(hf:PySem.W.typeIn K (.ref f)=some (.type "function"))
  (h:fo (model prog w) (A.under (.builtin "type.__call__" ⟨.ref C::vs,kw⟩)) (.call (.ref f) ⟨.ref (s.heap.objs.size+1)::vs,kw⟩) (PySem.W.InitBack (s.heap.objs.size+1) R)
   {s with heap:=(s.heap.push dy).push (eL C s.heap.objs.size)}):
  fo (model prog w) A (.call (.ref C) ⟨vs,kw⟩) R s:=by
 obtain⟨hh,g,d,t,os⟩:=s;exact PySem.W.make_core (PySem.W.makes_of X hm) (PySem.W.looks_findIn X hi) (fun self=>PySem.W.bind_fn X self hf) (.inl rfl) h
end
noncomputable def ki(f:Str)(v:V):List (Str×V)->List (Str×V)
 | []=>[(f,v)]
 | (g,x)::r=>if g=f then(g,v)::r else(g,x)::ki f v r
theorem pP(f g:Str)(v:V):∀fs:List (Str×V),(ki f v fs).lookup g=if g=f then some v else fs.lookup g
 | []=>by
  show cM g [(f,v)]=_;by_cases h:g=f
  ·have hb:(g==f)=true:=beq_iff_eq.mpr h
   simp only[cM,hb,if_pos h]
  ·have hb:(g==f)=false:=beq_eq_false_iff_ne.mpr h
   simp only[cM,hb,if_neg h]
 | (k,x)::r=>by
  have ih:=pP f g v r;rw[show ki f v ((k,x)::r)=(if k=f then(k,v)::r else(k,x)::ki f v r)from rfl];by_cases hk:k=f
  ·rw[if_pos hk]
   by_cases h:g=k
   ·have hb:(g==k)=true:=beq_iff_eq.mpr h
    simp only[cM,hb,if_pos (h.trans hk)]
   ·have hb:(g==k)=false:=beq_eq_false_iff_ne.mpr h
    simp only[cM,hb,if_neg (fun e:g=f=>h (e.trans hk.symm))]
  ·rw[if_neg hk]
   by_cases h:g=k
   ·have hb:(g==k)=true:=beq_iff_eq.mpr h
    simp only[cM,hb,if_neg (fun e:g=f=>hk (h.symm.trans e))]
   ·have hb:(g==k)=false:=beq_eq_false_iff_ne.mpr h
    simp only[cM,hb];exact ih
theorem o8(f:Str)(v:V):∀fs:List (Str×V),f∈(ki f v fs).map (·.1)/\∀g,g∈fs.map (·.1)->g∈(ki f v fs).map (·.1)
 | []=>⟨by simp[ki],fun g h=>by simp at h⟩
 | (k,x)::r=>by
  obtain⟨i1,i2⟩:=o8 f v r;rw[show ki f v ((k,x)::r)=(if k=f then(k,v)::r else(k,x)::ki f v r)from rfl];by_cases hk:k=f
  ·rw[if_pos hk]
   subst hk;exact⟨by simp,fun g h=>by simpa using h⟩
  ·rw[if_neg hk]
   refine⟨?_,fun g h=>?_⟩
   ·rw[bK]
    exact aM _ i1
   ·rw[bK]at h⊢
    rcases ay.mp h with e|e
    ·exact ay.mpr (.inl e)
    ·exact aM _ (i2 g e)
theorem pR(f:Str)(v:V):∀fs:List (Str×V),(ki f v fs).length<=fs.length+1
 | []=>by simp[ki]
 | (k,x)::r=>by
  have ih:=pR f v r;rw[show ki f v ((k,x)::r)=(if k=f then(k,v)::r else(k,x)::ki f v r)from rfl];by_cases hk:k=f
  ·rw[if_pos hk,ba,ba];omega
  ·rw[if_neg hk,ba,ba];omega
theorem md.some_of{v:V}{o:Option Value}(r:md (some v) o):∃u,o=some u/\RelV v u:=by
 cases o with
 |none=>exact(show False from r).elim
 |some u=>exact⟨u,rfl,r⟩
theorem md.none_of{o:Option Value}(r:md none o):o=none:=by
 cases o with
 |none=>rfl
 |some u=>exact(show False from r).elim
theorem De{v:V}{u:Value}(r:RelV v u):Hf u=true:=by
 cases v with
 |non=>cases(show u=bo from r);rfl
 |bl b=>cases(show u=pC b from r);rfl
 |int i=>obtain⟨t,e⟩:=(show ∃t,u=fR i t from r);cases e;rfl
 |str x=>obtain⟨t,e⟩:=(show ∃t,u=gH x t from r);cases e;rfl
 |byt b=>obtain⟨t,e⟩:=(show ∃t,u=Value.bytes b t from r);cases e;rfl
 |flt b=>obtain⟨t,e⟩:=(show ∃t,u=DO b t from r);cases e;rfl
 |ref a=>cases(show u=bz a from r);rfl
 |ty n=>cases(show u=eT n from r);rfl
section
variable {P:Program}{w:World}{H H':Hp}{h h':Heap}{a C dx:Addr}{fs fs':List (Str×V)}
theorem qB(hok:HOk P w H h)(e:H a=some (.ins C dx fs)):∃mA,AL h a dx C mA/\(∀f,md (fs.lookup f) (mA f))/\qm mA (fs.map (·.1))/\fs.length<=1000/\H dx=some (.own a):=by
 obtain⟨d,z,ne,ob,mA,n,r,q⟩:=(show dR P w H h a (.ins C dx fs)from hok a _ e);exact⟨mA,⟨ob,n,ne⟩,r,q,z,d⟩
end
structure Cls(K:ae)(C:Addr):Prop where
 pg:kB K C Str.empty=true
 hd:pE K C=true
 po:DS K C=true
 sa:dh K (.ref C) "__setattr__"=some (some (.builtin "object.__setattr__"))
theorem Cls.get{K:ae}{C:Addr}(c:Cls K C)(f:Str):kB K C f=true:=c.pg
noncomputable def lK(K:ae)(C:Addr)(f:Str):Prop:=dh K (.ref C) f=some none
theorem lK.taker{K:ae}{C:Addr}{f:Str}(n:lK K C f):sO K C f=some none:=by
 unfold sO;rw[show dh K (.ref C) f=some none from n];rfl
structure DB(K:ae)(C:Addr)(m:Str)(f:Addr):Prop where
 at_:dh K (.ref C) m=some (some (.ref f))
 fn:kZ K (.ref f)=true
 kp:bH K (.ref f)=true
section
variable {X:Cx}{pins:List (Addr×Obj)}{σ:St}{H:Hp}{s:Shared}{a C dx:Addr}{fs:List (Str×V)}{f:Str}{v:V}{A:Around}{E:Value->Shared->Prop}
theorem AA{b:Bool}{Q:Value->Shared->Prop}(I:Inv X pins σ H s)(e:H a=some (.ins C dx fs))(c:Cls X.K C)(n:lK X.K C f)(l:fs.lookup f=some v)
  (h:∀u s',Inv X pins σ H s'->RelV v u->Q u s'):wpAny (model X.prog X.w) A (getAttr (.ref a) f b) Q E s:=by
 obtain⟨mA,O,r,_,_,_⟩:=qB I.hok e;obtain⟨u,hu,ru⟩:=md.some_of (v:=v) (o:=mA f) (by rw[<-l];exact r f);exact get_map I.kIn O (c.get f) c.hd n hu (De ru) (h u _ (I.tok _) ru)
theorem rS{m:Str}{g:Addr}{pl:Sem Bool}{Q:Value×List Value->Shared->Prop}(I:Inv X pins σ H s)(e:H a=some (.ins C dx fs))(c:Cls X.K C)(k:DB X.K C m g)(l:fs.lookup m=none)
  (h:Q (.ref g,[.ref a]) s):wpAny (model X.prog X.w) A (getMethod (.ref a) m pl) Q E s:=by
 obtain⟨mA,O,r,_,_,_⟩:=qB I.hok e;have hn:mA m=none:=md.none_of (by rw[<-l];exact r m);exact Ge I.kIn O (c.get m) k.at_ k.fn hn h
theorem zT{y:V}{u:Value}{Q:Unit->Shared->Prop}(I:Inv X pins σ H s)(e:H a=some (.ins C dx fs))(c:Cls X.K C)(n:lK X.K C f)(hl:fs.length<1000)(ry:RelV y u)
  (h:∀s',Inv X pins σ (upd H a (.ins C dx (ki f y fs))) s'->Q () s'):wpAny (model X.prog X.w) A (setAttr (.ref a) f u) Q E s:=by
 obtain⟨mA,O,r,wi,_,ho⟩:=qB I.hok e;have hz:(fs.map (·.1)).length<=sizeLine:=by rw[ao,iF];omega
 refine set_map I.kIn O c.sa c.po n.taker c.hd wi hz fun h' O' sb=>h _ ?_;have hd:∃o,h'.get? dx=some o:=let⟨o,_,_,e',_⟩:=O'.ns;⟨o,e'⟩;refine I.write (x:=a) (e:=dx) (by rw[e];exact True.intro) (.inr ho) (fun b q hb z=>(sb.2 b hb).trans z) hd ?_;refine⟨by rw[aY O.ne];exact ho,?_,O.ne,O'.obj,_,O'.ns,fun g=>?_,fun g hg=>?_⟩
 ·have :=pR f y fs;omega
 ·show md ((ki f y fs).lookup g) (if g=f then some u else mA g)
  rw[pP];by_cases q:g=f
  ·rw[if_pos q,if_pos q];exact ry
  ·rw[if_neg q,if_neg q];exact r g
 ·by_cases q:g=f
  ·rw[q];exact(o8 f y fs).1
  ·refine(o8 f y fs).2 g (wi g fun z=>hg ?_)
   show(if g=f then some u else mA g)=none;rw[if_neg q];exact z
theorem Inv.made(I:Inv X pins σ H s):Inv X pins σ (upd (upd H s.heap.objs.size (.own (s.heap.objs.size+1))) (s.heap.objs.size+1) (.ins C s.heap.objs.size []))
  {s with heap:=(s.heap.push dy).push (eL C s.heap.objs.size)}:=by
 have e1:(s.heap.push dy).get? s.heap.objs.size=some dy:=au s.heap rfl;have e2:((s.heap.push dy).push (eL C s.heap.objs.size)).get? (s.heap.objs.size+1)=some (eL C s.heap.objs.size):=by
  have :=au (s.heap.push dy) (o:=eL C s.heap.objs.size) rfl
  rwa [bT]at this
 have e3:(s.heap.push dy).Ns s.heap.objs.size (fun _=>none):=⟨dy,#[],_,e1,rfl,(fun e he=>absurd he (by simp)),fun _=>rfl⟩;have I1:=I.laid (a:=s.heap.objs.size) (o:=.own (s.heap.objs.size+1)) (h':=s.heap.push dy) (t':=s.toks) (fun b u q=>ag _ q) (ax _) ⟨_,e1⟩;refine I1.laid (a:=s.heap.objs.size+1) (o:=.ins C s.heap.objs.size []) (t':=s.toks) (fun b u q=>ag _ q) (sT (bT _ _)) ?_;have ne:s.heap.objs.size≠s.heap.objs.size+1:=aB (bE _);refine⟨by rw[aY ne,az],bf _,ne,e2,fun _=>none,(Heap.Ns1.of_empty e3).at fun o q=>ag _ q,fun _=>True.intro,fun y hy=>absurd rfl hy⟩
theorem attr_of{prog:Program}{w:World}{env:Env}{e:Expr}{f:Str}{pos:Pos}{s:Shared}{Q:Value->Shared->Prop}(hb:iw e f env (eval e env)=eval e env)
  (h:wpAny (model prog w) A (eval e env) (fun o s₁=>wpAny (model prog w) A (getAttr o f true) Q E s₁) E s):wpAny (model prog w) A (eval (.Attribute e f pos) env) Q E s:=
 Attribute_any_ h (by rw[arm_eval_Attribute,hb])
end
noncomputable def Ca(K:ae)(ta:TE)(f:Str):TE:=fun σ H Q=>ta σ H fun x H1=>∃a C dx fs v,x=.ref a/\H1 a=some (.ins C dx fs)/\Cls K C/\lK K C f/\fs.lookup f=some v/\Q v H1
noncomputable def EL(K:ae)(ta tv:TE)(f:Str):TS:=fun D σ H=>tv σ H fun y H1=>ta σ H1 fun x H2=>∃a C dx fs,x=.ref a/\H2 a=some (.ins C dx fs)/\Cls K C/\lK K C f/\fs.length<1000/\
 D.nx σ (upd H2 a (.ins C dx (ki f y fs)))
section
variable {X:Cx}{o e value:Expr}{f:Str}{pos pos' tpos:Pos}{ta tv:TE}
theorem pe_fld(he:PE X e ta)(hb:iw e f X.env (eval e X.env)=eval e X.env):PE X (.Attribute e f pos) (Ca X.K ta f):=by
 intro pins s σ H Q I h;refine attr_of hb (thn (he pins s σ H _ I h) fun u s1 ⟨x,H1,I1,rx,a,C,dx,fs,v,ex,ea,c,n,l,q⟩=>?_);subst ex;obtain rfl:u=bz a:=rx;exact AA I1 ea c n l fun u' s2 I2 ru=>⟨v,H1,I2,ru,q⟩
theorem ps_fld(ha:PE X o ta)(hv:PE X value tv)(hs:ni value (some (.Attribute o f pos')) pos.line X.env=pure false):PS X (.Assign [.Attribute o f pos'] value pos) (EL X.K ta tv f):=by
 intro pins s σ H D I h;refine plainObj_wpAny_Assign_Attribute (thn (hv pins s σ H _ I h) fun u s1 ⟨y,H1,I1,ry,q⟩=>thn (ha pins s1 σ H1 _ I1 q) fun ov s2 ⟨x,H2,I2,rx,a,C,dx,fs,ex,ea,c,n,l,q2⟩=>?_) hs;subst ex;obtain rfl:ov=bz a:=rx;exact zT I2 ea c n l ry fun s3 I3=>⟨σ,_,I3,q2⟩
end
section
variable {X:Cx}{pins:List (Addr×Obj)}{σ:St}{H:Hp}{s:Shared}{A:Around}{E:Value->Shared->Prop}{Q:Value->Shared->Prop}{c:Value}{b:Bool}
inductive kW (K:ae) (H:Hp):V->Value->Prop where
 |non:kW K H .non (.type "NoneType")
 |bl (x:Bool):kW K H (.bl x) (.type "bool")
 |int (i:Int):kW K H (.int i) (.type "int")
 |str (x:Str):kW K H (.str x) (.type "str")
 |flt (x:UInt64):kW K H (.flt x) (.type "float")
 |lst {a:Addr} {xs:List V} (e:H a=some (.lst xs)):kW K H (.ref a) (.type "list")
 |frz {a:Addr} {o:Obj} {xs:List V} (e:H a=some (.frz o (.lst xs))):kW K H (.ref a) (.type "list")
 |tup {a:Addr} {xs:List V} (e:H a=some (.tup xs)):kW K H (.ref a) (.type "tuple")
 |dK {a:Addr} {kvs:List (Key×V)} (e:H a=some (.dK kvs)):kW K H (.ref a) (.type "dict")
 |dT {a:Addr} {kvs:List (List Key×V)} (e:H a=some (.dT kvs)):kW K H (.ref a) (.type "dict")
 |ins {a C dx:Addr} {fs:List (Str×V)} (e:H a=some (.ins C dx fs)) (cl:Cls K C) (ha:dh K (.ref C) "__class__"=some (some (.builtin "object.__class__")))
   (hn:PySem.W.specialIn K (.builtin "object.__class__") "__get__"=some (some (.builtin "getset_descriptor.__get__"))) (htk:PySem.W.takesIn K (.builtin "object.__class__")=some true)
   (hm:PySem.W.mroIn K C (.type "object")=some true):kW K H (.ref a) (.ref C)
theorem uE{x:V}{u t:Value}(I:Inv X pins σ H s)(rx:RelV x u)(ty:kW X.K H x t)(e:ic X.K t c=some b)(h:∀tk,Q (.bool b) {s with toks:=tk}):
  wpAny (model X.prog X.w) A (call (.builtin "isinstance") [u,c]) Q E s:=by
 cases ty with
 |non=>cases(show u=bo from rx);exact dk PySem.W.kitx_none I.kIn True.intro e (fun z=>nomatch z) h
 |bl y=>cases(show u=pC y from rx);exact dk PySem.W.kitx_bool I.kIn True.intro e (fun z=>nomatch z) h
 |int i=>obtain⟨t,q⟩:=(show ∃t,u=fR i t from rx);cases q;exact dk PySem.W.kitx_int I.kIn True.intro e (fun z=>nomatch z) h
 |str y=>obtain⟨t,q⟩:=(show ∃t,u=gH y t from rx);cases q;exact dk PySem.W.kitx_str I.kIn True.intro e (fun z=>nomatch z) h
 |flt y=>obtain⟨t,q⟩:=(show ∃t,u=DO y t from rx);cases q;exact dk PySem.W.kitx_float I.kIn True.intro e (fun z=>nomatch z) h
 | @lst a xs ea=>
  cases(show u=bz a from rx);obtain⟨_,_,n,_,h1⟩:=(show dR X.prog X.w H s.heap a (.lst xs)from I.hok a _ ea);exact dk DT I.kIn ⟨_,h1,rfl⟩ e (fun z=>nomatch z) h
 | @frz a ob xs ea=>
  cases(show u=bz a from rx);obtain⟨_,_,_,n,_,h1⟩:=(show dR X.prog X.w H s.heap a (.frz ob (.lst xs))from I.hok a _ ea);exact dk DT I.kIn ⟨_,h1,rfl⟩ e (fun z=>nomatch z) h
 | @tup a xs ea=>
  cases(show u=bz a from rx);obtain⟨_,_,_,p⟩:=(show dR X.prog X.w H s.heap a (.tup xs)from I.hok a _ ea);obtain⟨o,h1,h2,_⟩:=p;exact dk PySem.W.kitx_tuple I.kIn ⟨o,h1,h2⟩ e (fun z=>nomatch z) h
 | @dK a kvs ea=>
  cases(show u=bz a from rx);obtain⟨_,_,vs,_,p⟩:=(show dR X.prog X.w H s.heap a (.dK kvs)from I.hok a _ ea);obtain⟨o,es,ep,h1,h2,_⟩:=p;exact dk DU I.kIn ⟨o,h1,h2.1⟩ e (fun z=>nomatch z) h
 | @dT a kvs ea=>
  cases(show u=bz a from rx);obtain⟨_,_,xs,_,o,es,ep,h1,h2,_⟩:=(show dR X.prog X.w H s.heap a (.dT kvs)from I.hok a _ ea);exact dk DU I.kIn ⟨o,h1,h2.1⟩ e (fun z=>nomatch z) h
 | @ins a C dx fs ea cl ha hn htk hm=>
  cases(show u=bz a from rx);obtain⟨mA,O,_⟩:=qB I.hok ea;obtain⟨od,J,_⟩:=O.look;exact dk (PySem.W.kitx_own (cl.get _) cl.hd ha hn htk hm) I.kIn J e (fun z=>nomatch z) h
end
structure hZ(k:Nat)(A:Around):Prop where
 hd:A.handled=none
 dp:A.depth+3*k+5<iV
 un:A.units+16*k+200<cLine
theorem hZ.mono{j k:Nat}{A:Around}(r:hZ k A)(h:j<=k):hZ j A:=⟨r.hd,by have :=r.dp;omega,by have :=r.un;omega⟩
theorem hZ.deeper{k:Nat}{A:Around}(r:hZ (k+1) A)(env:Env):hZ k (A.deeper env):=
 ⟨r.hd,by have :=r.dp;show A.depth+1+3*k+5<_;omega,by have :=r.un;show A.units+3+16*k+200<_;omega⟩
theorem Aq{A:Around}{C:Addr}{us:List Value}{kw:List (Str×Value)}:(A.under (.builtin "type.__call__" ⟨.ref C::us,kw⟩)).depth=A.depth+1:=by
 first |rfl|simp[zA,Code.weight,Code.isCreation,Code.isGuard,Code.isCaller,Code.frames,B3,guardIds]
theorem Ap{A:Around}{C:Addr}{us:List Value}{kw:List (Str×Value)}:(A.under (.builtin "type.__call__" ⟨.ref C::us,kw⟩)).units=A.units+1:=by
 first |rfl|simp[zA,Code.cUnits,Code.frames,B3]
theorem hZ.make{k:Nat}{A:Around}(r:hZ (k+1) A)(C:Addr)(us:List Value)(kw:List (Str×Value)):hZ k (A.under (.builtin "type.__call__" ⟨.ref C::us,kw⟩)):=
 ⟨r.hd,by have :=r.dp;rw[Aq];omega,by have :=r.un;rw[Ap];omega⟩
theorem hZ.depth{k:Nat}{A:Around}(r:hZ k A):A.depth<iV:=by have :=r.dp;omega
theorem hZ.units{k:Nat}{A:Around}(r:hZ k A):A.units+64<cLine:=by have :=r.un;omega
noncomputable def jC:TA:=fun _ H Q=>Q [] H
noncomputable def iC(ta:TE)(tr:TA):TA:=fun σ H Q=>ta σ H fun x H1=>tr σ H1 fun xs H2=>Q (x::xs) H2
section
variable {X:Cx}{e:Expr}{es:List Expr}{te:TE}{t:TA}{pos:Pos}
theorem ja:PA X [] jC:=fun _ _ _ _ H Q I h=>Calls.spliced_nil ⟨[],H,I,.nil,h⟩
theorem fg(ha:PE X e te)(hr:PA X es t)(hs:bc (e::es) X.env=(false,eval e X.env)::bc es X.env:=by rfl):PA X (e::es) (iC te t):=by
 intro pos pins s σ H Q I h;rw[hs];show wpAny _ _ (spliced ((false,eval e X.env)::backTo pos (bc es X.env))) _ _ s;refine jO (thn (ha pins s σ H _ I h) fun u s1 ⟨x,H1,I1,r1,q1⟩=>?_);exact thn (hr pos pins s1 σ H1 _ I1 q1) fun us s2 ⟨xs,H2,I2,r2,q2⟩=>⟨x::xs,H2,I2,.cons r1 r2,q2⟩
noncomputable def tTup(t:TA):TE:=fun σ H Q=>t σ H fun xs H1=>xs.length<=sizeLine/\∀p,H1 p=none->Q (.ref p) (upd H1 p (.tup xs))
noncomputable def tLst(t:TA):TE:=fun σ H Q=>t σ H fun xs H1=>xs.length<=sizeLine/\∀p,H1 p=none->Q (.ref p) (upd H1 p (.lst xs))
theorem pe_tup{x1}(h:PA X es t):PE X (.Tuple es x1 pos) (tTup t):=by
 intro pins s σ H Q I hq;refine wpAny_Tuple_spliced (thn (h pos pins s σ H _ I hq) fun us s1 ⟨xs,H1,I1,r,z,q⟩=>⟨by rw[<-r.length];exact z,?_⟩);have hf:H1 s1.heap.objs.size=none:=I1.hok.fresh (ax _);refine⟨.ref s1.heap.objs.size,upd H1 s1.heap.objs.size (.tup xs),I1.laid (t':=s1.toks) (fun b u e=>ag _ e) (ax _) ?_,rfl,q _ hf⟩;exact⟨z,us,r,⟨_,au _ rfl,rfl,_,rfl⟩⟩
theorem pe_lst(h:PA X es t):PE X (.List es pos) (tLst t):=by
 intro pins s σ H Q I hq;refine wpAny_List_spliced (thn (h pos pins s σ H _ I hq) fun us s1 ⟨xs,H1,I1,r,z,q⟩=>⟨by rw[<-r.length];exact z,?_⟩);have hf:H1 s1.heap.objs.size=none:=I1.hok.fresh (ax _);refine⟨.ref s1.heap.objs.size,upd H1 s1.heap.objs.size (.lst xs),I1.laid (t':=s1.toks) (fun b u e=>ag _ e) (ax _) ?_,rfl,q _ hf⟩;exact⟨z,us,0,r,au _ rfl⟩
end
noncomputable abbrev Sp:=List V->Hp->VK->XK->Prop
noncomputable abbrev CXT:=List Env->Hp->Shared->XK->Value->Shared->Prop
structure AM(P:Program)(w:World)(K:ae)(mg:Str->Option Value)(base:Heap)(A:Around)(outer:List Env)(s:Shared)(H:Hp):Prop where
 frames:A.frames=some outer
 mod:Mod K mg base
 bs:∀b o,base.get? b=some o->s.heap.get? b=some o/\H b=none
 bsz:base.objs.size<=s.heap.objs.size
 tG:s.heap.FunFrames base outer
 frf:∀b∈frs outer,H b=none
 hok:HOk P w H s.heap
 bare:l9 s.gens
noncomputable def CE(outer:List Env)(P:Program)(w:World)(H:Hp)(s:Shared)(Q:VK)(u:Value)(s':Shared):Prop:=
 ∃v H',s'.os=s.os/\l9 s'.gens/\Un (frs outer) [] H H' s.heap s'.heap/\HOk P w H' s'.heap/\RelV v u/\Q v H'
noncomputable def CR(CX:CXT)(outer:List Env)(P:Program)(w:World)(H:Hp)(s:Shared)(Q:VK)(E:XK)(r:Result)(s':Shared):Prop:=
 match r with
 |.ok (.ret u)=>CE outer P w H s Q u s'
 |.ok _=>False
 |.error e=>CX outer H s E e s'
structure gY(P:Program)(w:World)(K:ae)(mg:Str->Option Value)(base:Heap)(CX:CXT)(k:Nat)(f:Addr)(fd:eN)(ps:List Str)(sp:Sp):Prop where
 len:∀vs H Q E,sp vs H Q E->vs.length=ps.length
 run:∀(A:Around)(outer:List Env)(s:Shared)(H:Hp)(args:Args)(us:List Value)(vs:List V)(Q:VK)(E:XK),hZ k A->AM P w K mg base A outer s H->BindsTo s fd args (ps.zip us)->bL vs us->sp vs H Q E->
  fo (model P w) A (.call (.ref f) args) (CR CX outer P w H s Q E) s
theorem AM.make{P:Program}{w:World}{K:ae}{mg:Str->Option Value}{base:Heap}{A:Around}{outer:List Env}{s:Shared}{H:Hp}(e:AM P w K mg base A outer s H)(C:Addr)(us:List Value)(kw:List (Str×Value)):
  AM P w K mg base (A.under (.builtin "type.__call__" ⟨.ref C::us,kw⟩)) outer s H:=⟨by first |exact e.frames| (simpa[zA,Code.envs,B3,pushEnvs]using e.frames),e.mod,e.bs,e.bsz,e.tG,e.frf,e.hok,e.bare⟩
section
variable {X:Cx}{pins:List (Addr×Obj)}{σ:St}{H:Hp}{s s':Shared}
theorem Inv.env0(I:Inv X pins σ H s):AM X.prog X.w X.K X.mg X.base X.A X.stack s H:=
 ⟨I.ok.frames,I.ok.mod,I.bs,aI I.ok.bsz I.sz,I.stack,I.vt,I.hok,I.bare⟩
theorem Inv.after{Q:VK}{u:Value}(I:Inv X pins σ H s)(h:CE X.stack X.prog X.w H s Q u s'):EP X pins σ Q u s':=by
 obtain⟨v,H',os,bare,un,hok,r,q⟩:=h;obtain⟨hh,g,d,t,os'⟩:=s';obtain rfl:os'=s.os:=os;exact⟨v,H',I.call (h':=hh) (g':=g) (d':=d) (t':=t) (ch:=[]) un hok bare (fun b z=>absurd z (by simp)),r,q⟩
end
noncomputable def xD(sp:Sp)(dvs:List V)(E:XK)(t:TA):TE:=fun σ H Q=>t σ H fun vs H1=>sp (vs++dvs) H1 Q E
noncomputable def xC(C:Addr)(m:Str)(sp:Sp)(dvs:List V)(E:XK)(ta:TE)(t:TA):TE:=fun σ H Q=>ta σ H fun x H1=>∃a dx fs,x=.ref a/\H1 a=some (.ins C dx fs)/\fs.lookup m=none/\
 t σ H1 fun vs H2=>sp (x::(vs++dvs)) H2 Q E
noncomputable def tMake(C:Addr)(sp:Sp)(dvs:List V)(E:XK)(t:TA):TE:=fun σ H Q=>t σ H fun vs H1=>∀x dx,H1 x=none->H1 dx=none->dx≠x->
 sp (.ref x::(vs++dvs)) (upd (upd H1 dx (.own x)) x (.ins C dx [])) (fun v H2=>v=.non/\Q (.ref x) H2) E
noncomputable def Binds(K:ae)(fd:eN)(ps:List Str)(ds:List Value):Prop:=
 ∀(s:Shared)(us:List Value),K.In s.heap->(us++ds).length=ps.length->BindsTo s fd ⟨us,[]⟩ (ps.zip (us++ds))
theorem Binds.all{K:ae}{fd:eN}{ps:List Str}(h:∀us:List Value,us.length=ps.length->iZ fd ⟨us,[]⟩=pure (ps.zip us)):Binds K fd ps []:=fun s us _ hl=>by
 rw[List.append_nil]at hl⊢;exact .of_eq (h us hl)
section
variable {X:Cx}{CX:CXT}{k:Nat}{f C:Addr}{fd:eN}{ps:List Str}{sp:Sp}{dvs:List V}{ds:List Value}{E:XK}{x m:Str}{p pos apos:Pos}{e o:Expr}{es:List Expr}{ta:TE}{t:TA}
structure Mk(K:ae)(C f:Addr):Prop where
 makes:k7 K C=true
 init:dh K (.ref C) "__init__"=some (some (.ref f))
 fn:kZ K (.ref f)=true
 kp:bH K (.ref C)=true
end
structure wW(N P:List Str)(sc:Scope):Prop where
 kind:sc.kind=.function
 co:sc.isCoroutine=false
 gen:sc.isGenerator=false
 nd:N.Nodup
 pre:N.take P.length=P
 par:∀x∈P,sc.names.lookup x=some .local\/sc.names.lookup x=some .cell
 nofree:∀y∈sc.names,y.2≠.free
theorem u5{kindOf:Str->Option d7}{x:Str}:∀{binds:List (Str×Value)}{m:Str->Option Value},(∀v,(x,v)∉binds)->bindL kindOf binds m x=m x
 | [],_,_=>rfl
 | (n,v)::r,m,h=>by
  unfold bindL;rw[u5 fun w hw=>h w (aM _ hw)];split
  ·have :x≠n:=by rintro rfl;exact h v aG
   simp[this]
  ·rfl
theorem u7{kindOf:Str->Option d7}{x:Str}:∀{binds:List (Str×Value)}{m:Str->Option Value},(∀v,(x,v)∉binds)->bindC kindOf binds m x=m x
 | [],_,_=>rfl
 | (n,v)::r,m,h=>by
  unfold bindC;rw[u7 fun w hw=>h w (aM _ hw)];split
  ·rfl
  ·have :x≠n:=by rintro rfl;exact h v aG
   simp[this]
theorem u6{kindOf:Str->Option d7}{x:Str}{v:Value}:∀{P:List Str}{vs:List Value}{i:Nat}{m:Str->Option Value},P.Nodup->P[i]? =some x->vs[i]? =some v->kindOf x=some .local->
  bindL kindOf (P.zip vs) m x=some v
 | [],_,_,_,_,h,_,_=>by simp at h
 |_::_,[],_,_,_,_,h,_=>by simp at h
 |p::P,w::vs,0,m,nd,h1,h2,hk=>by
  simp at h1 h2;subst h1;subst h2;show bindL kindOf ((p,w)::P.zip vs) m p=_;unfold bindL;rw[u5 fun v hv=>(cA.mp nd).1 (ve hv).1,if_pos hk];simp
 |p::P,w::vs,i+1,m,nd,h1,h2,hk=>by
  show bindL kindOf ((p,w)::P.zip vs) m x=_;unfold bindL;exact u6 (i:=i) (cA.mp nd).2 (by simpa using h1) (by simpa using h2) hk
theorem u9{kindOf:Str->Option d7}{x:Str}{v:Value}:∀{P:List Str}{vs:List Value}{i:Nat}{m:Str->Option Value},P.Nodup->P[i]? =some x->vs[i]? =some v->kindOf x≠some .local->
  bindC kindOf (P.zip vs) m x=some v
 | [],_,_,_,_,h,_,_=>by simp at h
 |_::_,[],_,_,_,_,h,_=>by simp at h
 |p::P,w::vs,0,m,nd,h1,h2,hk=>by
  simp at h1 h2;subst h1;subst h2;show bindC kindOf ((p,w)::P.zip vs) m p=_;unfold bindC;rw[u7 fun v hv=>(cA.mp nd).1 (ve hv).1,if_neg hk];simp
 |p::P,w::vs,i+1,m,nd,h1,h2,hk=>by
  show bindC kindOf ((p,w)::P.zip vs) m x=_;unfold bindC;exact u9 (i:=i) (cA.mp nd).2 (by simpa using h1) (by simpa using h2) hk
noncomputable def start(N:List Str)(vs:List V):St:=vs.map some++aT (N.length-vs.length) none
noncomputable def tJ(CX:CXT)(P:Program)(w:World)(K:ae)(mg:Str->Option Value)(base:Heap)(N:List Str)(qual:Str)(scope:Scope)(f:Addr)(cd:Value)(A:Around)(outer:List Env)(s:Shared)(H:Hp)(E:XK):Cx where
 prog:=P
 w:=w
 K:=K
 mg:=mg
 base:=base
 A:=A.deeper (envOfC qual scope s.heap.objs.size f cd)
 N:=N
 s₀:=s
 H₀:=H
 env:=envOfC qual scope s.heap.objs.size f cd
 outer:=outer
 stack:=envOfC qual scope s.heap.objs.size f cd::outer
 ex:=[]
 calm:=true
 fn:=fun _=>true
 pn:=[]
 xe:=fun e s'=>wpAny (model P w) (A.deeper (envOfC qual scope s.heap.objs.size f cd)) (leaving (envOfC qual scope s.heap.objs.size f cd) e) (fun _ s''=>CX outer H s E e s'') (fun e' s''=>CX outer H s E e' s'') s'
theorem yM{sc:Scope}{n:Nat}{x:Str}(h:sc.names.lookup x=some .cell):∃c,(cD n sc.names []).lookup x=some c:=by
 have q:=ze sc.names n [] (.inl h);exact eP.mp q
theorem C7{CX:CXT}{P:Program}{w:World}{K:ae}{mg:Str->Option Value}{base:Heap}{N ps:List Str}{qual:Str}{scope:Scope}{f:Addr}{cd:Value}{A:Around}{outer:List Env}{s s1:Shared}{H:Hp}{E:XK}{us:List Value}{vs:List V}
  (S:wW N ps scope)(hd:A.handled=none)(e0:AM P w K mg base A outer s H)(hl:vs.length=ps.length)(r:bL vs us)
  (x:InCallC s s.heap.objs.size (bindL (envOfC qual scope s.heap.objs.size f cd).kindOf (ps.zip us) fun _=>none) (cD (s.heap.objs.size+1) scope.names []) (bindC (envOfC qual scope s.heap.objs.size f cd).kindOf (ps.zip us) fun _=>none) s1):
  Inv (tJ CX P w K mg base N qual scope f cd A outer s H E) [] (start N vs) H s1:=by
 have hpl:ps.length<=N.length:=by have :=congrArg il S.pre;rw[cJ]at this;omega
 obtain⟨h1,tk,rfl,hk⟩:=x.done;have noA:∀b:Addr,b∉(tJ CX P w K mg base N qual scope f cd A outer s H E).ex:=fun b z=>absurd (show b∈([]:List Addr)from z) (by simp);refine⟨⟨e0.mod,S.kind,rfl,rfl,ax _,fun y z c h1 h2=>?_,fun y hy=>?_,fun y c _ h=>?_,fun _=>hd,Around.frames_deeper e0.frames,.inr ⟨rfl,rfl⟩,fun b z=>absurd z (noA b),e0.bs,e0.bsz,fun b _ _=>noA b,fun b z=>absurd z (noA b),e0.tG,e0.frf⟩,
  rfl,e0.bare,Un.kept hk,⟨_,x.toInCall.ns,fun i y v h1 h2 h3=>?_⟩,fun y c h=>⟨_,x.cell y c h⟩,e0.hok.fresh (ax _),fun y c h=>?_,fun p hp=>absurd (show p∈([]:List (Addr×Obj))from hp) (by simp),e0.hok.kept hk,?_⟩
 ·exact name_of_addr x.apart (bw h1) (bw h2)
 ·have hy:scope.names.lookup y=some .cell\/scope.names.lookup y=some .free:=hy
  rcases hy with hy|hy
  ·exact yM hy
  ·exact absurd rfl (S.nofree _ (bw hy))
 ·exact jN (x.above y c (bw h))
 ·have hi:i<vs.length:=by
   unfold start at h2;by_cases hi:i<vs.length
   ·exact hi
   ·rw[gB (by simpa using hi)]at h2
    rw[AO]at h2;split at h2<;>cases h2
  have ha:vs[i]? =some v:=by
   unfold start at h2;rw[kb (by simpa using hi),aA]at h2;cases e:vs[i]? with
   |none=>rw[e]at h2;cases h2
   |some a=>rw[e]at h2;cases h2;rfl
  obtain⟨u,hu,rv⟩:=r.get ha;have hp:ps[i]? =some y:=by
   rw[<-S.pre,zu (by omega)];exact h1
  have ndP:ps.Nodup:=by rw[<-S.pre];exact S.nd.sublist (qE _ _)
  refine⟨u,rv,?_⟩;rcases S.par y (aR hp)with k|k
  ·exact .inl ⟨k,u6 ndP hp hu k⟩
  ·obtain⟨c,e⟩:=yM (n:=s.heap.objs.size+1) k
   refine .inr ⟨.inl k,c,e,?_⟩;have q:=x.cell y c e;rw[u9 ndP hp hu (by show scope.names.lookup y≠_;rw[k];decide)]at q;exact q
 ·exact e0.hok.fresh (jN (x.above y c (bw h)))
 ·unfold start
  show _=N.length;rw[cu,ao,List.length_replicate];omega
theorem fn_of{CX:CXT}{P:Program}{w:World}{K:ae}{mg:Str->Option Value}{base:Heap}{k:Nat}{f:Addr}{name qual:Str}{params:Arguments}{body:List Stmt}{scope:Scope}{dV kV doc pm cdv ct oc:Value}{an od:Option Addr}
  {osl:Array (Option Value)}{N ps:List Str}{sp:Sp}(lk:K.lookup f=some ⟨oc,od,.func (aD name qual params body scope dV kV doc pm an cdv ct),osl⟩)(hcd:di K cdv qual=true)(S:wW N ps scope)
  (len:∀vs H Q E,sp vs H Q E->vs.length=ps.length)
  (hbody:∀(A:Around)(outer:List Env)(s:Shared)(H:Hp)(vs:List V)(Q:VK)(E:XK),hZ k (A.deeper (envOfC qual scope s.heap.objs.size f cdv))->sp vs H Q E->
   ∃t,PSs (tJ CX P w K mg base N qual scope f cdv A outer s H E) body t/\t {nx:=fun _ H'=>Q .non H',rt:=Q} (start N vs) H):
  gY P w K mg base CX (k+1) f (aD name qual params body scope dV kV doc pm an cdv ct) ps sp:=by
 refine⟨len,fun A outer s H args us vs Q E hr e0 hb r hsp=>?_⟩;have hl:=len _ _ _ _ hsp;have KX:K.In s.heap:=e0.mod.kin.keeps fun b o e=>(e0.bs b o e).1;have lim:s.heap.NoLimit:=e0.mod.nolimit.keeps fun b o e=>(e0.bs b o e).1;have hkind:∀y∈ps.zip us,scope.names.lookup y.1=some .local\/(scope.names.lookup y.1=some .cell/\((cD (s.heap.objs.size+1) scope.names []).lookup y.1).isSome=true):=fun⟨n,v⟩ hy=>by
  rcases S.par n (ve hy).1 with q|q
  ·exact .inl q
  ·exact .inr ⟨q,ze _ _ _ (.inl q)⟩
 refine codeAny_call_function hr.depth (KX _ _ lk) rfl S.co S.gen rfl (PySem.W.codeRec_of KX hcd) (hb _ _ _ _ ?_);refine wpAny_newFunctionEnv_cells S.kind hkind fun env he s1 x=>?_;subst he;refine⟨lim.keeps x.toInCall.keep,codeAny_func ?_⟩;obtain⟨t,ht,hq⟩:=hbody A outer s H vs Q E (hr.deeper _) hsp;have I:Inv (tJ CX P w K mg base N qual scope f cdv A outer s H E) [] (start N vs) H s1:=C7 S hr.hd e0 hl r x;refine eD (ht [] s1 (start N vs) H _ I hq) (fun fl s' hs=>?_) fun e s' hs=>hs;have fin:∀{σ':St}{H':Hp}{v:V}{u:Value},Inv (tJ CX P w K mg base N qual scope f cdv A outer s H E) [] σ' H' s'->RelV v u->Q v H'->CE outer P w H s Q u s':=
  fun{σ' H' v u} J rv q=>⟨v,H',J.os,J.bare,J.base,J.hok,rv,q⟩
 cases fl with
 |ret u=>
  obtain⟨v,σ',H',J,rv,q⟩:=hs;exact fin J rv q
 |next =>
  obtain⟨σ',H',J,q⟩:=hs;exact fin (v:=V.non) (u:=bo) J rfl q
 |brk=>
  obtain⟨_,_,_,q⟩:=hs;exact gz q
 |cont=>
  obtain⟨_,_,_,q⟩:=hs;exact gz q
section
variable {X:Cx}{x:Str}{p pos:Pos}{e:Expr}{es:List Expr}{t:TA}{id T:String}{r:List V->Hp->VK->Prop}
noncomputable def tCB(r:List V->Hp->VK->Prop)(t:TA):TE:=fun σ H Q=>t σ H fun vs H1=>r vs H1 Q
theorem dq(hc:fL X (.builtin id) r)(hg:Gl X x)(hm:X.mg x=none)(hv:eK x=some (.builtin id))(ha:PA X (e::es) t)(hn:x≠"__name__":=by decide) (hdb:(x==("__debug__":Str))=false:=by decide)
  (he:bc (e::es) X.env=(false,eval e X.env)::bc es X.env:=by rfl) (hpl:(backTo pos (bc es X.env)).any (·.1)=false:=by rfl):PE X (.Call (.Name x p) (e::es) [] pos) (tCB r t):=by
 intro pins s σ H Q I h;refine eM (iu I hg hm hv ?_ hn hdb);exact nz (thn (ha pos pins s σ H _ I h) fun us s1 ⟨vs,H1,I1,r1,q1⟩=>hc pins s1 σ H1 vs us Q I1 r1 q1) he hpl
theorem gQ(hc:fL X (.type T) r)(hg:Gl X x)(hm:X.mg x=none)(hv:eK x=some (.type T))(ha:PA X (e::es) t)(hn:x≠"__name__":=by decide) (hdb:(x==("__debug__":Str))=false:=by decide)
  (he:bc (e::es) X.env=(false,eval e X.env)::bc es X.env:=by rfl) (hpl:(backTo pos (bc es X.env)).any (·.1)=false:=by rfl):PE X (.Call (.Name x p) (e::es) [] pos) (tCB r t):=by
 intro pins s σ H Q I h;refine eM (iu I hg hm hv ?_ hn hdb);exact bV (thn (ha pos pins s σ H _ I h) fun us s1 ⟨vs,H1,I1,r1,q1⟩=>hc pins s1 σ H1 vs us Q I1 r1 q1) he hpl
end
end L2
namespace HT
open PySem PyProof.Rows
section
open PySem.SeqAt
open PySem.AutoSeq1 (wpAny_loadPart')
open PySem.MeetsSeq PySem.MeetsSeq2 PySem.MeetsSeq3
end
section
variable {prog:Program}{w:World}{A:Around}{E:Value->Shared->Prop}{s:Shared}
theorem cat_tup{t b:Addr}{vs ws:List Value}{Q:Value->Shared->Prop}(ht:IsTup s.heap t vs.toArray)(hb:IsTup s.heap b ws.toArray)(hv:vs≠[])
  (h1:ws=[]->Q (.ref t) s)(h2:ws≠[]->Q (.ref s.heap.objs.size) {s with heap:=s.heap.push {cls:=.type "tuple",data:=.seq (vs++ws).toArray}})
  (hsz:vs.length+ws.length<=sizeLine):wpAny (model prog w) A (d4 .Add (.ref t) (.ref b)) Q E s:=by
 obtain⟨⟨cls,dd,data,sl⟩,ho,hc,n,hd⟩:=id ht;obtain⟨⟨cls2,dd2,data2,sl2⟩,ho2,hc2,n2,hd2⟩:=id hb;simp only at hc hd hc2 hd2;subst hc hd hc2 hd2;have e:vs.toArray++ws.toArray=(vs++ws).toArray:=by simp
 by_cases hw:ws=[]
 ·exact concat_meets ⟨_,ho,rfl⟩ ⟨_,ho2,rfl⟩ zc G7 k6 kD (j7 _ _)
   (tuple_addW1 t b vs.toArray ws.toArray n n2 dd dd2 sl sl2 (by simpa using hv) (by simp[hw])) ⟨ho,ho2,h1 hw⟩
 ·refine concat_meets ⟨_,ho,rfl⟩ ⟨_,ho2,rfl⟩ zc G7 k6 kD (j7 _ _)
   (tuple_addW2 t b vs.toArray ws.toArray n n2 dd dd2 sl sl2 (by simpa using hv) (by simpa using hw) (by rw[av,av];exact hsz)) ⟨ho,ho2,?_⟩
  rw[e];exact h2 hw
noncomputable def sIx(n d:Nat):Option Int->Nat
 |none=>d
 |some v=>if v<0 then(v+(n:Int)).toNat else min v.toNat n
theorem A0(n d k:Nat):sIx n d (some (k:Int))=min k n:=by
 show(if(k:Int)<0 then((k:Int)+(n:Int)).toNat else min (k:Int).toNat n)=min k n;rw[if_neg (by omega),aX]
theorem EI(n d:Nat)(hd:d<=n)(o:Option Int):sIx n d o<=n:=by
 cases o with
 |none=>exact hd
 |some v=>
  show(if v<0 then(v+(n:Int)).toNat else min v.toNat n)<=n;by_cases hv:v<0
  ·rw[if_pos hv];omega
  ·rw[if_neg hv];exact Nat.min_le_right _ _
theorem clip_eq(v:Int)(n d:Nat):(if v<0 then max (v+(n:Int)) 0 else min v (n:Int))=((sIx n d (some v):Nat):Int):=by
 show(if v<0 then max (v+(n:Int)) 0 else min v (n:Int))=(((if v<0 then(v+(n:Int)).toNat else min v.toNat n):Nat):Int);by_cases hv:v<0
 ·simp only[if_pos hv];omega
 ·simp only[if_neg hv];omega
end
end HT
namespace L2
open PySem PySem.Spec PyProof.Rows
noncomputable abbrev TO:=St->Hp->(Option Int->Hp->Prop)->Prop
noncomputable def PO(X:Cx)(e:Option Expr)(t:TO):Prop:=
 ∀(pins:List (Addr×Obj))(s:Shared)(σ:St)(H:Hp)(Q:Option Int->Hp->Prop),Inv X pins σ H s->t σ H Q->
  wpAny (model X.prog X.w) X.A (evalPart e X.env) (fun u s'=>∃o H',Inv X pins σ H' s'/\IsPart u o/\Q o H') X.xe s
noncomputable def vp:TO:=fun _ H Q=>Q none H
noncomputable def En(t:TE):TO:=fun σ H Q=>t σ H fun x H1=>∃i,x=.int i/\Q (some i) H1
theorem intsAre_of{ns:List Int}:∀{us:List Value},bL (ns.map V.int) us->cb us ns:=by
 induction ns with
 |nil=>intro us r;rw[l8]at r;cases r;exact .nil
 |cons n ns ih=>
  intro us r;rw[bK]at r;cases r with
  |cons r1 r2=>
   obtain⟨t,e⟩:=r1;subst e;exact .cons n t (ih r2)
section
variable {X:Cx}{e:Expr}{te:TE}{lo hi:Option Expr}{tl th:TO}{pos p2:Pos}
theorem po_none:PO X none vp:=by
 intro pins s σ H Q I h;rw[G8];exact ai ⟨none,H,I,.none,h⟩
theorem po_some(h:PE X e te):PO X (some e) (En te):=by
 intro pins s σ H Q I hw;rw[evalPart_some];refine thn (h pins s σ H _ I hw) fun u s1 ⟨x,H1,I1,r1,q1⟩=>?_;obtain⟨i,rfl,q⟩:=q1;obtain⟨t,rfl⟩:=r1;exact⟨some i,H1,I1,.int i t,q⟩
noncomputable def SlR(X:Cx)(r:V->Option Int->Option Int->Hp->VK->Prop):Prop:=
 ∀(pins:List (Addr×Obj))(s:Shared)(σ:St)(H:Hp)(x:V)(v vl vu:Value)(lo hi:Option Int)(sl:Addr)(Q:VK),Inv X pins σ H s->RelV x v->s.heap.IsSliceOf sl vl vu .none->IsPart vl lo->IsPart vu hi->r x lo hi H Q->
  ∃T id,typeLookup (.type T) "__getitem__"=pure (some (.builtin id))/\s.TypeIs v T/\wpAny (model X.prog X.w) X.A (getItem v (.ref sl)) (EP X pins σ Q) X.xe s
theorem SlR.or{r r':V->Option Int->Option Int->Hp->VK->Prop}(h:SlR X r)(h':SlR X r'):SlR X (fun x lo hi H Q=>r x lo hi H Q\/r' x lo hi H Q):=by
 intro pins s σ H x v vl vu lo hi sl Q I rx hs pl pu q;rcases q with q|q
 ·exact h pins s σ H x v vl vu lo hi sl Q I rx hs pl pu q
 ·exact h' pins s σ H x v vl vu lo hi sl Q I rx hs pl pu q
noncomputable def tSl(r:V->Option Int->Option Int->Hp->VK->Prop)(te:TE)(tl th:TO):TE:=fun σ H Q=>te σ H fun x H1=>tl σ H1 fun l H2=>th σ H2 fun u H3=>r x l u H3 Q
theorem Ff{r:V->Option Int->Option Int->Hp->VK->Prop}(hr:SlR X r)(he:PE X e te)(hl:PO X lo tl)(hu:PO X hi th):PE X (.Subscript e (.Slice lo hi none p2) pos) (tSl r te tl th):=by
 intro pins s σ H Q I h;refine DP (thn (he pins s σ H _ I h) fun v s1 ⟨x,H1,I1,r1,q1⟩=>?_);refine wpAny_Slice (thn (hl pins s1 σ H1 _ I1 q1) fun vl s2 ⟨l,H2,I2,pl,q2⟩=>thn (hu pins s2 σ H2 _ I2 q2) fun vu s3 ⟨u,H3,I3,pu,q3⟩=>?_);rw[G8];refine ai ?_;have I4:Inv X pins σ H3 {s3 with heap:=s3.heap.push {cls:=.type "slice",data:=.fields #[vl,vu,.none]}}:=I3.kept (t':=s3.toks) fun b ob q=>ag _ q;obtain⟨T,id,hT,ht,hg⟩:=hr pins {s3 with heap:=s3.heap.push {cls:=.type "slice",data:=.fields #[vl,vu,.none]}} σ H3 x v vl vu l u s3.heap.objs.size Q I4 r1 (vh ..) pl pu q3;show wpAny (model X.prog X.w) X.A (sW e (.Slice lo hi none p2) v (.ref s3.heap.objs.size)) (EP X pins σ Q) X.xe {s3 with heap:=s3.heap.push {cls:=.type "slice",data:=.fields #[vl,vu,.none]}};exact tail_any (ops:=[.ref s3.heap.objs.size,v]) ht hT hg (by with_unfolding_all rfl)
noncomputable def wC(xs:List V)(lo hi:Option Int):List V:=(xs.drop (HT.sIx xs.length 0 lo)).take (HT.sIx xs.length xs.length hi-HT.sIx xs.length 0 lo)
theorem yI(xs:List V)(lo hi:Option Int):(wC xs lo hi).length<=xs.length:=by
 unfold wC;rw[cJ,List.length_drop];omega
noncomputable def rSlT(K:ae):V->Option Int->Option Int->Hp->VK->Prop:=fun x lo hi H Q=>∃a xs,x=.ref a/\SqT K H a xs/\
 ¬(HT.sIx xs.length 0 lo=0/\HT.sIx xs.length xs.length hi=xs.length)/\∀p,H p=none->Q (.ref p) (upd H p (.tup (wC xs lo hi)))
noncomputable def A8(K:ae):R2:=fun x y H Q=>∃a b xs ys,x=.ref a/\y=.ref b/\SqT K H a xs/\SqT K H b ys/\xs≠[]/\xs.length+ys.length<=sizeLine/\
 (ys=[]->Q (.ref a) H)/\(ys≠[]->∀p,H p=none->Q (.ref p) (upd H p (.tup (xs++ys))))
theorem bL.wj{xs:List V}{us:List Value}(r:bL xs us):us=[]↔xs=[]:=by
 cases r with
 |nil=>simp
 |cons _ _=>simp
theorem op_catT:OpR X (d4 .Add) (A8 X.K):=by
 intro pins s σ H x y v u Q I rx ry h;obtain⟨a,b,xs,ys,rfl,rfl,ha,hb,hx,hz,q1,q2⟩:=h;cases rx;cases ry;obtain⟨its,r1,p1,_⟩:=I.tuple ha;obtain⟨its2,r2,p2,_⟩:=I.tuple hb;refine HT.cat_tup p1 p2 (fun z=>hx (r1.wj.mp z)) (fun z=>⟨.ref a,H,I,rfl,q1 (r2.wj.mp z)⟩) (fun z=>?_) (by rw[<-r1.length,<-r2.length];exact hz);refine⟨.ref s.heap.objs.size,_,I.laid (t':=s.toks) (o:=.tup (xs++ys)) (fun b ob q=>ag _ q) (ax _) ?_,rfl,q2 (fun w=>z (r2.wj.mpr w)) _ (I.hok.fresh (ax _))⟩;exact⟨by rw[cu];exact hz,_,r1.append r2,IsTup.new _ _⟩
end
noncomputable def ixN(n:Nat)(i:Int):Option Nat:=if 0<=i then(if i<n then some i.toNat else none)else if -(n:Int)<=i then some (i+n).toNat else none
noncomputable def atI{α:Type}(xs:List α)(i:Int):Option α:=(ixN xs.length i).bind fun j=>xs[j]?
theorem Bw{n:Nat}{i:Int}{j:Nat}(h:ixN n i=some j):seqIndex? i n=some j/\j<n∧-(n:Int)<=i/\i<n:=by
 unfold ixN at h;by_cases h0:0<=i
 ·rw[if_pos h0]at h
  by_cases h1:i<n
  ·rw[if_pos h1]at h
   have e:i.toNat=j:=aV h;exact⟨by rw[zk h0 h1,e],by omega,by omega,h1⟩
  ·rw[if_neg h1]at h;cases h
 ·rw[if_neg h0]at h
  by_cases h1: -(n:Int)<=i
  ·rw[if_pos h1]at h
   have e:(i+n).toNat=j:=aV h;exact⟨by rw[seqIndex_neg (by omega) h1,e],by omega,h1,by omega⟩
  ·rw[if_neg h1]at h;cases h
theorem wO{α:Type}{xs:List α}{i:Int}{v:α}(h:atI xs i=some v):∃j,seqIndex? i xs.length=some j/\xs[j]? =some v/\j<xs.length∧-(xs.length:Int)<=i/\i<xs.length:=by
 unfold atI at h;cases e:ixN xs.length i with
 |none=>rw[e]at h;cases h
 |some j=>
  rw[e]at h;obtain⟨h1,h2,h3,h4⟩:=Bw e;exact⟨j,h1,h,h2,h3,h4⟩
theorem cH{α:Type}{xs:List α}{j:Nat}{v:α}(h:xs[j]? =some v):atI xs (j:Int)=some v:=by
 have hj:j<xs.length:=(aF.mp h).1;have e:ixN xs.length (j:Int)=some j:=by
  unfold ixN;rw[if_pos (by omega),if_pos (by omega)];simp
 unfold atI;rw[e];exact h
noncomputable def BU(b:Expr):Prop:=∀o i,subscripted b false o i=operate [o,i] (getItem o i)
noncomputable def IxR(X:Cx)(r:R2):Prop:=
 ∀(value slice:Expr)(pins:List (Addr×Obj))(s:Shared)(σ:St)(H:Hp)(x y:V)(v u:Value)(Q:VK),Inv X pins σ H s->RelV x v->RelV y u->r x y H Q->
  subscripted slice false v u=operate [v,u] (getItem v u)->wpAny (model X.prog X.w) X.A (sW value slice v u) (EP X pins σ Q) X.xe s
noncomputable def MtR(X:Cx)(id:String)(r:V->List V->Hp->VK->Prop):Prop:=
 ∀(pins:List (Addr×Obj))(s:Shared)(σ:St)(H:Hp)(x:V)(xs:List V)(v:Value)(us:List Value)(Q:VK),Inv X pins σ H s->RelV x v->bL xs us->r x xs H Q->
  wpAny (model X.prog X.w) X.A (call (.builtin id) (v::us)) (EP X pins σ Q) X.xe s
section
variable {X:Cx}{a b:Expr}{ta tb:TE}{pos:Pos}
theorem IxR.or{r r':R2}(h:IxR X r)(h':IxR X r'):IxR X (fun x y H Q=>r x y H Q\/r' x y H Q):=by
 intro value slice pins s σ H x y v u Q I rx ry q hs;rcases q with q|q
 ·exact h value slice pins s σ H x y v u Q I rx ry q hs
 ·exact h' value slice pins s σ H x y v u Q I rx ry q hs
theorem MtR.or{id:String}{r r':V->List V->Hp->VK->Prop}(h:MtR X id r)(h':MtR X id r'):MtR X id (fun x xs H Q=>r x xs H Q\/r' x xs H Q):=by
 intro pins s σ H x xs v us Q I rx rs q;rcases q with q|q
 ·exact h pins s σ H x xs v us Q I rx rs q
 ·exact h' pins s σ H x xs v us Q I rx rs q
theorem Fh{r:R2}(hr:IxR X r)(ha:PE X a ta)(hb:PE X b tb)(hs:BU b):PE X (.Subscript a b pos) (tOp r ta tb):=by
 intro pins s σ H Q I h;exact DP (binT ha hb I h fun v u s2 x y H2 I2 rx ry q=>hr a b pins s2 σ H2 x y v u Q I2 rx ry q (hs _ _))
noncomputable def rIxL(K:ae):R2:=fun x y H Q=>∃p xs i v,x=.ref p/\y=.int i/\SqL K H p xs/\atI xs i=some v/\Q v H
noncomputable def rIxT(K:ae):R2:=fun x y H Q=>∃p xs i v,x=.ref p/\y=.int i/\SqT K H p xs/\atI xs i=some v/\Q v H
noncomputable def rIxS:R2:=fun x y H Q=>∃z i c,x=.str z/\y=.int i/\z.length<=sizeLine/\atI z.cps.toList i=some c/\Q (.str ⟨#[c]⟩) H
theorem ix_list:IxR X (rIxL X.K):=by
 intro value slice pins s σ H x y v u Q I rx ry h hs;obtain⟨p,xs,i,z,rfl,rfl,hq,he,q⟩:=h;cases rx;obtain⟨t,rfl⟩:=ry;obtain⟨its,r,pl,hz⟩:=I.list hq;obtain⟨j,h1,h2,h3,h4,h5⟩:=wO he;obtain⟨w,ew,rw'⟩:=r.get h2;have hl:=r.length;have hn:=mU;have fin:EP X pins σ Q w s:=⟨z,H,I,rw',q⟩;by_cases h0:0<=i
 ·have hj:i.toNat=j:=by
   rw[zk h0 h5]at h1;exact aV h1
  exact item_listR pl.isList h0 (by omega) (by rw[hj];simpa using ew) fin hs
 ·have hj:(i+(its.toArray.size:Int)).toNat=j:=by
   rw[seqIndex_neg (by omega) h4]at h1;rw[av,<-hl];exact aV h1
  exact oI (x:=w) pl.isList.typeIs wZ.lookup
   (wpAny_getItem_list_neg (Q:=fun r s'=>r=w/\EP X pins σ Q r s') pl.isList (by omega) (by rw[av]<;>omega) (by omega) (by rw[hj];simpa using ew) ⟨rfl,fin⟩) hs
theorem ix_tup:IxR X (rIxT X.K):=by
 intro value slice pins s σ H x y v u Q I rx ry h hs;obtain⟨p,xs,i,z,rfl,rfl,hq,he,q⟩:=h;cases rx;obtain⟨t,rfl⟩:=ry;obtain⟨its,r,pl,hz⟩:=I.tuple hq;obtain⟨j,h1,h2,h3,h4,h5⟩:=wO he;obtain⟨w,ew,rw'⟩:=r.get h2;have hl:=r.length;have hn:=mU;have fin:EP X pins σ Q w s:=⟨z,H,I,rw',q⟩;exact oI (x:=w) pl.typeIs slot_tuple_getitem.lookup
  (getItem_tuple (j:=j) (Q:=fun r s'=>r=w/\EP X pins σ Q r s') pl (by omega) (by omega) (by rw[av,<-hl];exact h1) (by simpa using ew) ⟨rfl,fin⟩) hs
theorem ix_str:IxR X rIxS:=by
 intro value slice pins s σ H x y v u Q I rx ry h hs;obtain⟨z,i,c,rfl,rfl,hz,he,q⟩:=h;obtain⟨t,rfl⟩:=rx;obtain⟨t',rfl⟩:=ry;obtain⟨j,h1,h2,h3,h4,h5⟩:=wO he;have hl:z.cps.toList.length=z.length:=by simp[zd]
 rw[hl]at h1 h4 h5;have hn:=mU;exact tail_any (typeIs_str s z t) slot_str_getitem.lookup (getItem_str (c:=c) (by
  have e1:decide (i< -(2^63:Int))=false:=decide_eq_false (by omega);have e2:decide (i≥ 2^63)=false:=decide_eq_false (by omega);rw[e1,e2,zz]) (by rw[h1];simpa using h2) ⟨.str ⟨#[c]⟩,H,I.tok _,⟨_,rfl⟩,q⟩) hs
noncomputable def rIx(K:ae):R2:=fun x y H Q=>rIxL K x y H Q\/rIxT K x y H Q\/rIxS x y H Q
theorem FY:IxR X (rIx X.K):=ix_list.or (ix_tup.or ix_str)
theorem Ao(its:List Value)(n j:Nat)(u:Value):aS (·.setIfInBounds j u) {cls:=.type "list",data:=.seq its.toArray n}={cls:=.type "list",data:=.seq (its.set j u).toArray n}:=by
 simp[aS]
theorem Inv.lst{pins:List (Addr×Obj)}{σ:St}{H:Hp}{s:Shared}{p:Addr}{xs:List V}(I:Inv X pins σ H s)(h:H p=some (.lst xs)):
  ∃(its:List Value)(n:Nat),bL xs its/\s.heap.get? p=some {cls:=.type "list",data:=.seq its.toArray n}/\xs.length<=sizeLine:=by
 obtain⟨z,its,n,r,e⟩:=I.hok p _ h;exact⟨its,n,r,e,z⟩
theorem Inv.lstUpd{pins:List (Addr×Obj)}{σ:St}{H:Hp}{s:Shared}{p:Addr}{xs ys:List V}{its its':List Value}{n n':Nat}{f:Obj->Obj}(I:Inv X pins σ H s)(h:H p=some (.lst xs))
  (ho:s.heap.get? p=some {cls:=.type "list",data:=.seq its.toArray n}) (hf:f {cls:=.type "list",data:=.seq its.toArray n}={cls:=.type "list",data:=.seq its'.toArray n'}) (r:bL ys its') (hz:ys.length<=sizeLine) (t:Nat):
  Inv X pins σ (upd H p (.lst ys)) {s with heap:=s.heap.update p f,toks:=t}:=by
 have e:(s.heap.update p f).get? p=some {cls:=.type "list",data:=.seq its'.toArray n'}:=by
  rw[bA f ho (by rw[hf]<;>rfl),hf]
 refine I.write (x:=p) (e:=p) (by rw[h];trivial) (.inl rfl) (fun b u hb q=>(aE _ _ (bZ hb)).trans q) ⟨_,e⟩ ?_;exact⟨hz,its',n',r,e⟩
noncomputable def rSetL:V->V->V->Hp->(Hp->Prop)->Prop:=fun o i v H Q=>∃p xs k j,o=.ref p/\i=.int k/\H p=some (.lst xs)/\ixN xs.length k=some j/\Q (upd H p (.lst (xs.set j v)))
theorem set_list:PSet X rSetL:=by
 intro pins s σ H o i v ov iv u Q I ro ri rv h;obtain⟨p,xs,k,j,rfl,rfl,hp,hj,q⟩:=h;cases ro;obtain⟨t,rfl⟩:=ri;obtain⟨its,n,r,ho,hz⟩:=I.lst hp;obtain⟨h1,h2,h3,h4⟩:=Bw hj;have hl:=r.length;have hn:=mU;have I':Inv X pins σ (upd H p (.lst (xs.set j v))) {s with heap:=s.heap.update p (aS (·.setIfInBounds j u))}:=
  I.lstUpd hp ho (Ao its n j u) (r.set rv j) (by rw[List.length_set];exact hz) s.toks
 by_cases h0:0<=k
 ·have hk:k.toNat=j:=by
   rw[zk h0 h4]at h1;exact aV h1
  exact PySem.W.ki_setAt ho h0 (by omega) (by rw[av,<-hl];exact h4) (by rw[hk];exact⟨_,I',q⟩)
 ·have hk:(k+(its.toArray.size:Int)).toNat=j:=by
   rw[seqIndex_neg (by omega) h3]at h1;rw[av,<-hl];exact aV h1
  exact PySem.W.ki_setBack ho (by omega) (by rw[av,<-hl];exact h3) (by omega) (by rw[hk];exact⟨_,I',q⟩)
theorem vG(lo hi:Option Int)(n:Nat):(gT lo hi none n).1=((HT.sIx n 0 lo:Nat):Int)/\(gT lo hi none n).2.1=((HT.sIx n n hi:Nat):Int)/\(gT lo hi none n).2.2=1:=by
 refine⟨?_,?_,rfl⟩
 ·cases lo with
  |none=>simp[gT,HT.sIx]
  |some i=>
   simp only[gT,HT.sIx,qD,show(1:Int)>0 by decide,if_true];by_cases h:i<0
   ·simp only[h,if_true]<;>omega
   ·simp only[h,if_false]<;>omega
 ·cases hi with
  |none=>simp[gT,HT.sIx]
  |some i=>
   simp only[gT,HT.sIx,qD,show(1:Int)>0 by decide,if_true];by_cases h:i<0
   ·simp only[h,if_true]<;>omega
   ·simp only[h,if_false]<;>omega
theorem tu(its:List Value)(lo hi:Option Int):slicePick its.toArray lo hi none=((its.drop (HT.sIx its.length 0 lo)).take (HT.sIx its.length its.length hi-HT.sIx its.length 0 lo)).toArray:=by
 obtain⟨h1,h2,h3⟩:=vG lo hi its.toArray.size;unfold slicePick;rw[h1,h2,h3];simp only[sliceRange_one,pick_run,av]<;>rfl
noncomputable def rSlL(K:ae):V->Option Int->Option Int->Hp->VK->Prop:=fun x lo hi H Q=>∃a xs,x=.ref a/\SqL K H a xs/\∀p,H p=none->Q (.ref p) (upd H p (.lst (wC xs lo hi)))
theorem sl_list:SlR X (rSlL X.K):=by
 intro pins s σ H x v vl vu lo hi sl Q I rx hs pl pu h;obtain⟨a,xs,rfl,hx,q⟩:=h;cases rx;obtain⟨its,r,ht,hz⟩:=I.list hx;have hlen:=r.length;refine⟨"list",_,wZ.lookup,ht.isList.typeIs,?_⟩;refine G5 ht.isList hs pl pu .none (by simp) ?_ (by rw[av]<;>omega);rw[tu,<-hlen];refine⟨.ref s.heap.objs.size,_,I.laid (t':=s.toks) (o:=.lst (wC xs lo hi)) (fun b ob q=>ag _ q) (ax _) ?_,rfl,q _ (I.hok.fresh (ax _))⟩;exact⟨aI (yI xs lo hi) hz,_,0,(r.drop (HT.sIx xs.length 0 lo)).take (HT.sIx xs.length xs.length hi-HT.sIx xs.length 0 lo),au _ rfl⟩
noncomputable def mw:V->Bool
 |.non=>true
 |.bl _=>true
 |.int _=>true
 |.str _=>true
 |_=>false
noncomputable def eqV:V->V->Bool
 |.non,.non=>true
 |.bl a,.bl b=>a==b
 |.bl a,.int b=>(if a then 1 else 0)==b
 |.int a,.bl b=>a==(if b then 1 else 0)
 |.int a,.int b=>a==b
 |.str a,.str b=>a==b
 |_,_=>false
theorem fV{A:Around}{s:Shared}{y x:V}{u v:Value}(ry:RelV y u)(rx:RelV x v)(fy:mw y=true)(fx:mw x=true):SeqAt.EqAt A s u v (eqV y x):=by
 cases y with
 |non=>
  cases ry;cases x with
  |non=>cases rx;exact SeqAt.EqAt.same _
  |bl b=>cases rx;exact SeqAt.EqAt.none_bool b
  |int b=>obtain⟨t,rfl⟩:=rx;exact SeqAt.EqAt.none_int b t
  |str b=>obtain⟨t,rfl⟩:=rx;exact SeqAt.EqAt.none_str b t
  |_=>exact absurd (show false=true from fx) aC
 |bl a=>
  cases ry;cases x with
  |non=>cases rx;exact SeqAt.EqAt.bool_none a
  |bl b=>cases rx;exact SeqAt.EqAt.bool_bool a b
  |int b=>obtain⟨t,rfl⟩:=rx;exact SeqAt.EqAt.bool_int a b t
  |str b=>obtain⟨t,rfl⟩:=rx;exact SeqAt.EqAt.bool_str a b t
  |_=>exact absurd (show false=true from fx) aC
 |int a=>
  obtain⟨t',rfl⟩:=ry;cases x with
  |non=>cases rx;exact SeqAt.EqAt.int_none a t'
  |bl b=>cases rx;exact SeqAt.EqAt.int_bool a t' b
  |int b=>obtain⟨t,rfl⟩:=rx;exact SeqAt.EqAt.int_int a t' b t
  |str b=>obtain⟨t,rfl⟩:=rx;exact zo a t' b t
  |_=>exact absurd (show false=true from fx) aC
 |str a=>
  obtain⟨t',rfl⟩:=ry;cases x with
  |non=>cases rx;exact SeqAt.EqAt.str_none a t'
  |bl b=>cases rx;exact SeqAt.EqAt.str_bool a t' b
  |int b=>obtain⟨t,rfl⟩:=rx;exact zm a t' b t
  |str b=>obtain⟨t,rfl⟩:=rx;exact SeqAt.EqAt.str_str a t' b t
  |_=>exact absurd (show false=true from fx) aC
 |_=>exact absurd (show false=true from fy) aC
noncomputable def eqU(x:V)(u:Value):Bool:=match u with
 |.none=>eqV .non x
 |.bool b=>eqV (.bl b) x
 |.int i _=>eqV (.int i) x
 |.str z _=>eqV (.str z) x
 |_=>false
theorem Gw{x y:V}{u:Value}(r:RelV y u)(f:mw y=true):eqU x u=eqV y x:=by
 cases y with
 |non=>cases r;rfl
 |bl b=>cases r;rfl
 |int i=>obtain⟨t,rfl⟩:=r;rfl
 |str z=>obtain⟨t,rfl⟩:=r;rfl
 |_=>exact absurd (show false=true from f) aC
theorem oB{x:V}:∀{xs:List V}{us:List Value},bL xs us->xs.all mw=true->us.any (eqU x)=xs.any fun y=>eqV y x
 |_,_,.nil,_=>rfl
 |y::xs,u::us,.cons r t,f=>by
  rw[zw,aj]at f;rw[zv,zv,Gw r f.1,oB t f.2]
theorem lz{A:Around}{s:Shared}{x:V}{v:Value}(rx:RelV x v)(fx:mw x=true):∀{xs:List V}{us:List Value},bL xs us->xs.all mw=true->∀u∈us,SeqAt.EqAt A s u v (eqU x u)
 |_,_,.nil,_=>fun u hu=>by cases hu
 |y::xs,u::us,.cons r t,f=>fun u' hu=>by
  rw[zw,aj]at f;rcases ay.mp hu with rfl|hu
  ·rw[Gw r f.1];exact fV r rx f.1 fx
  ·exact lz rx fx t f.2 u' hu
noncomputable def inV(x:V)(xs:List V):Bool:=xs.any fun y=>eqV y x
noncomputable def rIn(K:ae)(neg:Bool):R2:=fun x y H Q=>∃p xs,y=.ref p/\(SqL K H p xs\/SqT K H p xs)/\mw x=true/\xs.all mw=true/\Q (.bl (if neg then !inV x xs else inV x xs)) H
theorem CD:OpR X (dg .In) (rIn X.K false):=by
 intro pins s σ H x y v u Q I rx ry h;obtain⟨p,xs,rfl,hq,fx,fs,q⟩:=h;cases ry;rcases hq with hq|hq
 ·obtain⟨its,r,pl,hz⟩:=I.list hq
  refine SeqAt.in_listAt (eqU x) pl.isList (fun w hw=>lz rx fx r fs w (by simpa using hw)) ⟨.bl _,H,I,rfl,?_⟩;rw[show its.toArray.any (eqU x)=its.any (eqU x) by simp,oB r fs];exact q
 ·obtain⟨its,r,pl,hz⟩:=I.tuple hq
  refine SeqAt.in_tupleAt (eqU x) pl (fun w hw=>lz rx fx r fs w (by simpa using hw)) ⟨.bl _,H,I,rfl,?_⟩;rw[show its.toArray.any (eqU x)=its.any (eqU x) by simp,oB r fs];exact q
theorem wa:OpR X (dg .NotIn) (rIn X.K true):=by
 intro pins s σ H x y v u Q I rx ry h;obtain⟨p,xs,rfl,hq,fx,fs,q⟩:=h;cases ry;rcases hq with hq|hq
 ·obtain⟨its,r,pl,hz⟩:=I.list hq
  refine SeqAt.notIn_listAt (eqU x) pl.isList (fun w hw=>lz rx fx r fs w (by simpa using hw)) ⟨.bl _,H,I,rfl,?_⟩;rw[show its.toArray.any (eqU x)=its.any (eqU x) by simp,oB r fs];exact q
 ·obtain⟨its,r,pl,hz⟩:=I.tuple hq
  refine SeqAt.notIn_tupleAt (eqU x) pl (fun w hw=>lz rx fx r fs w (by simpa using hw)) ⟨.bl _,H,I,rfl,?_⟩;rw[show its.toArray.any (eqU x)=its.any (eqU x) by simp,oB r fs];exact q
theorem vZ:OpR X (dg .NotIn) (fun x y H Q=>∃i j,x=.str i/\y=.str j/\Q (.bl (!(!(gK j i 0 j.length 1).isEmpty))) H):=by
 intro pins s σ H x y v u Q I rx ry h;obtain⟨i,j,rfl,rfl,q⟩:=h;obtain⟨t,rfl⟩:=rx;obtain⟨t',rfl⟩:=ry;exact notIn_str ⟨.bl _,H,I,rfl,q⟩
theorem wJ:fL X (.builtin "len") (fun xs H Q=>∃p ys,xs=[.ref p]/\(SqL X.K H p ys\/SqT X.K H p ys)/\Q (.int ys.length) H):=by
 intro pins s σ H xs us Q I r h;obtain⟨p,ys,rfl,hq,q⟩:=h;obtain⟨u,rfl,rx⟩:=vals1 r;cases rx;have hn:=mU;rcases hq with hq|hq
 ·obtain⟨its,r',pl,hz⟩:=I.list hq
  have hlen:=r'.length;exact Calls.call_len_list pl.isList (by simp only[av]<;>omega) ⟨.int ys.length,H,I.tok _,⟨s.toks+1,by rw[av,hlen]⟩,q⟩
 ·obtain⟨its,r',pl,hz⟩:=I.tuple hq
  have hlen:=r'.length;exact len_tuple pl (by simp only[av]<;>omega) ⟨.int ys.length,H,I.tok _,⟨s.toks+1,by rw[av,hlen]⟩,q⟩
theorem wI:fL X (.builtin "len") (fun xs H Q=>∃z,xs=[.str z]/\z.length<=sizeLine/\Q (.int z.length) H):=by
 intro pins s σ H xs us Q I r h;obtain⟨z,rfl,hz,q⟩:=h;obtain⟨u,rfl,t,rfl⟩:=vals1 r;have hn:=mU;exact len_str (by omega) ⟨.int z.length,H,I.tok _,⟨_,rfl⟩,q⟩
theorem fL.or{f:Value}{r r':List V->Hp->VK->Prop}(h:fL X f r)(h':fL X f r'):fL X f (fun xs H Q=>r xs H Q\/r' xs H Q):=by
 intro pins s σ H xs us Q I rs q;rcases q with q|q
 ·exact h pins s σ H xs us Q I rs q
 ·exact h' pins s σ H xs us Q I rs q
theorem wH:fL X (.type "list") (fun xs H Q=>∃p ys,xs=[.ref p]/\(SqL X.K H p ys\/SqT X.K H p ys)/\∀l,H l=none->Q (.ref l) (upd H l (.lst ys))):=by
 intro pins s σ H xs us Q I r h;obtain⟨p,ys,rfl,hq,q⟩:=h;obtain⟨u,rfl,rx⟩:=vals1 r;cases rx;have fin:∀(its:List Value),bL ys its->ys.length<=sizeLine->∀(h':Heap)(c':Nat),(∀b o',s.heap.get? b=some o'->h'.get? b=some o')->
   h'.get? s.heap.objs.size=some {cls:=.type "list",dict:=none,data:=.seq its.toArray c',slots:= #[]}->EP X pins σ Q (.ref s.heap.objs.size) {s with heap:=h'}:=fun its r' hz h' c' kp e=>
  ⟨.ref s.heap.objs.size,_,I.laid (t':=s.toks) kp (ax _) (show dR X.prog X.w _ h' _ (.lst ys)from⟨hz,its,c',r',e⟩),rfl,q _ (I.hok.fresh (ax _))⟩
 rcases hq with hq|hq
 ·obtain⟨its,r',pl,hz⟩:=I.list hq
  have hlen:=r'.length;obtain⟨o,ho,hc,n,hd⟩:=pl.isList;exact call_list_seq p (.inl rfl) ho hc hd (fun h' c' kp e=>fin its r' hz h' c' kp e) (by simp only[av]<;>omega)
 ·obtain⟨its,r',pl,hz⟩:=I.tuple hq
  have hlen:=r'.length;obtain⟨o,ho,hc,n,hd⟩:=pl;exact call_list_seq p (.inr rfl) ho hc hd (fun h' c' kp e=>fin its r' hz h' c' kp e) (by simp only[av]<;>omega)
theorem tL:fL X (.type "tuple") (fun xs H Q=>∃p ys,xs=[.ref p]/\((SqL X.K H p ys/\∀l,H l=none->Q (.ref l) (upd H l (.tup ys)))\/(SqT X.K H p ys/\Q (.ref p) H))):=by
 intro pins s σ H xs us Q I r h;obtain⟨p,ys,rfl,h⟩:=h;obtain⟨u,rfl,rx⟩:=vals1 r;cases rx;rcases h with⟨hq,q⟩ |⟨hq,q⟩
 ·obtain⟨its,r',pl,hz⟩:=I.list hq
  have hlen:=r'.length;refine call_tuple_list pl.isList (fun h' kp=>?_) (by simp only[av]<;>omega);have I1:Inv X pins σ H {s with heap:=h'}:=I.kept (t':=s.toks) kp;have I2:Inv X pins σ (upd H h'.objs.size (.tup ys)) {s with heap:=h'.push {cls:=.type "tuple",data:=.seq its.toArray}}:=
   I1.laid (t':=s.toks) (fun b o e=>ag _ e) (ax _) (show dR X.prog X.w _ _ _ (.tup ys)from⟨hz,its,r',IsTup.new _ _⟩)
  exact⟨.ref h'.objs.size,_,I2,rfl,q _ (I1.hok.fresh (ax _))⟩
 ·obtain⟨its,r',pl,hz⟩:=I.tuple hq
  exact call_tuple_same pl ⟨.ref p,H,I,rfl,q⟩
noncomputable def tyV(K:ae)(T:String)(x:V)(H:Hp):Prop:=match x with
 |.str _=>T="str"
 |.int _=>T="int"
 |.ref p=>(T="list"/\∃xs,SqL K H p xs)\/(T="tuple"/\∃o,K.lookup p=some o/\o.cls=.type "tuple"/\o.dict=none)\/
   (T="dict"/\((∃kvs,H p=some (.dK kvs))\/∃kvs,H p=some (.dT kvs)))\/(T="set"/\∃S n,H p=some (.set S n))
 |_=>False
theorem tyV_is{pins:List (Addr×Obj)}{σ:St}{H:Hp}{s:Shared}{T:String}{x:V}{v:Value}(I:Inv X pins σ H s)(r:RelV x v)(ty:tyV X.K T x H):
  s.TypeIs v T/\∀a,v=.ref a->∃ob,s.heap.get? a=some ob/\ob.dict=none:=by
 cases x with
 |str z=>
  obtain⟨t,rfl⟩:=r;cases(show T="str" from ty);exact⟨typeIs_str s z t,fun _ e=>nomatch e⟩
 |int i=>
  obtain⟨t,rfl⟩:=r;cases(show T="int" from ty);exact⟨typeIs_int s i t,fun _ e=>nomatch e⟩
 |ref p=>
  cases r;rcases ty with⟨rfl,xs,hq⟩ |⟨rfl,o,hk,hc,hd⟩ |⟨rfl,hk⟩ |⟨rfl,S,n,hk⟩
  ·obtain⟨its,_,pl,_⟩:=I.list hq
   refine⟨pl.isList.typeIs,fun a e=>?_⟩;cases e;obtain⟨o,n,e,c,hd,_⟩:=pl;exact⟨o,e,hd⟩
  ·refine⟨⟨o,I.kIn p o hk,hc⟩,fun a e=>?_⟩
   cases e;exact⟨o,I.kIn _ o hk,hd⟩
  ·have z:∃o,s.heap.get? p=some o/\o.ExactDict:=by
    rcases hk with⟨kvs,hk⟩ |⟨kvs,hk⟩
    ·obtain⟨_,_,_,_,o,_,_,e,ex,_⟩:=I.hok p _ hk
     exact⟨o,e,ex⟩
    ·obtain⟨_,_,_,_,o,_,_,e,ex,_⟩:=I.hok p _ hk
     exact⟨o,e,ex⟩
   obtain⟨o,e,ex⟩:=z;refine⟨⟨o,e,ex.1⟩,fun a e2=>?_⟩;cases e2;exact⟨o,e,ex.2.1⟩
  ·obtain⟨o,_,_,_,e,ex,_⟩:=I.hok p _ hk
   refine⟨⟨o,e,ex.1⟩,fun a e2=>?_⟩;cases e2;exact⟨o,e,ex.2.1⟩
 |_=>exact gz ty
noncomputable def tBM0(K:ae)(T:String)(r:V->List V->Hp->VK->Prop)(to:TE):TE:=fun σ H Q=>to σ H fun x H1=>tyV K T x H1/\r x [] H1 Q
noncomputable def tBM(K:ae)(T:String)(r:V->List V->Hp->VK->Prop)(to:TE)(t:TA):TE:=fun σ H Q=>to σ H fun x H1=>tyV K T x H1/\t σ H1 fun xs H2=>r x xs H2 Q
variable {o e:Expr}{es:List Expr}{to:TE}{t:TA}{name:Str}{apos cpos:Pos}{T id:String}{r:V->List V->Hp->VK->Prop}
theorem Fn(pa:PlainAttrs T)(slot:Slot T name id)(hty:typeOf (.builtin id)=pure (.type "method_descriptor"))(hm:MtR X id r)(ho:PE X o to)(ha:PA X (e::es) t)
  (hbase:iw o name X.env (eval o X.env)=eval o X.env:=by rfl)
  (hfew:((backTo cpos (bc (e::es) X.env)).all (fun x=> !x.1)&&(w8 cpos (lY [] X.env)).all (fun x=>x.1.isSome)
   &&decide ((e::es).length+([]:List Keyword).length+(if([]:List Keyword).isEmpty then 0 else 1)<30))=true:=by rfl)
  (hline:(apos.endLine==cpos.line)=true:=by rfl) (hs:bc (e::es) X.env=(false,eval e X.env)::bc es X.env:=by rfl) (hplain:(backTo cpos (bc es X.env)).any (·.1)=false:=by rfl):
  PE X (.Call (.Attribute o name apos) (e::es) [] cpos) (tBM X.K T r to t):=by
 intro pins s σ H Q I h;refine wpAny_Call_method_late hbase hfew hline rfl (thn (ho pins s σ H _ I h) fun v s1 ⟨x,H1,I1,r1,ty,q1⟩=>?_);obtain⟨h1,h2⟩:=tyV_is I1 r1 ty;refine⟨T,id,pa,slot,hty,h1,h2,?_⟩;have hA:=ha cpos pins s1 σ H1 _ I1 q1;rw[hs]at hA⊢;refine Calls.callWith_builtin (by show(false||(backTo cpos (bc es X.env)).any (·.1))=false;rw[hplain]<;>rfl) (Calls.evalArgs_plain ?_);exact thn hA fun us s2 ⟨vs,H2,I2,r2,q2⟩=>hm pins s2 σ H2 x vs v us Q I2 r1 r2 q2
end
noncomputable def MtM(X:Cx)(id:String)(r:V->List V->Hp->VK->Prop):Prop:=
 ∀(pins:List (Addr×Obj))(s:Shared)(σ:St)(H:Hp)(x:V)(xs:List V)(v:Value)(us:List Value)(Q:VK),Inv X pins σ H s->RelV x v->bL xs us->r x xs H Q->
  wpAny (model X.prog X.w) X.A (call (.builtin id) (v::us)) (EP X pins σ Q) X.xe s
theorem bL.one{x:V}{us:List Value}(h:bL [x] us):∃u,us=[u]/\RelV x u:=by
 cases h with
 |cons r k=>cases k with
  |nil=>exact⟨_,rfl,r⟩
theorem bL.two{x y:V}{us:List Value}(h:bL [x,y] us):∃u v,us=[u,v]/\RelV x u/\RelV y v:=by
 cases h with
 |cons r k=>
  obtain⟨v,e,q⟩:=bL.one k;exact⟨_,v,by rw[e],r,q⟩
theorem bL.reverse{xs:List V}{us:List Value}(h:bL xs us):bL xs.reverse us.reverse:=by
 induction h with
 |nil=>exact .nil
 |cons r t ih=>rw[List.reverse_cons,List.reverse_cons];exact bL.append ih (.cons r .nil)
theorem bL.rep{xs:List V}{us:List Value}(h:bL xs us):∀k:Nat,bL (aT k xs).flatten (aT k us).flatten
 | 0=>.nil
 |k+1=>by
  rw[dH,dH,iB,iB];exact bL.append h (bL.rep h k)
theorem foldl_rep(its:List Value):∀(k:Nat)(acc:List Value),
  List.foldl (fun x1 x2=>x1++x2) acc.toArray (aT k its.toArray)=(acc++(aT k its).flatten).toArray
 | 0,acc=>by simp
 |k+1,acc=>by
  have e:acc.toArray++its.toArray=(acc++its).toArray:=by simp
  have e2:(acc++its)++(aT k its).flatten=acc++(aT (k+1) its).flatten:=by
   rw[dH,iB,gp]
  rw[<-e2,<-foldl_rep its k (acc++its),<-e,dH,dJ]
section
variable {X:Cx}{pins:List (Addr×Obj)}{σ:St}{H:Hp}{s:Shared}{l b:Addr}{xs ys zs:List V}
theorem Inv.lset{its its':List Value}{n:Nat}{f:Array Value->Array Value}{t':Nat}(I:Inv X pins σ H s)(hH:H l=some (.lst xs))
  (e:s.heap.get? l=some {cls:=.type "list",data:=.seq its.toArray n}) (hf:f its.toArray=its'.toArray) (hv:bL ys its') (hz:ys.length<=sizeLine):
  Inv X pins σ (upd H l (.lst ys)) {s with heap:=s.heap.update l (aS f),toks:=t'}:=by
 have q:=DQ e f;rw[hf]at q;refine I.write (x:=l) (e:=l) (by rw[hH];exact trivial) (.inl rfl) (fun b' u hb hu=>(aE s.heap (aS f) (bZ hb)).trans hu) ⟨_,q⟩ ?_;exact⟨hz,its',_,hv,q⟩
theorem Inv.lnew{its:List Value}{t':Nat}(I:Inv X pins σ H s)(hv:bL ys its)(hz:ys.length<=sizeLine):
  Inv X pins σ (upd H s.heap.objs.size (.lst ys)) {s with heap:=s.heap.push {cls:=.type "list",data:=.seq its.toArray},toks:=t'}:=
 I.laid (fun _ _ q=>ag _ q) (ax _) ⟨hz,its,0,hv,au _ rfl⟩
theorem Inv.fresh(I:Inv X pins σ H s):H s.heap.objs.size=none:=I.hok.fresh (ax _)
theorem Inv.FN(I:Inv X pins σ H s)(hH:H l=some (.lst xs)):xs.length<=sizeLine/\∃(its:List Value)(n:Nat),bL xs its/\xs.length=its.length/\s.heap.get? l=some {cls:=.type "list",data:=.seq its.toArray n}:=by
 obtain⟨z,its,n,r,e⟩:=I.hok l _ hH;exact⟨z,its,n,r,r.length,e⟩
theorem Fw{n:Nat}(h:n<=sizeLine):jf n=false:=by
 unfold jf;exact decide_eq_false (by omega)
end
section
variable {X:Cx}
noncomputable def Ba:V->List V->Hp->VK->Prop:=fun x vs H Q=>∃l xs y,x=.ref l/\vs=[y]/\H l=some (.lst xs)/\xs.length<sizeLine/\Q .non (upd H l (.lst (xs++[y])))
theorem CV:MtM X "list.append" Ba:=by
 intro pins s σ H x vs v us Q I rx rv h;obtain⟨l,xs,y,rfl,rfl,hH,hz,q⟩:=h;cases rx;obtain⟨u,rfl,ru⟩:=rv.one;obtain⟨z,its,n,r,hl,e⟩:=I.FN hH;refine tQ F.slot_list_append ⟨_,e,rfl⟩ F.entry_list_append (F.args_list_append_2 _ _) (PySem.list_append l its.toArray n u (by rw[av];omega)) ⟨e,?_⟩;refine⟨.non,_,I.lset (its':=its++[u]) hH e (by simp) (r.append (.cons ru .nil)) ?_,rfl,q⟩;rw[cu,mO];omega
noncomputable def rPop:V->List V->Hp->VK->Prop:=fun x vs H Q=>∃l xs y,x=.ref l/\vs=[]/\H l=some (.lst xs)/\xs[xs.length-1]? =some y/\Q y (upd H l (.lst xs.dropLast))
noncomputable def rPopAt:V->List V->Hp->VK->Prop:=fun x vs H Q=>∃l xs i k y,x=.ref l/\vs=[.int i]/\H l=some (.lst xs)∧-(2^63)<=i/\i<2^63/\seqIndex? i xs.length=some k/\xs[k]? =some y/\Q y (upd H l (.lst (xs.eraseIdx k)))
noncomputable def rReverse:V->List V->Hp->VK->Prop:=fun x vs H Q=>∃l xs,x=.ref l/\vs=[]/\H l=some (.lst xs)/\Q .non (upd H l (.lst xs.reverse))
noncomputable def rClear:V->List V->Hp->VK->Prop:=fun x vs H Q=>∃l xs,x=.ref l/\vs=[]/\H l=some (.lst xs)/\Q .non (upd H l (.lst []))
noncomputable def rCat:R2:=fun x y H Q=>∃l b xs zs,x=.ref l/\y=.ref b/\H l=some (.lst xs)/\H b=some (.lst zs)/\xs.length+zs.length<=sizeLine/\∀p,H p=none->Q (.ref p) (upd H p (.lst (xs++zs)))
theorem op_cat:OpR X (d4 .Add) rCat:=by
 intro pins s σ H x y v u Q I rx ry h;obtain⟨l,b,xs,zs,rfl,rfl,hH,hB,hz,q⟩:=h;cases rx;cases ry;obtain⟨z,its,n,r,hl,e⟩:=I.FN hH;obtain⟨z2,its2,n2,r2,hl2,e2⟩:=I.FN hB;refine PySem.P.add_list e e2 ?_ (by rw[av,av];omega);have ea:its.toArray++its2.toArray=(its++its2).toArray:=by simp
 rw[ea];exact⟨.ref _,_,I.lnew (t':=s.toks) (r.append r2) (by rw[cu];omega),rfl,q _ I.fresh⟩
noncomputable def rRep:R2:=fun x y H Q=>∃l k xs,x=.ref l/\y=.int k/\H l=some (.lst xs)∧-(2^63)<=k/\k<2^63/\xs.length*k.toNat<=sizeLine/\
 ∀p,H p=none->Q (.ref p) (upd H p (.lst (aT k.toNat xs).flatten))
theorem len_rep{α:Type}(xs:List α)(k:Nat):(aT k xs).flatten.length=k*xs.length:=by
 induction k with
 |zero=>simp
 |succ k ih=>rw[dH,iB,cu,ih,Nat.succ_mul,Nat.add_comm]
theorem op_rep:OpR X (d4 .Mult) rRep:=by
 intro pins s σ H x y v u Q I rx ry h;obtain⟨l,k,xs,rfl,rfl,hH,h1,h2,hz,q⟩:=h;cases rx;obtain⟨t,rfl⟩:=ry;obtain⟨z,its,n,r,hl,e⟩:=I.FN hH;have hlen:its.toArray.size*k.toNat<=sizeLine:=by rw[av,<-hl];exact hz
 have hcap:¬its.toArray.size*k.toNat>(2^63-1)/8:=by
  have :(sizeLine:Nat)<=(2^63-1)/8:=by decide
  omega
 have hfit:¬(!iQ k)=true:=by
  rw[fitsIndex_both h1 h2];exact aC
 have hlong:¬jf (its.toArray.size*k.toNat)=true:=by
  rw[Fw hlen];exact aC
 have hnew:List.foldl (fun x1 x2=>x1++x2) #[] (aT (if its.toArray.isEmpty=true then 0 else k.toNat) its.toArray)=(aT k.toNat its).flatten.toArray:=by
  have f0:∀m:Nat,List.foldl (fun x1 x2=>x1++x2) #[] (aT m its.toArray)=(aT m its).flatten.toArray:=fun m=>by
   have :=foldl_rep its m []
   rw[mh]at this;exact this
  rw[f0];cases its with
  |nil=>simp
  |cons a r'=>rw[if_neg (by simp)]
 refine wpAny_binaryOp_repeat_ref (T:="list") (U:="int") (by decide) ⟨_,e,rfl⟩ (fun s'=>typeIs_int s' k t) noFill_list_mul F.fills_int_mul F.slot_int_rmul repeat_list F.slot_int_index.lookup
  (tQ F.slot_int_rmul (typeIs_int s k t) F.entry_int_rmul (F.args_int_rmul_2 _ _) (int___rmul___int_list k t l its.toArray n)
   ⟨e,rfl,⟨_,e,rfl⟩,tQ F.slot_list_mul ⟨_,e,rfl⟩ F.entry_list_mul (F.args_list_mul_2 _ _) (AutoListH.list___mul___list_int_3 l its.toArray n k t hfit hcap hlong) ⟨e,?_⟩⟩)
 rw[hnew];exact⟨.ref _,_,I.lnew (t':=s.toks) (r.rep k.toNat) (by rw[len_rep,Nat.mul_comm];exact hz),rfl,q _ I.fresh⟩
end
section
variable {κ:Type}[DecidableEq κ]
noncomputable def eh(kvs:List (κ×V))(k:κ):Option V:=(kvs.find? fun kv=>decide (kv.1=k)).map (·.2)
noncomputable def putK(kvs:List (κ×V))(k:κ)(v:V):List (κ×V):=
 if(kvs.any fun kv=>decide (kv.1=k))=true then kvs.map (fun kv=>if kv.1=k then(kv.1,v)else kv)else kvs++[(k,v)]
theorem gC{p:κ×V}{r:List (κ×V)}{k:κ}(e:p.1=k):eh (p::r) k=some p.2:=by simp[eh,hU,e]
theorem gE{p:κ×V}{r:List (κ×V)}{k:κ}(e:¬p.1=k):eh (p::r) k=eh r k:=by simp[eh,hU,e]
theorem i7(k:κ):∀kvs:List (κ×V),(kvs.any fun kv=>decide (kv.1=k))=(eh kvs k).isSome
 | []=>rfl
 |p::r=>by
  rw[zv];by_cases e:p.1=k
  ·simp only[gC e,decide_eq_true e,Bool.true_or,gV]
  ·rw[gE e,decide_eq_false e,Bool.false_or];exact i7 k r
theorem xv(k j:κ)(y:V):∀kvs:List (κ×V),eh (kvs.map fun kv=>if kv.1=k then(kv.1,y)else kv) j=(eh kvs j).map fun x=>if j=k then y else x
 | []=>rfl
 |p::r=>by
  have ih:=xv k j y r;rw[bK];by_cases h:p.1=k
  ·rw[if_pos h]
   by_cases e:p.1=j
   ·rw[gC (p:=(p.1,y)) e,gC e,i5,if_pos (e.symm.trans h)]
   ·rw[gE (p:=(p.1,y)) e,gE e,ih]
  ·rw[if_neg h]
   by_cases e:p.1=j
   ·rw[gC (p:=p) e,gC e,i5,if_neg (fun z=>h (e.trans z))]
   ·rw[gE (p:=p) e,gE e,ih]
theorem tV(k j:κ)(y:V):∀kvs:List (κ×V),eh kvs k=none->eh (kvs++[(k,y)]) j=if j=k then some y else eh kvs j
 | [],_=>by
  by_cases e:k=j
  ·rw[if_pos e.symm];exact gC (p:=(k,y)) e
  ·rw[if_neg (fun z=>e z.symm)];exact gE (p:=(k,y)) e
 |p::r,hn=>by
  rw[la];have hk:¬p.1=k:=fun z=>by rw[gC z]at hn;cases hn
  rw[gE hk]at hn;have ih:=tV k j y r hn;by_cases e:p.1=j
  ·rw[gC e,gC e,if_neg (fun z=>hk (e.trans z))]
  ·rw[gE e,gE e,ih]
theorem Ee(kvs:List (κ×V))(k j:κ)(y:V):eh (putK kvs k y) j=if j=k then some y else eh kvs j:=by
 unfold putK;by_cases a:(kvs.any fun kv=>decide (kv.1=k))=true
 ·rw[if_pos a,xv]
  rw[i7]at a;by_cases e:j=k
  ·obtain⟨x,hx⟩:=eP.mp a
   rw[if_pos e,e,hx,i5,if_pos rfl]
  ·rw[if_neg e]
   cases eh kvs j with
   |none=>rfl
   |some x=>rw[i5,if_neg e]
 ·rw[if_neg a]
  refine tV k j y kvs ?_;rw[i7]at a;cases q:eh kvs k with
  |none=>rfl
  |some x=>rw[q]at a;exact(a rfl).elim
theorem pQ(kvs:List (κ×V))(k:κ)(v:V):(putK kvs k v).length<=kvs.length+1:=by
 unfold putK;split
 ·rw[ao];omega
 ·rw[cu,ba,mi];omega
theorem E2{kvs:List (κ×V)}{k:κ}(v:V)(h:eh kvs k=none):putK kvs k v=kvs++[(k,v)]:=by
 unfold putK;rw[i7,h];exact if_neg (by decide)
theorem md.C6{o:Option V}{u:Option Value}(r:md o u):o.isSome=u.isSome:=by
 cases o with
 |none=>cases u with
  |none=>rfl
  |some _=>exact(show False from r).elim
 |some _=>cases u with
  |none=>exact(show False from r).elim
  |some _=>rfl
end
theorem FW{P:Program}{w:World}{k:Key}{u:Value}(r:RelV (kV k) u):(cy P w).is k u=true:=by
 cases k with
 |inl i=>obtain⟨t,e⟩:=(show ∃t,u=fR i t from r);subst e;exact ly P w i t
 |inr x=>obtain⟨t,e⟩:=(show ∃t,u=gH x t from r);subst e;exact yh P w x t
theorem pb{P:Program}{w:World}:∀{ks:List Key}{us:List Value},bL (ks.map kV) us->ItemsAre (cy P w) ks us
 | [],_,r=>by rw[l8]at r;cases r;exact .nil
 |k::ks,_,r=>by
  rw[bK]at r;cases r with
  |cons h t=>exact .cons (FW h) (pb t)
noncomputable abbrev KT(H:Hp):List (List Key×V)->List (List Key×Addr×Value)->Prop:=Paired fun p q=>p.1=q.1/\H q.2.1=some (.tup (p.1.map kV))/\RelV p.2 q.2.2
theorem KT.val{H:Hp}{kvs:List (List Key×V)}{xs:List (List Key×Addr×Value)}(r:KT H kvs xs)(k:List Key):md (eh kvs k) ((atKey xs k).map (·.2)):=by
 induction r with
 |nil=>exact True.intro
 | @cons p q ps qs h t ih=>
  obtain⟨h1,_,h2⟩:=h;by_cases e:p.1=k
  ·have e':q.1=k:=h1.symm.trans e
   have b:atKey (q::qs) k=some q.2:=by simp[atKey,hU,e']
   rw[gC e,b];exact h2
  ·have e':¬q.1=k:=fun z=>e (h1.trans z)
   have b:atKey (q::qs) k=atKey qs k:=by simp[atKey,hU,e']
   rw[gE e,b];exact ih
theorem KT.repl{H:Hp}{kvs:List (List Key×V)}{xs:List (List Key×Addr×Value)}(r:KT H kvs xs)(k:List Key){y:V}{u:Value}(ry:RelV y u):
  KT H (kvs.map fun kv=>if kv.1=k then(kv.1,y)else kv) (xs.map (putAt k u)):=by
 induction r with
 |nil=>exact .nil
 | @cons p q ps qs h t ih=>
  rw[bK,bK];refine .cons ?_ ih;obtain⟨h1,h2,h3⟩:=h;unfold putAt;by_cases e:p.1=k
  ·rw[if_pos e,if_pos (h1.symm.trans e)];exact⟨h1,h2,ry⟩
  ·rw[if_neg e,if_neg (fun z=>e (h1.trans z))];exact⟨h1,h2,h3⟩
theorem KT.put{H:Hp}{kvs:List (List Key×V)}{xs:List (List Key×Addr×Value)}(r:KT H kvs xs)(k:List Key){b:Addr}{y:V}{u:Value}(hb:H b=some (.tup (k.map kV)))(ry:RelV y u):
  KT H (putK kvs k y) (storedH xs k b u):=by
 have e:(kvs.any fun kv=>decide (kv.1=k))=(atKey xs k).isSome:=by
  rw[i7,(r.val k).C6,Option.isSome_map]
 unfold putK storedH;rw[e];by_cases q:(atKey xs k).isSome=true
 ·rw[if_pos q,if_pos q];exact r.repl k ry
 ·rw[if_neg q,if_neg q];exact Paired.snoc r ⟨rfl,hb,ry⟩
theorem KT.keeps{H H':Hp}{kvs:List (List Key×V)}{xs:List (List Key×Addr×Value)}(r:KT H kvs xs)(ht:∀b ys,H b=some (.tup ys)->H' b=some (.tup ys)):KT H' kvs xs:=
 Paired.qg r fun _ _ z=>⟨z.1,ht _ _ z.2.1,z.2.2⟩
section
variable {P:Program}{w:World}{H:Hp}{h:Heap}{a:Addr}
theorem rd_of{u:HO}(ok:HOk P w H h)(e:Rd H a u):dR P w H h a u:=e.ok ok
theorem FV{ks:List Key}(ok:HOk P w H h)(e:H a=some (.tup (ks.map kV))):(nh (cy P w)).is h ks a:=by
 obtain⟨_,its,r,o,h1,h2,n,h3⟩:=(show dR P w H h a (.tup (ks.map kV))from ok a _ e);exact⟨o,its.toArray,n,h1,h2,h3,by simpa using pb r⟩
theorem dt_rd{kvs:List (List Key×V)}(ok:HOk P w H h)(e:Rd H a (.dT kvs)):kvs.length<=sizeLine/\(a==gb)=false/\
  ∃xs,KT H kvs xs/\h.DictOfH (nh (cy P w)) a xs:=by
 obtain⟨z,y,xs,r,o,es,ep,h1,h2,h3,h4,h5⟩:=(show dR P w H h a (.dT kvs)from rd_of ok e);refine⟨z,y,xs,r,o,es,ep,h1,h2,h3,h4,fun x hx=>?_,h5⟩;have all:∀{l:List (List Key×V)}{m:List (List Key×Addr×Value)},KT H l m->∀x∈m,(nh (cy P w)).is h x.1 x.2.1:=by
  intro l m q
  induction q with
  |nil=>intro x hx;exact nomatch hx
  | @cons p q ps qs hq t ih=>
   intro x hx;rcases ay.mp hx with e|hx
   ·subst e
    exact FV ok (by rw[<-hq.1];exact hq.2.1)
   ·exact ih x hx
 exact all r x hx
theorem Gy{kvs:List (List Key×V)}(ok:HOk P w H h)(e:H a=some (.dT kvs)):kvs.length<=sizeLine/\(a==gb)=false/\
  ∃xs,KT H kvs xs/\h.DictOfH (nh (cy P w)) a xs:=dt_rd ok (.inl e)
end
section
variable {X:Cx}{pins:List (Addr×Obj)}{σ:St}{H:Hp}{s:Shared}{a:Addr}{y v:V}{u r:Value}{o:Option V}{A:Around}{E:Value->Shared->Prop}
theorem Inv.big(I:Inv X pins σ H s):gb<s.heap.objs.size:=by
 have h:bq<s.heap.objs.size:=(I.mod.glob.keeps I.bk).lt;exact fP (by decide) h
theorem d_write{h':Heap}{t':Nat}{ob:HO}(I:Inv X pins σ H s)(mu:Mut (H a))(hs:cY a s.heap h')(he:∃q,h'.get? a=some q)(new:dR X.prog X.w (upd H a ob) h' a ob):
  Inv X pins σ (upd H a ob) {s with heap:=h',toks:=t'}:=
 I.write (x:=a) (e:=a) mu (.inl rfl) (fun b q hb z=>(hs.2 b hb).trans z) he new
end
theorem Gz{P:Program}{w:World}{H:Hp}(h:Heap)(hb:gb<h.objs.size):dR P w H (h.push {cls:=.type "dict",data:=.dict #[]}) h.objs.size (.dT []):=
 ⟨bf _,beq_eq_false_iff_ne.mpr (bZ (aB hb)),[],.nil,_,#[],0,au _ rfl,⟨rfl,rfl,rfl⟩,rfl,rfl,iA⟩
noncomputable def tDNewK:TE:=fun _ H Q=>∀p,H p=none->Q (.ref p) (upd H p (.dK []))
noncomputable def Er:TE:=fun _ H Q=>∀p,H p=none->Q (.ref p) (upd H p (.dT []))
section
variable {X:Cx}{pos:Pos}
theorem Fk:PE X (.Dict [] [] pos) Er:=fun pins s σ H Q I h=>
 wpAny_Dict_empty ⟨.ref s.heap.objs.size,_,I.laid (a:=s.heap.objs.size) (o:=.dT []) (t':=s.toks) (fun _ _ q=>ag _ q) (ax _) (Gz s.heap I.big),rfl,h _ (I.hok.fresh (ax _))⟩
end
noncomputable def zI:List (TE×TE)->St->Hp->(List (V×V)->Hp->Prop)->Prop
 | [],_,H,Q=>Q [] H
 | (tk,tv)::r,σ,H,Q=>tk σ H fun x H1=>tv σ H1 fun y H2=>zI r σ H2 fun ps H3=>Q ((x,y)::ps) H3
noncomputable abbrev VV:List (V×V)->List (Value×Value)->Prop:=Paired fun p q=>RelV p.1 q.1/\RelV p.2 q.2
noncomputable def PPs(X:Cx)(pos:Pos)(keys:List (Option Expr))(values:List Expr)(trs:List (TE×TE)):Prop:=
 ∀(pins:List (Addr×Obj))(s:Shared)(σ:St)(H:Hp)(Q:List (V×V)->Hp->Prop),Inv X pins σ H s->zI trs σ H Q->
  wpAny (model X.prog X.w) X.A (evalPairs (pairTrees keys values X.env pos)) (fun vs s'=>∃ps H',Inv X pins σ H' s'/\VV ps vs/\Q ps H') X.xe s
theorem pps_nil{X:Cx}{pos:Pos}:PPs X pos [] [] []:=fun pins s σ H Q I h=>pairTrees_nil_walk ⟨[],H,I,.nil,h⟩
theorem E8{X:Cx}{pos:Pos}{k v:Expr}{ks:List (Option Expr)}{vs:List Expr}{tk tv:TE}{trs:List (TE×TE)}(hk:PE X k tk)(hv:PE X v tv)(hr:PPs X pos ks vs trs):
  PPs X pos (some k::ks) (v::vs) ((tk,tv)::trs):=fun pins s σ H Q I h=>
 pairTrees_cons_walk (thn (hk pins s σ H _ I h) fun u s1 ⟨x,H1,I1,rx,q1⟩=>thn (hv pins s1 σ H1 _ I1 q1) fun w2 s2 ⟨y,H2,I2,ry,q2⟩=>
  thn (hr pins s2 σ H2 _ I2 q2) fun ws s3 ⟨ps,H3,I3,rel,q3⟩=>⟨(x,y)::ps,H3,I3,.cons ⟨rx,ry⟩ rel,q3⟩)
noncomputable def mergeK(kvs more:List (Key×V)):List (Key×V):=more.foldl (fun acc kv=>putK acc kv.1 kv.2) kvs
noncomputable def tDisp(trs:List (TE×TE)):TE:=fun σ H Q=>∀p,H p=none->zI trs σ (upd H p (.dK [])) fun ps H2=>H2 p=some (.dK [])/\∃kvs:List (Key×V),ps=kvs.map (fun kv=>(kV kv.1,kv.2))/\kvs.length<=15/\Q (.ref p) (upd H2 p (.dK (mergeK [] kvs)))
end L2
namespace Att
open PySem PySem.W PySem.Calls PyProof.Rows
theorem qh{P:Params}{h:Heap}:∀(ns:List Int)(vs:List Value),WellAll P h vs (ns.map WData.int)->cb vs ns:=by
 intro ns
 induction ns with
 |nil=>
  intro vs w;rw[l8]at w;cases w;exact .nil
 |cons n ns ih=>
  intro vs w;rw[bK]at w;cases w with
  |cons a b=>
   cases a;exact .cons _ _ (ih _ b)
theorem Ck{l:OpenLaw}{n:Nat}(hn:l.most=some n){P:Params}{h:Heap}{args:List WData}{vals:List Value}
  (hpre:l.row.toRowW.claim.pre args=true)(hwl:WellAll P h vals args):
  ∃a vs ns,vals=[bz a]/\args=[WData.list (ns.map WData.int)]/\h.get? a=some {cls:=.type "list",data:=.seq vs.toArray}/\cb vs ns/\ns.length<=n:=by
 have hsh:WShape.hasAll [] args [.list .int]=true:=(pre_splitW hpre).1;have hc:l.pre.holds [] {args:=args}=true:=(pre_splitW hpre).2;obtain⟨d,r,rfl,h1,h2⟩:=hasAllW_cons hsh;obtain rfl:=hasAllW_nil h2;obtain⟨xs,rfl,h3⟩:=hasW_list h1;obtain⟨ns,rfl⟩:=items_int h3;have hlen:ns.length<=n:=by
  unfold OpenLaw.pre at hc;have h4:(WTm.not (.lt (.lit (.int (n:Int))) (.len (.arg 0)))).holds [] {args:=[.list (ns.map .int)]}=true:=by
   have h4:=(holds_andW hc).1;rw[hn]at h4;exact h4
  have h5:=condW_of h4 (w_not (w_lt w_lit (w_len_list (w_arg rfl))));rw[ao]at h5;refine gN fun q=>?_;have q':(n:Int)<((ns.length:Nat):Int):=by omega
  first
   | (rw[decide_eq_true q']at h5;exact absurd h5 (by decide))
   | (simp at h5;omega)
 cases hwl with
 |cons w1 w2=>
  cases w2;cases w1 with
  |list ho hall=>exact⟨_,_,ns,rfl,rfl,ho,qh ns _ hall,hlen⟩
theorem Cr(l:OpenLaw)(args:List WData):l.row.toRowW.claim.post args (.bool true) args=true:=
 postW_of (r:=l.row.toRowW) (X:=(true==true))
  (show WShape.has [] (.bool true) .bool=true by first |rfl|decide|simp[WShape.has,WShape.arms,WShape.armsAll])
  (show(WTm.eq .res (.lit (.bool true))).value [] {args:=args,res:=some (.bool true),after:=args}=some (.bool (true==true))from w_eq_bool (w_res rfl) w_lit) rfl
theorem yY{l:OpenLaw}{n:Nat}{q:Program}{loose:List Str}{XP:(Str->Option Value)->Heap->Prop}{YP:World->Heap->Prop}{d:DefRec}
  (hn:l.most=some n)(hdf:d.params.defaults=[])
  (call:∀(w:World)(s₀ s₁:Shared)(mg mb:Str->Option Value)(fa:Addr)(o:Obj)(pm cd doc:Value)(a:Addr)(vs:List Value)(ns:List Int),
   Ground q loose [] XP w s₀ mg mb s₁.heap->YP w s₁.heap->
   s₁.heap.get? fa=some o->o.data=.func (docDef d.name d.params d.body d.scope pm cd doc)->s₁.heap.CodeRec cd d.name->mg d.name=some (.ref fa)->
   s₁.heap.get? a=some {cls:=.type "list",data:=.seq vs.toArray}->cb vs ns->ns.length<=n->s₁.gens= #[]->
   fo (model l.prog w) BW (.call (.ref fa) ⟨[.ref a],[]⟩) (fun r s'=>r=.ok (.ret (.bool true))/\OldK s₁.heap s'.heap/\s'.os=s₁.os/\l9 s'.gens) s₁):
  WalkO q loose XP YP l.row.toRowW d [] (fun f vs=>PySem.call f vs):=by
 intro w s₀ s₁ mg mb G Y fa o pm cd doc dV kV ho hd hcd hD hmg hg args vals as hpre hlay hrd hwl hlo;obtain rfl:dV=.none:=Dflts.none hD hdf;obtain rfl:kV=.none:=Dflts.noKw hD;obtain⟨a,vs,ns,rfl,rfl,hobj,hints,hlen⟩:=Ck hn hpre hwl;refine enter_call (iY (call w s₀ s₁ mg mb fa o pm cd doc a vs ns G Y ho (fd_plain hd) hcd hmg hobj hints hlen hg) fun r s' hq=>?_);obtain⟨rfl,h2,h3,h4⟩:=hq;exact⟨.inl ⟨.bool true,.bool true,[],rfl,fun _=>rfl,.bool true,Cr l _,fun _=>⟨mn,fun _ hm=>(nomatch hm)⟩⟩,h2,h3,h4⟩
end Att
namespace L2
open PySem PySem.Spec PyProof.Rows
theorem oQ:∀{vs:List Value}{ns:List Int},cb vs ns->bL (ns.map V.int) vs
 |_,_,.nil=>.nil
 |_,_,.cons n t h=>.cons ⟨t,rfl⟩ (oQ h)
noncomputable abbrev KOf{K:ae}{h:Heap}(_:K.In h):ae:=K
noncomputable def bp(s:Stmt):Arguments:=match s with
 |.FunctionDef _ a _ _ _ _ _ _ _ _=>a
 |_=>{posonlyargs:=[],args:=[],vararg:=none,kwonlyargs:=[],kw_defaults:=[],kwarg:=none,defaults:=[]}
noncomputable def aU(s:Stmt):List Stmt:=match s with
 |.FunctionDef _ _ b _ _ _ _ _ _ _=>b
 |_=>[]
noncomputable def aH(s:Stmt):Scope:=match s with
 |.FunctionDef _ _ _ _ _ _ sc _ _ _=>sc
 |_=>{kind:=.function,names:=[],isGenerator:=false,isCoroutine:=false}
noncomputable abbrev CX0:CXT:=fun _ _ _ _ _ _=>False
noncomputable abbrev E0:XK:=fun _ _ _=>False
structure Fun(K:ae)(x qual:Str)(st:Stmt)(f:Addr)(fd:eN):Prop where
 ex:∃(oc:Value)(od:Option Addr)(kV doc pm:Value)(an:Option Addr)(cdv ct:Value)(osl:Array (Option Value)),
  fd=aD x qual (bp st) (aU st) (aH st) .none kV doc pm an cdv ct/\K.lookup f=some ⟨oc,od,.func fd,osl⟩/\di K cdv qual=true
 kp:bH K (.ref f)=true
section
variable {P:Program}{w:World}{K:ae}{mg:Str->Option Value}{base:Heap}
theorem Fun.binds{x qual:Str}{st:Stmt}{f:Addr}{fd:eN}{ps:List Str}(F:Fun K x qual st f fd)
  (h:∀(kV doc pm:Value)(an:Option Addr)(cdv ct:Value)(us:List Value),us.length=ps.length->iZ (aD x qual (bp st) (aU st) (aH st) .none kV doc pm an cdv ct) ⟨us,[]⟩=pure (ps.zip us)):Binds K fd ps []:=by
 obtain⟨oc,od,kV,doc,pm,an,cdv,ct,osl,rfl,lk,hcd⟩:=F.ex;exact .all (h kV doc pm an cdv ct)
theorem pj{x qual:Str}{st:Stmt}{f:Addr}{oc:Value}{od an:Option Addr}{osl:Array (Option Value)}{kV doc pm cdv ct:Value}(l:K.lookup f=some ⟨oc,od,.func (aD x qual (bp st) (aU st) (aH st) .none kV doc pm an cdv ct),osl⟩)
  (c:di K cdv qual=true)(k:bH K (.ref f)=true):Fun K x qual st f (aD x qual (bp st) (aU st) (aH st) .none kV doc pm an cdv ct):=⟨⟨oc,od,kV,doc,pm,an,cdv,ct,osl,rfl,l,c⟩,k⟩
end
noncomputable def aP(H H':Hp):Prop:=∀b o,H b=some o->H' b=some o
theorem aP.refl(H:Hp):aP H H:=fun _ _ h=>h
theorem aP.trans{H H1 H2:Hp}(a:aP H H1)(b:aP H1 H2):aP H H2:=fun c o h=>b c o (a c o h)
theorem aP.free{H H':Hp}(e:aP H H'){l:Addr}(h:H' l=Option.none):H l=Option.none:=by
 cases q:H l with
 |none=>rfl
 |some o=>
  rw[e l o q]at h;cases h
theorem aP.seq{K:ae}{H H':Hp}{a:Addr}{xs:List V}(e:aP H H')(h:SqL K H a xs):SqL K H' a xs:=by
 rcases h with(h|⟨o,h⟩) |h
 ·exact .inl (.inl (e _ _ h))
 ·exact .inl (.inr ⟨o,e _ _ h⟩)
 ·exact .inr h
section
variable {κ:Type}[DecidableEq κ]
theorem xu{kvs:List (κ×V)}{k:κ}(h:eh kvs k=none):¬k∈kvs.map (·.1):=by
 intro m;obtain⟨p,hp,e⟩:=aO.mp m;have q:(kvs.any fun kv=>decide (kv.1=k))=true:=bP.mpr ⟨p,hp,decide_eq_true e⟩;rw[i7,h]at q;exact absurd q (by simp)
theorem valV_in{kvs:List (κ×V)}{k:κ}{v:V}(h:eh kvs k=some v):k∈kvs.map (·.1):=by
 have q:(kvs.any fun kv=>decide (kv.1=k))=true:=by
  rw[i7,h];all_goals rfl
 obtain⟨p,hp,e⟩:=bP.mp q;exact aO.mpr ⟨p,hp,of_decide_eq_true e⟩
theorem Bl:∀{l:List κ}{k:κ},l.Nodup->¬k∈l->(l++[k]).Nodup
 | [],k,_,_=>by simp
 |a::r,k,h,hk=>by
  obtain⟨h1,h2⟩:=cA.mp h;show(a::(r++[k])).Nodup;refine cA.mpr ⟨fun m=>?_,Bl h2 fun m=>hk (ay.mpr (Or.inr m))⟩;rcases cj.mp m with q|q
  ·exact h1 q
  ·exact hk (ay.mpr (Or.inl (aL.mp q).symm))
theorem nd_putK{kvs:List (κ×V)}{k:κ}(v:V)(hn:(kvs.map (·.1)).Nodup)(h:eh kvs k=none):((putK kvs k v).map (·.1)).Nodup:=by
 rw[E2 v h,du];exact Bl hn (xu h)
end
noncomputable def fh(cells:List (Str×Addr)):List (Str×d7)->List (Str×Addr)->List (Str×Addr)
 | [],acc=>acc
 | (n,k)::r,acc=>fh cells r (if k=.free then(n,(cells.lookup n).getD 0)::acc else acc)
theorem m3{env:Env}{f:Str×d7->List (Str×Addr)->Sem (ForInStep (List (Str×Addr)))}
  (hf:∀n k a c,k=.free->env.cells.lookup n=some c->f (n,k) a=pure (.yield ((n,c)::a)))(hg:∀n k a,k≠.free->f (n,k) a=pure (.yield a)):
  ∀(names:List (Str×d7))(acc:List (Str×Addr)),(∀y∈names,y.2=.free->∃c,env.cells.lookup y.1=some c)->forIn names acc f=(pure (fh env.cells names acc):Sem _)
 | [],acc,_=>rfl
 | (n,k)::r,acc,h=>by
  rw[mj];by_cases e:k=.free
  ·obtain⟨c,hc⟩:=h (n,k) aG e
   rw[hf n k acc c e hc];show forIn r ((n,c)::acc) f=_;rw[m3 hf hg r _ fun y hy=>h y (aM _ hy)];simp[fh,e,hc]
  ·rw[hg n k acc e]
   show forIn r acc f=_;rw[m3 hf hg r _ fun y hy=>h y (aM _ hy)];simp[fh,e]
theorem tK{scope:Scope}{env:Env}(h:∀y∈scope.names,y.2=.free->∃c,env.cells.lookup y.1=some c):DN scope env=pure (fh env.cells scope.names []):=by
 have q:=m3 (env:=env) (f:=fun x cs=>match x with | (name,kind)=>if(kind==b7)=true then(do let a<-cellOf env name;pure (gJ ((name,a)::cs)))else pure (gJ cs))
  (fun n k a c e hc=>by
   subst e;simp only[cellOf,hc];rfl) (fun n k a e=>by
   have e':(k==b7)=false:=by simpa using e
   simp only[e',aJ,if_false]) scope.names [] h
 unfold DN;show(forIn scope.names [] _>>=fun r=>pure r)=_;exact(congrArg (·>>=fun r=>pure r) q).trans rfl
theorem jG{cells:List (Str×Addr)}:∀(names:List (Str×d7))(acc:List (Str×Addr))(x:Str)(c:Addr),(fh cells names acc).lookup x=some c->
  ((x,b7)∈names/\c=(cells.lookup x).getD 0)\/acc.lookup x=some c
 | [],acc,x,c,h=>.inr h
 | (n,k)::r,acc,x,c,h=>by
  rcases jG r _ x c h with⟨q,e⟩ |q
  ·exact .inl ⟨aM _ q,e⟩
  ·by_cases e:k=.free
   ·rw[if_pos e,aW]at q
    cases hx:x==n with
    |true=>
     rw[hx]at q;have en:x=n:=by simpa using hx
     subst en;subst e;exact .inl ⟨aG,(aV q).symm⟩
    |false=>
     rw[hx]at q;exact .inr q
   ·rw[if_neg e]at q
    exact .inr q
theorem rY{cells:List (Str×Addr)}:∀(names:List (Str×d7))(acc:List (Str×Addr))(x:Str),(acc.lookup x).isSome=true->((fh cells names acc).lookup x).isSome=true
 | [],acc,x,h=>h
 | (n,k)::r,acc,x,h=>by
  refine rY r _ x ?_;split
  ·rw[aW]
   cases x==n<;>simp_all
  ·exact h
theorem m4{cells:List (Str×Addr)}:∀(names:List (Str×d7))(acc:List (Str×Addr))(x:Str),(x,b7)∈names->((fh cells names acc).lookup x).isSome=true
 | [],acc,x,h=>by simp at h
 | (n,k)::r,acc,x,h=>by
  rcases ay.mp h with q|q
  ·cases q
   refine rY r _ n ?_;simp[aW]
  ·exact m4 r _ x q
theorem fF:∀(names:List (Str×d7))(n:Nat)(acc:List (Str×Addr)),cD n names acc=cD n names []++acc
 | [],_,_=>rfl
 | (x,k)::r,n,acc=>by
  unfold cD;split
  ·rw[fF r (n+1) ((x,n)::acc),fF r (n+1) [(x,n)],gp]
   rfl
  ·exact fF r n acc
theorem jI:∀(names:List (Str×d7))(n:Nat)(acc:List (Str×Addr))(x:Str),(acc.lookup x).isSome=true->((cD n names acc).lookup x).isSome=true
 | [],_,_,_,h=>h
 | (y,k)::r,n,acc,x,h=>by
  unfold cD;split
  ·refine jI r _ _ x ?_
   rw[aW];cases x==y<;>simp_all
  ·exact jI r _ _ x h
theorem iy:∀(names:List (Str×d7))(n:Nat)(acc:List (Str×Addr))(x:Str),(x,cO)∈names->((cD n names acc).lookup x).isSome=true
 | [],_,_,_,h=>nomatch h
 | (y,k)::r,n,acc,x,h=>by
  unfold cD;rcases ay.mp h with q|q
  ·cases q
   rw[if_pos (by rfl)];refine jI r _ _ _ ?_;simp[aW]
  ·split
   ·exact iy r _ _ x q
   ·exact iy r _ _ x q
theorem jH:∀(names:List (Str×d7))(n:Nat)(acc:List (Str×Addr))(x:Str)(c:Addr),(x,c)∈cD n names acc->(x,cO)∈names\/(x,c)∈acc
 | [],_,_,_,_,h=>.inr h
 | (y,k)::r,n,acc,x,c,h=>by
  unfold cD at h;split at h
  ·rename_i hk
   rcases jH r _ _ x c h with q|q
   ·exact .inl (aM _ q)
   ·rcases ay.mp q with e|e
    ·cases e
     have :k=.cell:=by simpa using hk
     subst this;exact .inl aG
    ·exact .inr e
  ·rcases jH r _ _ x c h with q|q
   ·exact .inl (aM _ q)
   ·exact .inr q
theorem AD{M:Model}{A:Around}{E:Value->Shared->Prop}{s:Shared}{scope:Scope}{globals:Addr}{cl:List (Str×Addr)}{qual:Str}{func:Option Addr}{code:Value}{outer:Env}{builtins:Addr}{Q:Env->Shared->Prop}
  (h:Q (newEnv scope s.heap.objs.size globals (cD (s.heap.objs.size+1) scope.names cl) qual func code (some outer) builtins) {s with heap:=pushCells (s.heap.push {cls:=.type "dict",data:=.dict #[]}) scope.names}):
  wpAny M A (newFunctionEnv scope globals cl [] qual func code (some outer) builtins) Q E s:=by
 simp only[newFunctionEnv,gV,if_true];refine aa (wpAny_alloc ?_);refine aa (wpAny_layCells _ (fun name kind cells=>by cases hkc:kind==cO<;>simp[hkc]) _ _ _ _ ?_);rw[show({s with heap:=s.heap.push {cls:=.type "dict",data:=.dict #[]}}:Shared).heap.objs.size=s.heap.objs.size+1 from bT ..];rw[jS];exact aa (ai (ai h))
structure lW(X:Cx)(N':List Str)(sc:Scope):Prop where
 kind:sc.kind=.function
 cellk:∀y∈sc.names,y.2=.cell->sc.names.lookup y.1=some .cell
 own:∀y∈sc.names,y.2=.local->sc.names.lookup y.1=some .local
 free:∀y∈sc.names,y.2=.free->X.env.kindOf y.1=some .cell\/X.env.kindOf y.1=some .free
noncomputable def dQ(X:Cx)(N':List Str)(sc:Scope)(C:Addr)(s₀:Shared)(H₀:Hp)(fp:List Addr):Cx:=
 {X with N:=N',s₀:=s₀,H₀:=H₀,env:=compEnvC sc (cD (C+1) sc.names (fh X.env.cells sc.names [])) C X.env,outer:=X.stack,stack:=X.stack,ex:=fp,fn:=fun x=>sc.names.any fun y=>decide (y.1=x)&&decide (y.2=.cell),pn:=[],xe:=fun _ _=>False}
theorem ll{env:Env}:∀{names:List (Str×d7)}{x:Str}{k:d7},
  (names.map fun(n,k)=>if(k==b7&&env.scope.kind== .function&&env.kindOf n==some .cell)then(n,cO)else(n,k)).lookup x=some k->
  names.lookup x=some k\/(names.lookup x=some .free/\k=.cell)
 | [],_,_,h=>by simp at h
 | (n,k)::r,x,k',h=>by
  have ih:= @ll env r x k';rw[bK]at h;change cM x ((if(k==b7&&env.scope.kind== .function&&env.kindOf n==some .cell)=true then(n,cO)else(n,k))::_)=_ at h;cases hx:x==n with
  |true=>
   by_cases hc:(k==b7&&env.scope.kind== .function&&env.kindOf n==some .cell)=true
   ·rw[if_pos hc]at h
    simp only[aW,hx]at h⊢;have :k=.free:=by
     have :=hc
     simp only[aj]at this;simpa using this.1.1
    subst this;exact .inr ⟨rfl,(aV h).symm⟩
   ·rw[if_neg hc]at h
    simp only[aW,hx]at h⊢;exact .inl h
  |false=>
   have e:cM x (r.map fun(n,k)=>if(k==b7&&env.scope.kind== .function&&env.kindOf n==some .cell)then(n,cO)else(n,k))=some k':=by
    split at h<;>simpa only[aW,hx]using h
   simp only[aW,hx];exact ih e
theorem gw{env:Env}:∀{names:List (Str×d7)}{x:Str},names.lookup x=some .free->
  (names.map fun(n,k)=>if(k==b7&&env.scope.kind== .function&&env.kindOf n==some .cell)then(n,cO)else(n,k)).lookup x=some .free\/
  (names.map fun(n,k)=>if(k==b7&&env.scope.kind== .function&&env.kindOf n==some .cell)then(n,cO)else(n,k)).lookup x=some .cell
 | [],_,h=>by simp at h
 | (n,k)::r,x,h=>by
  have ih:= @gw env r x;rw[bK];change cM x ((if(k==b7&&env.scope.kind== .function&&env.kindOf n==some .cell)=true then(n,cO)else(n,k))::_)=_\/cM x ((if(k==b7&&env.scope.kind== .function&&env.kindOf n==some .cell)=true then(n,cO)else(n,k))::_)=_;cases hx:x==n with
  |true=>
   simp only[aW,hx]at h;cases h;by_cases hc:(b7==b7&&env.scope.kind== .function&&env.kindOf n==some .cell)=true
   ·rw[if_pos hc];right;simp only[aW,hx]
   ·rw[if_neg hc];left;simp only[aW,hx]
  |false=>
   simp only[aW,hx]at h;split <;>simpa only[aW,hx]using ih h
theorem fU{env:Env}:∀{names:List (Str×d7)}{x:Str}{k:Option d7},names.lookup x=k->k≠some .free->
  (names.map fun(n,k)=>if(k==b7&&env.scope.kind== .function&&env.kindOf n==some .cell)then(n,cO)else(n,k)).lookup x=k
 | [],_,_,h,_=>by simpa using h
 | (n,k)::r,x,k',h,hf=>by
  have ih:= @fU env r x k';rw[bK];change cM x ((if(k==b7&&env.scope.kind== .function&&env.kindOf n==some .cell)=true then(n,cO)else(n,k))::_)=_;cases hx:x==n with
  |true=>
   simp only[aW,hx]at h;have hk:k≠.free:=fun e=>hf (by rw[<-h,e]);have hb:(k==b7)=false:=by simpa using hk
   rw[if_neg (by rw[hb];simp)];simp only[aW,hx];exact h
  |false=>
   simp only[aW,hx]at h;split <;>simpa only[aW,hx]using ih h hf
theorem uD{sc:Scope}{cl:List (Str×Addr)}{C:Addr}{env:Env}{x:Str}{k:d7}(h:(compEnvC sc cl C env).kindOf x=some k):sc.names.lookup x=some k\/(sc.names.lookup x=some .free/\k=.cell):=ll (env:=env) h
theorem AE{prog:Program}{w:World}{A:Around}{R:Result->Shared->Prop}{s:Shared}{elt target iter:Expr}{ifs:List Expr}{scope:Scope}{pos:Pos}{it acc:Value}{env:Env}(I:Nat->Shared->Prop)
  (turn:∀n s,I n s->wpAny (model prog w) A (pyNext it) (fun r s₁=>match r with
   |none=>R (.ok .next) s₁
   |some v=>wpAny (model prog w) A (oN target it v) (fun _ s₁'=>wpAny (model prog w) A (assign target env v) (fun _ s₂=>
     wpAny (model prog w) A (forIn ifs true fun c r=>if r=true then do let ok<-isTrue c env (eval c env);pure (gJ ok)else pure (gJ r)) (fun ok s₃=>
      if ok=true then wpAny (model prog w) A (eval elt env) (fun x s₄=>
       wpAny (model prog w) A (call (.builtin "list.append") [acc,x]) (fun _ s₅=>∃m,m<n/\I m s₅) (fun _ _=>False) s₄) (fun _ _=>False) s₃
      else ∃m,m<n/\I m s₃) (fun _ _=>False) s₂) (fun _ _=>False) s₁') (fun _ _=>False) s₁) (fun _ _=>False) s)
  (n:Nat) (h:I n s):
  fo (model prog w) A (.compLoop (.ListComp elt [⟨target,iter,ifs,0⟩] scope pos) 0 it acc env) R s:=by
 refine codeAny_loop rfl I (fun n s hI=>?_) n h;show wpAny _ A ((compTurn (.ListComp elt [⟨target,iter,ifs,0⟩] scope pos) 0 it acc env).onRaise (fun x=>do kO x env;theTreesLotGoes x)) _ _ s;refine wpAny_noted ?_;rw[compTurn_list];refine aa (jz (aa (eD (turn n s hI) (fun r s₁ h₁=>?_) fun _ _ h'=>h'.elim)));cases r with
 |none=>exact ai h₁
 |some v=>
  refine aa (eD h₁ (fun _ s₁' h₁'=>?_) fun _ _ h'=>h'.elim);refine aa (eD h₁' (fun _ s₂ h₂=>aa (eD h₂ (fun ok s₃ h₃=>?_) fun _ _ h'=>h'.elim)) fun _ _ h'=>h'.elim);cases ok with
  |false=>exact ai ⟨rfl,h₃⟩
  |true=>
   exact aa (aa (eD h₃ (fun x s₄ h₄=>aa (eD h₄ (fun _ s₅ h₅=>ai (ai ⟨rfl,h₅⟩)) fun _ _ h'=>h'.elim)) fun _ _ h'=>h'.elim))
noncomputable def PTs(X:Cx)(ifs:List Expr)(t:TT):Prop:=
 ∀(pins:List (Addr×Obj))(s:Shared)(σ:St)(H:Hp)(Q:Bool->Hp->Prop),Inv X pins σ H s->t σ H Q->
  wpAny (model X.prog X.w) X.A (forIn ifs true fun c r=>if r=true then do let ok<-isTrue c X.env (eval c X.env);pure (gJ ok)else pure (gJ r)) (TP X pins σ Q) X.xe s
noncomputable def tYes:TT:=fun _ H Q=>Q true H
theorem pts_nil{X:Cx}:PTs X [] tYes:=by
 intro pins s σ H Q I h;rw[jS];exact ai ⟨H,I,h⟩
theorem pts_one{X:Cx}{c:Expr}{t:TT}(h:PT X c t):PTs X [c] t:=by
 intro pins s σ H Q I hw;rw[mj];simp only[if_true];refine aa (aa (thn (h pins s σ H Q I hw) fun b s1 q=>?_));refine ai ?_;show wpAny _ _ (forIn ([]:List Expr) b _) _ _ s1;rw[jS];exact ai q
noncomputable def tZ(wi:TI)(g:TG)(tc:TT)(te:TE)(mk:St->St):TE:=fun σ H Q=>wi σ H fun J H1=>∃W:Nat->Nat->St->List V->Hp->Prop,(∃m,W 0 m (mk σ) [] H1)/\
 ∀i m τ acc H2,W i m τ acc H2->(J.stop i H2/\∀l,H2 l=none->Q (.ref l) (upd H2 l (.lst acc)))\/(J.go i H2/\∃N:St->List V->Hp->Prop,(∀τ' acc' H',N τ' acc' H'->∃m',m'<m/\W (i+1) m' τ' acc' H')/\
  ∀x H3,J.yld i H2 x H3->g x τ H3 fun τ4 H4=>tc τ4 H4 fun b H5=>if b=true then te τ4 H5 fun v H6=>acc.length<sizeLine/\N τ4 (acc++[v]) H6 else N τ4 acc H5)
theorem Inv.track{X:Cx}{pins:List (Addr×Obj)}{σ:St}{H:Hp}{s:Shared}{a:Addr}{o:HO}(I:Inv X pins σ H s)(hf:oG X pins H a)(new:dR X.prog X.w (upd H a o) s.heap a o):Inv X pins σ (upd H a o) s:=by
 obtain⟨h0,h1,h2,h3,h4,h5⟩:=hf;have :=I.step (g':=s.gens) (d':=s.drawn) (t':=s.toks) (h':=s.heap) (H':=upd H a o) (ch:=[a]) (fun b hb=>by
   have e:b=a:=by simpa using hb
   subst e;exact⟨h3,h1,h4,h5⟩)
  (fun b ob _ _ _ q _=>q) (fun b ob _ _ _ q _=>⟨ob.slots,q⟩) (fun b ob hb q n=>by rw[aY (fun z=>hb (by simp[z]))];exact n) (fun b ob _ q=>⟨ob,q⟩)
  (fun b xs q=>by rw[aY (cf q h0)];exact q) (fun b ob u q=>by rw[aY (cf q h0)];exact q) (fun b ps q=>⟨#[],by rw[aY (cf q h0),q];simp⟩)
  (fun m hm=>hm) (fun b u q=>by
   by_cases hb:b=a
   ·subst hb;rw[az]at q;cases q;exact new
   ·rw[aY hb]at q
    exact(I.hok b u q).qR (fun c v _ e=>e) (fun c e=>by rw[aY (cf e h0)];exact e) fun c xs e=>by rw[aY (cf e h0)];exact e) I.bare
 exact this
theorem AK{X:Cx}{pins:List (Addr×Obj)}{σ:St}{H:Hp}{s:Shared}{a:Addr}{its:List Value}{n:Nat}{u:Value}{Q:Value->Shared->Prop}{E:Value->Shared->Prop}(I:Inv X pins σ H s)(hf:oG X pins H a)
  (e:s.heap.get? a=some {cls:=.type "list",data:=.seq its.toArray n}) (hz:its.length<sizeLine)
  (h:∀h' n',Inv X pins σ H {s with heap:=h'}->h'.get? a=some {cls:=.type "list",data:=.seq (its++[u]).toArray n'}->(∀b o,b≠a->s.heap.get? b=some o->h'.get? b=some o)->Q .none {s with heap:=h'}):
  wpAny (model X.prog X.w) X.A (call (.builtin "list.append") [.ref a,u]) Q E s:=by
 refine tQ F.slot_list_append ⟨_,e,rfl⟩ F.entry_list_append (F.args_list_append_2 _ _) (PySem.list_append a its.toArray n u (by rw[av];omega)) ⟨e,?_⟩;have q:=DQ e (·.push u);have eq:its.toArray.push u=(its++[u]).toArray:=by simp
 rw[eq]at q;have k:∀b o,b≠a->s.heap.get? b=some o->(s.heap.update a (aS (·.push u))).get? b=some o:=fun b o hb z=>(aE s.heap _ (bZ hb)).trans z;obtain⟨h0,h1,h2,h3,h4,h5⟩:=hf;exact h _ _ (I.turned (t':=s.toks) k h0 h1 h3 h4 h5) q k
section
variable {X:Cx}{N':List Str}{sc:Scope}{elt tg iter:Expr}{ifs:List Expr}{pos:Pos}{wi:TI}{g:TG}{tc:TT}{te:TE}{mk:St->St}
noncomputable def MkOk(X:Cx)(N':List Str)(sc:Scope)(mk:St->St):Prop:=
 ∀σ:St,σ.length=X.N.length->(mk σ).length=N'.length/\∀(i:Nat)(x:Str)(v:V),N'[i]? =some x->(mk σ)[i]? =some (some v)->sc.names.lookup x=some .free/\∃j:Nat,X.N[j]? =some x/\σ[j]? =some (some v)
theorem uM{pins:List (Addr×Obj)}{σ:St}{H:Hp}{s:Shared}{Q:VK}{use:Option (Value->Sem Unit)}{QQ:Value->Shared->Prop}(S:lW X N' sc)(hm:MkOk X N' sc mk)(hc:X.calm=true)
  (hi:PI X tg iter wi)
  (hb:∀C s₀ H₀ fp,(dQ X N' sc C s₀ H₀ fp).Ok->PG (dQ X N' sc C s₀ H₀ fp) tg g/\PTs (dQ X N' sc C s₀ H₀ fp) ifs tc/\PE (dQ X N' sc C s₀ H₀ fp) elt te)
  (hs:∀x,iX iter X.env x=pure x)(I:Inv X pins σ H s)(h:tZ wi g tc te mk σ H Q)
  (fin:∀(l C:Addr)(H':Hp)(s':Shared)(m:Str->Option Value),Inv X pins σ H' s'->s'.heap.Ns C m->oG X pins H' C->(∃o,s'.heap.get? C=some o/\∀v,o.data≠.cell v)->Q (.ref l) H'->compPost (model X.prog X.w) X.A X.xe use QQ (.ref l) C (.ok .next) s'):
  wpAny (model X.prog X.w) X.A (comprehension (.ListComp elt [⟨tg,iter,ifs,0⟩] sc pos) sc X.env (firstIterPos [⟨tg,iter,ifs,0⟩] pos) (newList []) false (eval iter X.env) use) QQ X.xe s:=by
 have hcells:∀y∈sc.names,y.2=.free->∃c,X.env.cells.lookup y.1=some c:=fun y hy hf=>I.ok.has _ (S.free y hy hf);refine wpAny_comprehension_free (use:=use) rfl hs (tK hcells) S.kind S.own ?_;refine thn (hi pins s σ H _ I h) fun v s1 h1=>thn h1 fun itv s2 h2=>?_;obtain⟨it,fp,tn,J,H2,e,I2,T,st2,f2,W,⟨m0,w0⟩,turn⟩:=h2;subst e
 --the list
 refine b8 ?_;have hl0:H2 s2.heap.objs.size=none:=I2.fresh;have fD:oG X pins H2 s2.heap.objs.size:=I2.wz (ax _) hl0;have eD3:(s2.heap.push {cls:=.type "list",dict:=none,data:=.seq ([]:List Value).toArray}).get? s2.heap.objs.size=some {cls:=.type "list",data:=.seq ([]:List Value).toArray 0}:=au _ rfl;have I3:Inv X pins σ H2 {s2 with heap:=s2.heap.push {cls:=.type "list",dict:=none,data:=.seq ([]:List Value).toArray}}:=I2.kept (t':=s2.toks) fun b o e=>ag _ e
 --the block's frame
 refine AD ?_;dsimp only;have szL:(s2.heap.push {cls:=.type "list",dict:=none,data:=.seq ([]:List Value).toArray}).objs.size=s2.heap.objs.size+1:=bT ..;have hDC:s2.heap.objs.size≠(s2.heap.push {cls:=.type "list",dict:=none,data:=.seq ([]:List Value).toArray}).objs.size:=by rw[szL];exact aB (bE _)
 have k23:∀b o,s2.heap.get? b=some o->(s2.heap.push {cls:=.type "list",dict:=none,data:=.seq ([]:List Value).toArray}).get? b=some o:=fun b o e=>ag _ e;generalize hH3:s2.heap.push {cls:=.type "list",dict:=none,data:=.seq ([]:List Value).toArray}=P3 at I3 szL eD3 hDC k23⊢;generalize hD:s2.heap.objs.size=D0 at *;have hns4:(pushCells (P3.push {cls:=.type "dict",data:=.dict #[]}) sc.names).Ns P3.objs.size (fun _=>none):=(Heap.Ns.new P3 (.type "dict")).keeps (pushCells_keeps _ _);have keep4:∀b o,P3.get? b=some o->(pushCells (P3.push {cls:=.type "dict",data:=.dict #[]}) sc.names).get? b=some o:=fun b o e=>pushCells_keeps _ _ b o (ag _ e);have own4:=cellsFrom_ok sc.names (P3.push {cls:=.type "dict",data:=.dict #[]}) (P3.objs.size+1) [] ⟨fun _ _ hm=>(nomatch hm),mn⟩ (by rw[bT];exact ax _);rw[bT]at own4;generalize pushCells (P3.push {cls:=.type "dict",data:=.dict #[]}) sc.names=h4 at hns4 keep4 own4⊢
 --the context
 have fpl:∀b∈fp,b<D0:=fun b hb=>by
  obtain⟨o,e,_⟩:=T.obj _ _ st2 b hb;rw[<-hD];exact aw e
 have hCb:D0<P3.objs.size:=by rw[szL];exact bE _
 have clo:∀x c,(fh X.env.cells sc.names []).lookup x=some c->X.env.cells.lookup x=some c/\(x,b7)∈sc.names:=fun x c e=>by
  rcases jG _ _ x c e with⟨q,e'⟩ |q
  ·obtain⟨c',hc'⟩:=hcells _ q rfl
   have hc'':X.env.cells.lookup x=some c':=hc';rw[hc'']at e'⊢;exact⟨by rw[e'];rfl,q⟩
  ·simp at q
 have clt:∀x c,(fh X.env.cells sc.names []).lookup x=some c->c<P3.objs.size:=fun x c e=>by
  obtain⟨v,o,ho,_⟩:=I3.cell x c (clo x c e).1;exact aw ho
 have cel:∀x c,(cD (P3.objs.size+1) sc.names (fh X.env.cells sc.names [])).lookup x=some c->((x,c)∈cD (P3.objs.size+1) sc.names []/\P3.objs.size+1<=c/\h4.IsCell c none)\/(fh X.env.cells sc.names []).lookup x=some c:=fun x c e=>by
  rw[fF,qa]at e;cases ho:(cD (P3.objs.size+1) sc.names []).lookup x with
  |none=>
   rw[ho]at e;exact .inr e
  |some c'=>
   rw[ho]at e;cases e;have m:=bw ho;exact .inl ⟨m,(own4.empty x c m).2,(own4.empty x c m).1⟩
 have celf:∀x,sc.names.lookup x=some .free->(cD (P3.objs.size+1) sc.names (fh X.env.cells sc.names [])).lookup x=(fh X.env.cells sc.names []).lookup x:=fun x hf=>by
  rw[fF,qa];cases ho:(cD (P3.objs.size+1) sc.names []).lookup x with
  |none=>rfl
  |some c'=>
   rcases jH _ _ _ _ _ (bw ho)with q|q
   ·have :=S.cellk _ q rfl
    rw[hf]at this;cases this
   ·cases q
 have f3:∀b∈D0::fp,oG X pins H2 b/\b<P3.objs.size:=fun b hb=>by
  rcases ay.mp hb with z|z
  ·rw[z];exact⟨fD,hCb⟩
  ·exact⟨f2 b z,fP (fpl b z) hCb⟩
 have ok:(dQ X N' sc P3.objs.size {s2 with heap:=P3} H2 (D0::fp)).Ok:=by
  refine⟨I.ok.mod,S.kind,I.ok.glob,I.ok.blt,ax _,fun x y c h1 h2=>?_,fun x hx=>?_,fun x c z=>?_,fun z=>I.ok.hd z,I.ok.frames,.inl rfl,fun b hb=>⟨?_,fun x c e=>?_⟩,I3.bs,aI I.ok.bsz I3.sz,fun b o e hb=>?_,fun b hb z=>?_,I3.stack,I3.vt⟩
  ·rcases cel x c h1 with⟨m1,l1,_⟩ |q1<;>rcases cel y c h2 with⟨m2,l2,_⟩ |q2
   ·exact PySem.name_of_addr own4.apart m1 m2
   ·exact absurd l1 (Nat.not_le.mpr (bx (clt y c q2)))
   ·exact absurd l2 (Nat.not_le.mpr (bx (clt x c q1)))
   ·exact I.ok.inj x y c (clo x c q1).1 (clo y c q2).1
  ·have q:sc.names.lookup x=some .free\/sc.names.lookup x=some .cell:=by
    rcases hx with hx|hx
    ·rcases uD hx with q|q
     ·exact .inr q
     ·exact .inl q.1
    ·rcases uD hx with q|q
     ·exact .inl q
     ·exact .inl q.1
   rcases q with q|q
   ·have h1:=eP.mp (m4 (cells:=X.env.cells) _ [] _ (bw q))
    show ∃c,(cD (P3.objs.size+1) sc.names (fh X.env.cells sc.names [])).lookup x=some c;rw[celf x q];exact h1
   ·exact eP.mp (iy _ _ _ _ (bw q))
  ·have z:(sc.names.any fun y=>decide (y.1=x)&&decide (y.2=cO))=true:=z
   obtain⟨y,hy,e⟩:=bP.mp z;rw[aj,decide_eq_true_eq,decide_eq_true_eq]at e;intro hc;rcases cel x c hc with⟨_,l1,_⟩ |q1
   ·show P3.objs.size<=c
    omega
   ·have hk:=S.cellk y hy e.2
    rw[e.1]at hk;rcases jG _ _ x c q1 with⟨q,_⟩ |q
    ·have h2:(cD (P3.objs.size+1) sc.names []).lookup x≠none:=fun h=>by
      have :=iy sc.names (P3.objs.size+1) [] x (bw hk)
      rw[h]at this;cases this
     have hc':(cD (P3.objs.size+1) sc.names (fh X.env.cells sc.names [])).lookup x=some c:=hc;rw[fF,qa]at hc';cases ho:(cD (P3.objs.size+1) sc.names []).lookup x with
     |none=>exact absurd ho h2
     |some c'=>
      rw[ho]at hc';cases hc';have :=(own4.empty x c (bw ho)).2;show P3.objs.size<=c;omega
    ·cases q
  ·exact aB (f3 b hb).2
  ·rcases cel x c e with⟨_,l1,_⟩ |q1
   ·have :=(f3 b hb).2
    exact fun z=>by subst z;omega
   ·exact(f3 b hb).1.2.2.2.2.1 x c (clo x c q1).1
  ·rcases(f3 b hb).1.2.2.2.1 with z|z
   ·exact I.ok.noex b o e z
   ·exact absurd (bh (aw e) (aI I.ok.bsz z)) (d5 _)
  ·rcases ay.mp (I2.zL b z)with q|q
   ·exact(f3 b hb).1.2.1 q
   ·exact(f3 b hb).1.2.2.1 q
 obtain⟨pg,pt,pe⟩:=hb _ _ _ _ ok;have I4:Inv (dQ X N' sc P3.objs.size {s2 with heap:=P3} H2 (D0::fp)) [] (mk σ) H2 {s2 with heap:=h4}:=by
  obtain⟨ml,hmk⟩:=hm σ I.len;have locC:∀x c v,X.env.cells.lookup x=some c->P3.IsCell c v->h4.IsCell c v:=fun x c v e ⟨o,ho,hd⟩=>⟨o,keep4 c o ho,hd⟩;refine⟨ok,rfl,I2.bare,Un.kept keep4,⟨_,hns4,fun i x v e1 e2 e3=>?_⟩,fun x c e=>?_,I3.hok.fresh (ax _),fun x c e=>?_,fun p hp=>absurd (show p∈([]:List (Addr×Obj))from hp) (by simp),I3.hok.kept keep4,ml⟩
  ·obtain⟨hf,j,hj,hv⟩:=hmk i x v e1 e2
   obtain⟨m,hn,hl⟩:=I3.loc;have kx:=S.free (x,.free) (bw hf) rfl;obtain⟨u,r,l⟩:=hl j x v hj hv (by
    rcases kx with q|q
    ·exact .inr (.inl q)
    ·exact .inr (.inr q))
   refine⟨u,r,.inr ⟨?_,?_⟩⟩
   ·rcases gw (env:=X.env) hf with q|q
    ·exact .inr q
    ·exact .inl q
   ·rcases l with⟨q,_⟩ |⟨_,c,hc1,hc2⟩
    ·have kx':X.env.kindOf x=some .cell\/X.env.kindOf x=some .free:=kx
     rw[q]at kx';rcases kx' with z|z<;>cases z
    ·obtain⟨c',q⟩:=eP.mp (m4 (cells:=X.env.cells) _ [] _ (bw hf))
     have :=(clo x c' q).1
     rw[hc1]at this;cases this;exact⟨c,by show(cD (P3.objs.size+1) sc.names (fh X.env.cells sc.names [])).lookup x=some c;rw[celf x hf];exact q,locC x c _ hc1 hc2⟩
  ·rcases cel x c e with⟨_,_,hv⟩ |q1
   ·exact⟨none,hv⟩
   ·obtain⟨v,hv⟩:=I3.cell x c (clo x c q1).1
    exact⟨v,locC x c v (clo x c q1).1 hv⟩
  ·rcases cel x c e with⟨_,l1,_⟩ |q1
   ·exact I3.hok.fresh (by show P3.objs.size<=c;omega)
   ·exact I3.freeC x c (clo x c q1).1
 have st4:tn 0 h4:=T.keep _ _ _ st2 fun b hb o e=>keep4 b o (k23 b o e);have f4:∀{H':Hp}{b:Addr},b∈D0::fp->H' b=none->oG (dQ X N' sc P3.objs.size {s2 with heap:=P3} H2 (D0::fp)) [] H' b:=fun{H' b} hb hn=>
  ⟨hn,(ok.exf b hb).1,ok.exfs b hb,.inl hb,(ok.exf b hb).2,fun p hp=>absurd (show p∈([]:List (Addr×Obj))from hp) (by simp)⟩
 have ofp:∀{b:Addr},b∈fp->b∈D0::fp:=fun hb=>aM _ hb;have nD:∀b∈fp,b≠D0:=fun b hb=>aB (fpl b hb)
 --the loop
 have loop:fo (model X.prog X.w) X.A (.compLoop (.ListComp elt [⟨tg,iter,ifs,0⟩] sc pos) 0 (.ref it) (.ref D0) (compEnvC sc (cD (P3.objs.size+1) sc.names (fh X.env.cells sc.names [])) P3.objs.size X.env))
   (compPost (model X.prog X.w) X.A X.xe use QQ (.ref D0) P3.objs.size) {s2 with heap:=h4}:=by
  refine AE (fun n s'=>∃i τ acc H' its k,Inv (dQ X N' sc P3.objs.size {s2 with heap:=P3} H2 (D0::fp)) [] τ H' s'/\tn i s'.heap/\(∀b∈D0::fp,H' b=none)/\bL acc its/\acc.length<=sizeLine/\
    s'.heap.get? D0=some {cls:=.type "list",data:=.seq its.toArray k}/\W i n τ acc H') ?_ m0
   ⟨0,mk σ,[],_,[],0,I4,st4,fun b hb=>(f3 b hb).1.1,.nil,bf _,keep4 _ _ eD3,w0⟩
  rintro n s5 ⟨i,τ,acc,H5,its,kk,I5,st5,fr5,va5,hz5,e5,w5⟩;have I5p:Inv (dQ X N' sc P3.objs.size {s2 with heap:=P3} H2 (D0::fp)) ([]++iH [D0] s5.heap) τ H5 s5:=by
   refine I5.pinned (fun b hb=>?_) (fun b hb=>?_)
   ·have z:b=D0:=by simpa using hb
    rw[z];exact f4 aG (fr5 D0 aG)
   ·have z:b=D0:=by simpa using hb
    rw[z];exact⟨_,e5,fun v z=>by cases z⟩
  obtain q|⟨go,NN,hN,step⟩:=turn i n τ acc H5 w5
  ·obtain⟨stop,q⟩:=q
   refine thn (T.done (dQ X N' sc P3.objs.size {s2 with heap:=P3} H2 (D0::fp)) rfl rfl rfl hc i _ s5 τ H5 (fun _ _=>False) I5p (fun b hb=>?_) st5 stop) fun r s6 ⟨hr,I6p⟩=>?_
   ·obtain⟨g0,g1,g2,g3,g4,_⟩:=f4 (ofp hb) (fr5 b (ofp hb))
    refine⟨g0,g1,g2,g3,g4,fun p hp=>?_⟩;have hp':p∈iH [D0] s5.heap:=by simpa[dQ]using hp
    obtain⟨z,_⟩:=oZ hp';have z':p.1=D0:=by simpa using z
    rw[z'];exact(nD b hb).symm
   subst hr;have I6:=I6p.gW;have e6:s6.heap.get? D0=some {cls:=.type "list",data:=.seq its.toArray kk}:=(I6p.pin (D0,_) (bg _ (bg _ (ir (by simp) e5)))).1
   --back in the context around
   have un:Un (frs X.stack) fp H2 H5 s2.heap s6.heap:=by
    have u:=I6.base;have nb:∀b o,s2.heap.get? b=some o->b∉fp->b∉D0::fp:=fun b o e hb z=>by
     rcases ay.mp z with z|z
     ·exact absurd (aw e) (by rw[z,hD];exact d5 _)
     ·exact hb z
    exact⟨fun b o e n hb hx=>u.keep b o (k23 b o e) n hb (nb b o e hx),fun b o e n hb hx=>u.slot b o (k23 b o e) n hb (nb b o e hx),fun b o e n hx=>u.free b o (k23 b o e) n (nb b o e hx),fun b o e hx=>u.there b o (k23 b o e) (nb b o e hx),u.tups,u.frzs,u.tbls⟩
   have I7:Inv X pins σ H5 s6:=by
    obtain⟨hh,g6,d6,t6,os6⟩:=s6;have eo:os6=s2.os:=I6.os;subst eo;exact I2.call (h':=hh) (g':=g6) (d':=d6) (t':=t6) (ch:=fp) un I6.hok I6.bare fun b hb=>⟨(f2 b hb).2.2.2.1,(f2 b hb).2.1,(f2 b hb).2.2.2.2.1,(f2 b hb).2.2.2.2.2⟩
   have fD5:oG X pins H5 D0:=⟨fr5 D0 aG,fD.2⟩;have I8:=I7.track (o:=.lst acc) fD5 (show dR X.prog X.w _ s6.heap D0 (.lst acc)from⟨hz5,its,kk,va5,e6⟩);obtain⟨m,hn,_⟩:=id I6.loc;refine fin _ P3.objs.size _ s6 m I8 hn (I2.wz (by rw[hD];exact jN hCb) (by rw[aY (bZ hDC)];exact I6.free)) ?_ (q D0 (fr5 D0 aG));obtain⟨o,es,ep,ho,hd,_⟩:=hn;exact⟨o,ho,fun v z=>by rw[hd]at z;cases z⟩
  ·skip
   have fpi:∀{H':Hp}{b:Addr},b∈fp->H' b=none->oG (dQ X N' sc P3.objs.size {s2 with heap:=P3} H2 (D0::fp)) ([]++iH [D0] s5.heap) H' b:=fun{H' b} hb hn=>by
    obtain⟨g0,g1,g2,g3,g4,_⟩:=f4 (H':=H') (ofp hb) hn;refine⟨g0,g1,g2,g3,g4,fun p hp=>?_⟩;have hp':p∈iH [D0] s5.heap:=by simpa[dQ]using hp
    obtain⟨z,_⟩:=oZ hp';have z':p.1=D0:=by simpa using z
    rw[z'];exact(nD b hb).symm
   refine thn (T.item (dQ X N' sc P3.objs.size {s2 with heap:=P3} H2 (D0::fp)) rfl rfl rfl hc i _ s5 τ H5 (fun _ _=>False) I5p (fun b hb=>fpi hb (fr5 b (ofp hb))) st5 go) fun r s6 ⟨u,hr,h6⟩=>?_;subst hr;refine thn h6 fun _ s7 ⟨x,H7,I7,r7,y7,st7,fr7⟩=>?_;have I7':=I7.pinned (fun b hb=>fpi hb (fr7 b hb)) (T.obj _ _ st7);refine thn (pg _ s7 τ H7 x u _ I7' r7 (step x H7 y7)) fun _ s8 ⟨τ8,H8,I8,q8⟩=>?_;refine thn (pt _ s8 τ8 H8 _ I8 q8) fun b s9 ⟨H9,I9,q9⟩=>?_;have pinD:∀{τ':St}{H':Hp}{s':Shared},Inv (dQ X N' sc P3.objs.size {s2 with heap:=P3} H2 (D0::fp)) ([]++iH [D0] s5.heap++iH fp s7.heap) τ' H' s'->s'.heap.get? D0=some {cls:=.type "list",data:=.seq its.toArray kk}/\H' D0=none:=fun{τ' H' s'} J=>by
    have :=J.pin (D0,_) (bg _ (nC _ (bg _ (ir (by simp) e5))))
    exact⟨this.1,this.2.1⟩
   have pinF:∀{τ':St}{H':Hp}{s':Shared},Inv (dQ X N' sc P3.objs.size {s2 with heap:=P3} H2 (D0::fp)) ([]++iH [D0] s5.heap++iH fp s7.heap) τ' H' s'->(∀b∈fp,∀o,s7.heap.get? b=some o->s'.heap.get? b=some o)/\(∀b∈fp,H' b=none):=fun{τ' H' s'} J=>by
    refine⟨fun b hb o e=>(J.pin (b,o) (bg _ (bg _ (ir hb e)))).1,fun b hb=>?_⟩;obtain⟨o,e,d⟩:=T.obj _ _ st7 b hb;exact(J.pin (b,o) (bg _ (bg _ (ir hb e)))).2.1
   cases b with
   |false=>
    rw[if_neg (by decide)]at q9⊢;obtain⟨m',hm',w7⟩:=hN τ8 acc H9 q9;obtain⟨d1,d2⟩:=pinD I9;obtain⟨p1,p2⟩:=pinF I9;refine⟨m',hm',i+1,τ8,acc,H9,its,kk,I9.gW.gW,T.keep _ _ _ st7 p1,fun b hb=>?_,va5,hz5,d1,w7⟩;rcases ay.mp hb with z|z
    ·rw[z];exact d2
    ·exact p2 b z
   |true=>
    rw[if_pos rfl]at q9⊢;refine thn (pe _ s9 τ8 H9 _ I9 q9) fun y s10 ⟨z,H10,I10,r10,q10⟩=>?_;obtain⟨hz10,n10⟩:=q10;obtain⟨m',hm',w7⟩:=hN τ8 _ H10 n10;obtain⟨d1,d2⟩:=pinD I10;obtain⟨p1,p2⟩:=pinF I10;have hlen:its.length=acc.length:=va5.length.symm;refine AK (X:=dQ X N' sc P3.objs.size {s2 with heap:=P3} H2 (D0::fp)) I10.gW.gW (f4 aG d2) d1 (by omega) fun h' n' I11 e11 k11=>?_;refine⟨m',hm',i+1,τ8,acc++[z],H10,its++[y],n',I11,T.keep _ _ _ st7 fun b hb o e=>k11 b o (nD b hb) (p1 b hb o e),fun b hb=>?_,va5.append (.cons r10 .nil),?_,e11,w7⟩
    ·rcases ay.mp hb with w|w
     ·rw[w];exact d2
     ·exact p2 b w
    ·rw[cu,mO];omega
 exact codeAny_compStart_list loop (T.self _ 0 _ _ _ st4 loop)
theorem pe_comp(S:lW X N' sc)(hm:MkOk X N' sc mk)(hc:X.calm=true)(hi:PI X tg iter wi)
  (hb:∀C s₀ H₀ fp,(dQ X N' sc C s₀ H₀ fp).Ok->PG (dQ X N' sc C s₀ H₀ fp) tg g/\PTs (dQ X N' sc C s₀ H₀ fp) ifs tc/\PE (dQ X N' sc C s₀ H₀ fp) elt te)
  (hs:∀x,iX iter X.env x=pure x:=by intro _;rfl):PE X (.ListComp elt [⟨tg,iter,ifs,0⟩] sc pos) (tZ wi g tc te mk):=by
 intro pins s σ H Q I h;rw[eval_ListComp];refine uM (use:=none) S hm hc hi hb hs I h fun l C H' s' m I' hn hC hCo q=>⟨m,hn,fun h'' hs''=>?_⟩;have I'':Inv X pins σ H' {s' with heap:=h'',toks:=s'.toks}:=I'.turned (fun b o hb e=>hs''.extBut b o hb e) hC.1 hC.2.1 hC.2.2.2.1 hC.2.2.2.2.1 hC.2.2.2.2.2;exact⟨.ref l,H',I'',rfl,q⟩
theorem z8{i:Nat}{x:Str}{pos' spos:Pos}(S:lW X N' sc)(hm:MkOk X N' sc mk)(hc:X.calm=true)(hi:PI X tg iter wi)
  (hb:∀C s₀ H₀ fp,(dQ X N' sc C s₀ H₀ fp).Ok->PG (dQ X N' sc C s₀ H₀ fp) tg g/\PTs (dQ X N' sc C s₀ H₀ fp) ifs tc/\PE (dQ X N' sc C s₀ H₀ fp) elt te)
  (hN:X.N.Nodup)(hx:X.N[i]? =some x)(hl:X.env.scope.names.lookup x=some .local)
  (hsw:ni (.ListComp elt [⟨tg,iter,ifs,0⟩] sc pos) (some (.Name x pos')) spos.line X.env=pure true)
  (hs:∀x,iX iter X.env x=pure x:=by intro _;rfl):PS X (.Assign [.Name x pos'] (.ListComp elt [⟨tg,iter,ifs,0⟩] sc pos) spos) (vq (tZ wi g tc te mk) (kG i)):=by
 intro pins s σ H D I h;rw[exec_Assign_Name_used _ _ _ _ hsw];refine aa (jz (aa ?_));show wpAny _ X.A (do let _<-comprehension (.ListComp elt [⟨tg,iter,ifs,0⟩] sc pos) sc X.env (firstIterPos [⟨tg,iter,ifs,0⟩] pos) (newList []) false (eval iter X.env) (some (assign (.Name x pos') X.env))) _ _ s;refine aa (thn (uM (use:=some (assign (.Name x pos') X.env)) (QQ:=fun _ s'=>SP X pins D .next s') S hm hc hi hb hs I h fun l C H' s' m I' hn hC hCo q=>?_) fun _ s' hq=>ai (ai hq));obtain⟨oC,eC,dC⟩:=id hCo;have I1:Inv X (pins++[(C,oC)]) σ H' s':=I'.vT fun p hp=>(cj.mp hp).elim (fun z=>I'.pin p (bg _ z)) fun z=>by
  have e:p=(C,oC):=by simpa using z
  subst e;exact⟨eC,hC.1,hC.2.1,hC.2.2.1,dC⟩
 show wpAny _ X.A (assign (.Name x pos') X.env (.ref l)) _ _ s';refine thn (Bg (i:=i) hN hx (.inl hl) (.inr hl) (pins++[(C,oC)]) s' σ H' (.ref l) (.ref l) D.nx I1 rfl q) fun _ s2 ⟨σ2,H2,I2,q2⟩=>?_;obtain⟨eC2,nC2,_,_,_⟩:=I2.pin (C,oC) (bg _ (bg _ (by simp)));have hn2:s2.heap.Ns C m:=by
  obtain⟨o,es,ep,ho,r⟩:=hn;have :o=oC:=by rw[eC]at ho;exact(aV ho).symm
  subst this;exact⟨o,es,ep,eC2,r⟩
 refine⟨m,hn2,fun h'' hs''=>?_⟩;have I3:Inv X pins σ2 H2 {s2 with heap:=h'',toks:=s2.toks}:=I2.gW.turned (fun b o hb e=>hs''.extBut b o hb e) nC2 hC.2.1 hC.2.2.2.1 hC.2.2.2.2.1 hC.2.2.2.2.2;exact⟨σ2,H2,I3,q2⟩
end
section
variable {X:Cx}
theorem yP:fL X (.builtin "isinstance") (fun xs H Q=>∃x T t b,xs=[x,.ty T]/\kW X.K H x t/\ic X.K t (.type T)=some b/\Q (.bl b) H):=by
 intro pins s σ H xs us Q I rv h;obtain⟨x,T,t,b,rfl,ty,e,q⟩:=h;obtain⟨u,c,rfl,ru,rc⟩:=rv.two;cases rc;exact uE I ru ty e fun tk=>⟨.bl b,H,I.tok tk,rfl,q⟩
theorem wK:fL X (.builtin "isinstance") (fun xs H Q=>∃x C t b,xs=[x,.ref C]/\kW X.K H x t/\ic X.K t (.ref C)=some b/\Q (.bl b) H):=by
 intro pins s σ H xs us Q I rv h;obtain⟨x,T,t,b,rfl,ty,e,q⟩:=h;obtain⟨u,c,rfl,ru,rc⟩:=rv.two;cases rc;exact uE I ru ty e fun tk=>⟨.bl b,H,I.tok tk,rfl,q⟩
theorem xw{prog:Program}{w:World}{A:Around}{its:List Value}{bs:List Bool}(r:bL (bs.map V.bl) its):TruthOf prog w A (fun i v=>its.toArray[i]? =some v) (fun i=>bs.getD i false):=by
 intro i v s Q E hP h;have hi:its[i]? =some v:=by simpa using hP
 have e:v=.bool (bs.getD i false):=by
  have hl:=r.length;rw[ao]at hl;have hlt:i<bs.length:=by
   have :=(aF.mp hi).1
   omega
  obtain⟨u,hu,ru⟩:=bL.get (i:=i) (x:=.bl bs[i]) r (by simp[hlt]);rw[hi]at hu;cases hu;have ru':v=pC bs[i]:=ru;rw[ru',ah,af hlt];rfl
 rw[e];exact cQ h
theorem range_all(bs:List Bool):(aq bs.length).all (fun i=>bs.getD i false)=bs.all id:=by
 have :bs=(aq bs.length).map fun i=>bs.getD i false:=by
  apply cX
  ·simp
  ·intro i h1 h2
   simp[h1]
 rw[ee];simp only[bD,aQ];constructor
 ·intro h x hx
  obtain⟨i,hi,rfl⟩:=cR.mp hx;have :=h i hi;simpa[hi]using this
 ·intro h i hi
  have :=h bs[i] (bO hi)
  simpa[hi]using this
theorem range_any(bs:List Bool):(aq bs.length).any (fun i=>bs.getD i false)=bs.any id:=by
 rw[ee];simp only[bP,aQ];constructor
 ·rintro⟨i,hi,h⟩
  exact⟨bs[i],bO hi,by simpa[hi]using h⟩
 ·rintro⟨x,hx,h⟩
  obtain⟨i,hi,rfl⟩:=cR.mp hx;exact⟨i,hi,by simpa[hi]using h⟩
theorem GP(hc:X.calm=true):fL X (.builtin "all") (fun xs H Q=>∃(p:Addr)(bs:List Bool),xs=[.ref p]/\SqL X.K H p (bs.map V.bl)/\Q (.bl (bs.all id)) H):=by
 intro pins s σ H xs us Q I rv h;obtain⟨p,bs,rfl,hq,q⟩:=h;obtain⟨u,rfl,ru⟩:=rv.one;cases ru;obtain⟨its,r,pl,hz⟩:=I.list hq;have hlen:its.toArray.size=bs.length:=by rw[av,<-r.length,ao]
 have hne:p≠s.heap.objs.size:=by obtain⟨o,n,ho,_⟩:=id pl;exact aB (aw ho)
 refine call_all_walk (iU pl.isList ⟨s.heap.objs.size,_,_,_,_,_,fun i=>bs.getD i false,rfl,Ha (A:=X.A.in1) (I.ok.hd hc) _ p hne its.toArray,⟨⟨_,au _ rfl,rfl,rfl⟩,pl.isList.at fun o e=>ag _ e⟩,xw r,fun h' tk k=>?_⟩);rw[hlen,range_all];exact⟨.bl (bs.all id),H,I.kept (t':=tk) fun b o e=>k b o (by simpa using aB (aw e)) (ag _ e),rfl,q⟩
theorem GO(hc:X.calm=true):fL X (.builtin "any") (fun xs H Q=>∃(p:Addr)(bs:List Bool),xs=[.ref p]/\SqL X.K H p (bs.map V.bl)/\Q (.bl (bs.any id)) H):=by
 intro pins s σ H xs us Q I rv h;obtain⟨p,bs,rfl,hq,q⟩:=h;obtain⟨u,rfl,ru⟩:=rv.one;cases ru;obtain⟨its,r,pl,hz⟩:=I.list hq;have hlen:its.toArray.size=bs.length:=by rw[av,<-r.length,ao]
 have hne:p≠s.heap.objs.size:=by obtain⟨o,n,ho,_⟩:=id pl;exact aB (aw ho)
 refine call_any_walk (iU pl.isList ⟨s.heap.objs.size,_,_,_,_,_,fun i=>bs.getD i false,rfl,Ha (A:=X.A.in1) (I.ok.hd hc) _ p hne its.toArray,⟨⟨_,au _ rfl,rfl,rfl⟩,pl.isList.at fun o e=>ag _ e⟩,xw r,fun h' tk k=>?_⟩);rw[hlen,range_any];exact⟨.bl (bs.any id),H,I.kept (t':=tk) fun b o e=>k b o (by simpa using aB (aw e)) (ag _ e),rfl,q⟩
noncomputable def cutS(x:Str)(lo hi:Option Int):Str:=⟨((x.cps.toList.drop (HT.sIx x.length 0 lo)).take (HT.sIx x.length x.length hi-HT.sIx x.length 0 lo)).toArray⟩
theorem sIx_eq(n d:Nat)(i:Int):(max 0 (min (if i<0 then i+(n:Int)else i) (n:Int)))=((HT.sIx n d (some i):Nat):Int):=by
 have :=HT.clip_eq i n d
 rw[<-this];split <;>omega
theorem strIx(lo hi:Option Int)(n:Nat):qd lo hi 1 n=(aq (HT.sIx n n hi-HT.sIx n 0 lo)).map fun k=>HT.sIx n 0 lo+k:=by
 have key:∀a b:Nat,DH (a:Int) (b:Int) 1=(aq (b-a)).map fun k=>a+k:=by
  intro a b;unfold DH;have e:(if(1:Int)>0 then(if(a:Int)<b then((b:Int)-a+1-1)/1 else 0)else(if(a:Int)>b then((a:Int)-b-1-1)/(-1)else 0)).toNat=b-a:=by
   rw[if_pos (by decide)];split <;>omega
  simp only[e];apply cL;intro k hk;omega
 have e1:∀(o:Option Int)(d:Nat),(match o with |none=>(d:Int) |some i=>max 0 (min (if i<0 then i+(n:Int)else i) (n:Int)))=((HT.sIx n d o:Nat):Int):=by
  intro o d;cases o with
  |none=>rfl
  |some i=>exact sIx_eq n d i
 have a1:=e1 lo 0;have a2:=e1 hi n;unfold qd;simp only[show(1:Int)>0 by decide,if_true];have b1:((0:Nat):Int)=0:=rfl;rw[b1]at a1;rw[<-key,<-a1,<-a2];cases lo<;>cases hi<;>rfl
theorem pickN(xs:Array Nat)(i:Nat):∀k,((aq k).map fun m=>i+m).filterMap (xs[·]?)=(xs.toList.drop i).take k:=by
 intro k
 induction k with
 |zero=>simp
 |succ k ih=>
  rw[vd,du,List.filterMap_append,ih];by_cases h:i+k<xs.size
  ·rw[List.take_succ,jR]
   simp[h]
  ·rw[List.take_succ,jR]
   simp[h]
theorem Cf(x:Str)(lo hi:Option Int):Txt.slice x lo hi=cutS x lo hi:=by
 have hl:HT.sIx x.length 0 lo<=x.length:=HT.EI _ _ (bf _) lo;have hu:HT.sIx x.length x.length hi<=x.length:=HT.EI _ _ (ax _) hi;unfold Txt.slice cutS;rw[strIx];split
 ·rename_i h
  rw[aj,beq_iff_eq,beq_iff_eq,ao,bI]at h;have a:HT.sIx x.length 0 lo=0:=by omega
  have b:HT.sIx x.length x.length hi=x.length:=by omega
  rw[a,b];have :x.cps.toList.length=x.length:=by simp[zd]
  rw[xo,DR,<-this,dv]
 ·rw[pickN]
theorem pS{v:Value}{o:Option Int}(p:IsPart v o):∃l:Option (Int×Tok),v=partValue l/\o=l.map (·.1):=by
 cases p with
 |none=>exact⟨none,rfl,rfl⟩
 |int i t=>exact⟨some (i,t),rfl,rfl⟩
noncomputable def rSlS:V->Option Int->Option Int->Hp->VK->Prop:=fun x lo hi H Q=>∃z,x=.str z/\z.length<=sizeLine/\Q (.str (cutS z lo hi)) H
theorem sl_str:SlR X rSlS:=by
 intro pins s σ H x v vl vu lo hi sl Q I rx hs pl pu h;obtain⟨z,rfl,hz,q⟩:=h;obtain⟨t,rfl⟩:=rx;obtain⟨l,rfl,rfl⟩:=pS pl;obtain⟨u,rfl,rfl⟩:=pS pu;refine⟨"str",_,F.slot_str_getitem.lookup,typeIs_str _ _ _,?_⟩;refine wpAny_getItem_str_slice (l:=l) (u:=u) (st:=none) hs rfl (post_val_or_str ⟨aI (Txt.slice_le z _ _) hz,fun t' k=>?_⟩);have e:=Cf z (l.map (·.1)) (u.map (·.1));unfold Txt.slice at e;refine⟨.str (cutS z (l.map (·.1)) (u.map (·.1))),H,I.tok k,⟨t',?_⟩,q⟩;rw[<-e];rfl
noncomputable def Its(x:Str):It:=⟨fun i _=>i<x.length,fun i H v H'=>H'=H/\∃c,x.cps[i]? =some c/\v=.str ⟨#[c]⟩,fun i _=>x.length<=i⟩
end
theorem t8{prog:Program}{w:World}(it:Addr)(x:Str)(t:Tok)(A:Around)(hA:A.handled=none):
  Walks prog w A it [it] [it] x.cps.size (SignAt x) (fun i h=>h.IsStrIter it (gS x) x t i):=by
 unfold gS;cases ha:x.cps.all (·<128)
 ·simp only[aJ,if_false];exact Walks.strWide hA it x t
 ·simp only[if_true];exact Walks.strAscii hA it x t
theorem Eg{P:Program}{w:World}{K:ae}{tg:Expr}(x:Str)(it:Addr)(t:Tok):Turn P w K tg (Its x) [it] it (fun i h=>h.IsStrIter it (gS x) x t i) where
 mem:=by simp
 obj:=fun i h st b hb=>by
  have e:b=it:=by simpa using hb
  subst e;obtain⟨o,e,c,d⟩:=st;exact⟨o,e,fun v z=>by rw[d]at z;cases z⟩
 keep:=fun i h h' st k=>let⟨o,ho,r⟩:=st;⟨o,k it (by simp) o ho,r⟩
 item:=by
  intro X hP hw hK hc i pins s σ H E I hf st hg;subst hP hw hK;obtain⟨f0,f1,f2,f3,f4,f5⟩:=hf it (by simp);have W:=t8 (prog:=X.prog) (w:=X.w) it x t X.A (I.ok.hd hc);refine W.item i s _ _ hg st fun v h' tk hv st' kk=>?_;obtain⟨c,u,hc',rfl⟩:=hv;have I1:Inv X pins σ H {s with heap:=h',toks:=tk}:=I.turned (fun b o hb e=>kk b o (by simpa using hb) e) f0 f1 f3 f4 f5;obtain⟨o,e,cl,d⟩:=id st';refine⟨_,rfl,BB (s:={s with heap:=h',toks:=tk}) (n:=gS x) e cl d ?_ ⟨.str ⟨#[c]⟩,H,I1,⟨u,rfl⟩,⟨rfl,c,hc',rfl⟩,st',fun b hb=>(hf b hb).1⟩⟩;unfold gS;split <;>decide
 done:=by
  intro X hP hw hK hc i pins s σ H E I hf st hg;subst hP hw hK;obtain⟨f0,f1,f2,f3,f4,f5⟩:=hf it (by simp);have hg':x.length<=i:=hg;by_cases hi:i=x.cps.size
  ·subst hi
   have W:=t8 (prog:=X.prog) (w:=X.w) it x t X.A (I.ok.hd hc);exact W.done s _ _ st fun h' tk kk=>⟨rfl,I.turned (fun b o hb e=>kk b o (by simpa using hb) e) f0 f1 f3 f4 f5⟩
  ·have hn:x.cps[i]? =none:=by
    rw[Array.getElem?_eq_none_iff];exact hg'
   have st2:s.heap.IsStrIter it (gS x) x t i:=st;unfold gS at st2;cases ha:x.cps.all (·<128)
   ·rw[ha]at st2
    exact wpAny_pyNext_wide_end (I.ok.hd hc) st2 hn fun h' eb=>⟨rfl,I.turned (t':=s.toks) (fun b o hb e=>eb b o hb e) f0 f1 f3 f4 f5⟩
   ·rw[ha]at st2
    exact wpAny_pyNext_ascii_end (I.ok.hd hc) st2 hn fun h' eb=>⟨rfl,I.turned (t':=s.toks) (fun b o hb e=>eb b o hb e) f0 f1 f3 f4 f5⟩
 self:=fun A i s Q E st h=>by
  have st2:s.heap.IsStrIter it (gS x) x t i:=st;unfold gS at st2;cases ha:x.cps.all (·<128)
  ·rw[ha]at st2;exact wpAny_pyIter_striter_wide st2 h
  ·rw[ha]at st2;exact wpAny_pyIter_striter_ascii st2 h
noncomputable def Ite(K:ae)(a:Addr):It:=
 ⟨fun i H=>∃xs x,SqL K H a xs/\xs[i]? =some x,fun i H v H'=>∃p x,H p=none/\H'=upd H p (.tup [.int i,x])/\v=.ref p/\∀xs,SqL K H a xs->xs[i]? =some x,fun i H=>∃xs,SqL K H a xs/\xs.length<=i⟩
section
variable {X:Cx}{es:List Expr}{kk:Nat}{pp:Pos}
noncomputable def iEnum(K:ae)(tl:TE):TI:=fun σ H R=>tl σ H fun x H1=>∃a,x=.ref a/\(∃xs,SqL K H1 a xs)/\R (Ite K a) H1
end
inductive D where
 |non|bl (b:Bool) |int (i:Int) |str (x:Str) |tup (ds:List D) |lst (ds:List D)
 deriving Inhabited
mutual
noncomputable def Rep(K:ae)(H:Hp):D->V->Prop
 |.non,v=>v=.non
 |.bl b,v=>v=.bl b
 |.int i,v=>v=.int i
 |.str x,v=>v=.str x
 |.tup ds,v=>∃a xs,v=.ref a/\SqT K H a xs/\fX K H ds xs
 |.lst ds,v=>∃a xs,v=.ref a/\SqL K H a xs/\fX K H ds xs
noncomputable def fX(K:ae)(H:Hp):List D->List V->Prop
 | [],xs=>xs=[]
 |d::ds,xs=>∃x r,xs=x::r/\Rep K H d x/\fX K H ds r
end
theorem aP.tup{K:ae}{H H':Hp}{a:Addr}{xs:List V}(e:aP H H')(h:SqT K H a xs):SqT K H' a xs:=by
 rcases h with(h|⟨o,h⟩) |h
 ·exact .inl (.inl (e _ _ h))
 ·exact .inl (.inr ⟨o,e _ _ h⟩)
 ·exact .inr h
mutual
theorem Rep.same{K:ae}{H H':Hp}(e:aP H H'):∀{d:D}{v:V},Rep K H d v->Rep K H' d v
 |.non,_,h=>h
 |.bl _,_,h=>h
 |.int _,_,h=>h
 |.str _,_,h=>h
 |.tup ds,_,h=>by
  obtain⟨a,xs,e1,h1,h2⟩:=h;exact⟨a,xs,e1,e.tup h1,fX.same e h2⟩
 |.lst ds,_,h=>by
  obtain⟨a,xs,e1,h1,h2⟩:=h;exact⟨a,xs,e1,e.seq h1,fX.same e h2⟩
theorem fX.same{K:ae}{H H':Hp}(e:aP H H'):∀{ds:List D}{xs:List V},fX K H ds xs->fX K H' ds xs
 | [],_,h=>h
 |d::ds,_,h=>by
  obtain⟨x,r,e1,h1,h2⟩:=h;exact⟨x,r,e1,Rep.same e h1,fX.same e h2⟩
end
theorem fX.length{K:ae}{H:Hp}:∀{ds:List D}{xs:List V},fX K H ds xs->xs.length=ds.length
 | [],_,h=>by rw[show _=[]from h];rfl
 |d::ds,_,h=>by
  obtain⟨x,r,rfl,_,h2⟩:=h;rw[ba,ba,fX.length h2]
theorem fX.at{K:ae}{H:Hp}:∀{ds:List D}{xs:List V}{i:Nat}{d:D},fX K H ds xs->ds[i]? =some d->∃x,xs[i]? =some x/\Rep K H d x
 | [],_,i,d,h,e=>by simp at e
 |d::ds,_,0,d',h,e=>by
  obtain⟨y,r,rfl,h1,h2⟩:=h;simp at e;subst e;exact⟨y,rfl,h1⟩
 |d::ds,_,i+1,d',h,e=>by
  obtain⟨y,r,rfl,h1,h2⟩:=h;obtain⟨x,e',h'⟩:=fX.at (i:=i) h2 (by simpa using e);exact⟨x,by simpa using e',h'⟩
theorem fX.ints{K:ae}{H:Hp}:∀(ns:List Int),fX K H (ns.map D.int) (ns.map V.int)
 | []=>rfl
 |n::ns=>⟨_,_,rfl,rfl,fX.ints ns⟩
mutual
noncomputable def eqD:D->D->Bool
 |.non,.non=>true
 |.bl a,.bl b=>a==b
 |.bl a,.int b=>(if a then 1 else 0)==b
 |.int a,.bl b=>a==(if b then 1 else 0)
 |.int a,.int b=>a==b
 |.str a,.str b=>a==b
 |.tup a,.tup b=>kT a b
 |.lst a,.lst b=>kT a b
 |_,_=>false
noncomputable def kT:List D->List D->Bool
 | [],[]=>true
 |a::as,b::bs=>eqD a b&&kT as bs
 |_,_=>false
end
mutual
noncomputable def hgt:D->Nat
 |.tup ds=>hW ds+1
 |.lst ds=>hW ds+1
 |_=>0
noncomputable def hW:List D->Nat
 | []=>0
 |d::ds=>max (hgt d) (hW ds)
end
theorem ph:∀{ds:List D}{i:Nat}{d:D},ds[i]? =some d->hgt d<=hW ds
 | [],i,d,e=>by simp at e
 |d::ds,0,d',e=>by simp at e;subst e;simp only[hW];omega
 |d::ds,i+1,d',e=>by
  have :=ph (i:=i) (ds:=ds) (d:=d') (by simpa using e)
  simp only[hW];omega
theorem lC:∀(as bs:List D)(e:Nat->Bool),as.length=bs.length->(∀(i:Nat) a b,as[i]? =some a->bs[i]? =some b->e i=eqD a b)->(aq as.length).all e=kT as bs
 | [],[],e,_,_=>rfl
 |a::as,b::bs,e,hl,h=>by
  rw[ba,List.range_succ_eq_map,zw,List.all_map];have h0:=h 0 a b rfl rfl;have ih:=lC as bs (fun i=>e (i+1)) (by simpa using hl) fun i x y hx hy=>h (i+1) x y (by simpa using hx) (by simpa using hy);rw[h0];show(eqD a b&&(aq as.length).all (fun i=>e (i+1)))=_;rw[ih,kT]
 | [],b::bs,e,hl,_=>by simp at hl
 |a::as,[],e,hl,_=>by simp at hl
theorem lB:∀(as bs:List D),as.length≠bs.length->kT as bs=false
 | [],[],h=>absurd rfl h
 |a::as,b::bs,h=>by
  rw[kT,lB as bs (by simpa using h),jV]
 | [],b::bs,_=>rfl
 |a::as,[],_=>rfl
mutual
theorem rV:∀d:D,eqD d d=true
 |.non=>rfl
 |.bl b=>by simp[eqD]
 |.int i=>by simp[eqD]
 |.str x=>by simp[eqD]
 |.tup ds=>by rw[eqD];exact pq ds
 |.lst ds=>by rw[eqD];exact pq ds
theorem pq:∀ds:List D,kT ds ds=true
 | []=>rfl
 |d::ds=>by rw[kT,rV d,pq ds];rfl
end
section
variable {X:Cx}{pins:List (Addr×Obj)}{σ:St}{H:Hp}{s:Shared}
mutual
theorem Inv.vQ(I:Inv X pins σ H s):∀{d d':D}{v:V},Rep X.K H d v->Rep X.K H d' v->d=d'
 |.non,d',v,h,h'=>by
  cases(show v=V.non from h);cases d'<;>first | (obtain⟨_,_,z,_⟩:=h';cases z;done) |rfl| (cases h';done)
 |.bl b,d',v,h,h'=>by
  cases(show v=V.bl b from h);cases d'<;>first | (obtain⟨_,_,z,_⟩:=h';cases z;done) | (cases h';rfl) | (cases h';done)
 |.int b,d',v,h,h'=>by
  cases(show v=V.int b from h);cases d'<;>first | (obtain⟨_,_,z,_⟩:=h';cases z;done) | (cases h';rfl) | (cases h';done)
 |.str b,d',v,h,h'=>by
  cases(show v=V.str b from h);cases d'<;>first | (obtain⟨_,_,z,_⟩:=h';cases z;done) | (cases h';rfl) | (cases h';done)
 |.tup ds,d',v,h,h'=>by
  obtain⟨a,xs,rfl,h1,h2⟩:=h;cases d' with
  |tup ds'=>
   obtain⟨b,ys,e,h1',h2'⟩:=h';cases e;have :=I.oR h1 h1';subst this;rw[Inv.qZ I h2 h2']
  |lst ds'=>
   obtain⟨b,ys,e,h1',h2'⟩:=h';cases e;obtain⟨its,_,⟨o,e1,c1,_⟩,_⟩:=I.tuple h1;obtain⟨its',_,⟨o',n,e2,c2,_⟩,_⟩:=I.list h1';rw[e1]at e2;cases e2;rw[c1]at c2;exact absurd c2 (by decide+kernel)
  |_=>cases h'
 |.lst ds,d',v,h,h'=>by
  obtain⟨a,xs,rfl,h1,h2⟩:=h;cases d' with
  |lst ds'=>
   obtain⟨b,ys,e,h1',h2'⟩:=h';cases e;have :=I.yo h1 h1';subst this;rw[Inv.qZ I h2 h2']
  |tup ds'=>
   obtain⟨b,ys,e,h1',h2'⟩:=h';cases e;obtain⟨its,_,⟨o,n,e1,c1,_⟩,_⟩:=I.list h1;obtain⟨its',_,⟨o',e2,c2,_⟩,_⟩:=I.tuple h1';rw[e1]at e2;cases e2;rw[c1]at c2;exact absurd c2 (by decide+kernel)
  |_=>cases h'
theorem Inv.qZ(I:Inv X pins σ H s):∀{ds ds':List D}{xs:List V},fX X.K H ds xs->fX X.K H ds' xs->ds=ds'
 | [],[],_,_,_=>rfl
 | [],d::ds,xs,h,h'=>by
  obtain⟨x,r,e,_⟩:=h';rw[show xs=[]from h]at e;cases e
 |d::ds,[],xs,h,h'=>by
  obtain⟨x,r,e,_⟩:=h;rw[show xs=[]from h']at e;cases e
 |d::ds,d'::ds',xs,h,h'=>by
  obtain⟨x,r,rfl,h1,h2⟩:=h;obtain⟨y,r',e,h1',h2'⟩:=h';cases e;rw[Inv.vQ I h1 h1',Inv.qZ I h2 h2']
end
open PySem.SeqAt
theorem Inv.rcTup(I:Inv X pins σ H s)(A:Around){ds ds':List D}{a b:Addr}{xs ys:List V}(hit:∀(i:Nat)(d d':D)(x y:V)(u u':Value),ds[i]? =some d->ds'[i]? =some d'->Rep X.K H d x->Rep X.K H d' y->RelV x u->RelV y u'->EqAt A.in1 s u u' (eqD d d'))(h1:SqT X.K H a xs)(h2:fX X.K H ds xs)(h1':SqT X.K H b ys)(h2':fX X.K H ds' ys)(hu:A.units<cLine):RcAt A s (.ref a) (.ref b) (kT ds ds'):=by
  obtain⟨its,r,p,_⟩:=I.tuple h1;obtain⟨its',r',p',_⟩:=I.tuple h1';have l1:=h2.length;have l2:=h2'.length;have l3:=r.length;have l4:=r'.length;have key:=RcAt.tuples (e:=fun j=>match ds[j]?,ds'[j]? with |some d,some d'=>eqD d d'|_,_=>false) p p' (A:=A) (by omega) (fun j g1 g2=>by
   have g1':j<its.length:=by simpa using g1
   have g2':j<its'.length:=by simpa using g2
   have e1:ds[j]? =some ds[j]:=af (by omega);have e2:ds'[j]? =some ds'[j]:=af (by omega);show EqAt A.in1 s _ _ (match ds[j]?,ds'[j]? with |some d,some d'=>eqD d d'|_,_=>false);rw[e1,e2];obtain⟨x,hx,rx⟩:=h2.at e1;obtain⟨y,hy,ry⟩:=h2'.at e2;obtain⟨u,hu1,ru⟩:=r.get hx;obtain⟨u',hu2,ru'⟩:=r'.get hy;have q1:its.toArray[j]=u:=by have :its[j]? =some its[j]:=af g1';rw[this]at hu1;simpa using hu1
   have q2:its'.toArray[j]=u':=by have :its'[j]? =some its'[j]:=af g2';rw[this]at hu2;simpa using hu2
   rw[q1,q2];exact hit j _ _ x y u u' e1 e2 rx ry ru ru')
  have hs:its.toArray.size=ds.length:=by simp;omega
  have hs':its'.toArray.size=ds'.length:=by simp;omega
  rw[hs,hs']at key;by_cases hl:ds.length=ds'.length
  ·have e:((aq (min ds.length ds'.length)).all (fun j=>match ds[j]?,ds'[j]? with |some d,some d'=>eqD d d'|_,_=>false)&&ds.length==ds'.length)=kT ds ds':=by
    rw[<-hl,sS,beq_self_eq_true,Bool.and_true];refine lC ds ds' _ hl fun i x y hx hy=>?_;simp only[hx,hy]
   rw[e]at key;exact key
  ·have e:((aq (min ds.length ds'.length)).all (fun j=>match ds[j]?,ds'[j]? with |some d,some d'=>eqD d d'|_,_=>false)&&ds.length==ds'.length)=kT ds ds':=by
    rw[lB ds ds' hl,beq_eq_false_iff_ne.mpr hl,jV]
   rw[e]at key;exact key
theorem Inv.rcLst(I:Inv X pins σ H s)(A:Around){ds ds':List D}{a b:Addr}{xs ys:List V}(hit:∀(i:Nat)(d d':D)(x y:V)(u u':Value),ds[i]? =some d->ds'[i]? =some d'->Rep X.K H d x->Rep X.K H d' y->RelV x u->RelV y u'->EqAt A.in1 s u u' (eqD d d'))(h1:SqL X.K H a xs)(h2:fX X.K H ds xs)(h1':SqL X.K H b ys)(h2':fX X.K H ds' ys)(hu:A.units<cLine):RcAt A s (.ref a) (.ref b) (kT ds ds'):=by
  obtain⟨its,r,p,_⟩:=I.list h1;obtain⟨its',r',p',_⟩:=I.list h1';have l1:=h2.length;have l2:=h2'.length;have l3:=r.length;have l4:=r'.length;by_cases hl:ds.length=ds'.length
  ·have key:=RcAt.lists (e:=fun j=>match ds[j]?,ds'[j]? with |some d,some d'=>eqD d d'|_,_=>false) p.isList p'.isList (A:=A) (by simp;omega) (by omega) (fun j g1 g2=>by
    have g1':j<its.length:=by simpa using g1
    have g2':j<its'.length:=by simpa using g2
    have e1:ds[j]? =some ds[j]:=af (by omega);have e2:ds'[j]? =some ds'[j]:=af (by omega);show EqAt A.in1 s _ _ (match ds[j]?,ds'[j]? with |some d,some d'=>eqD d d'|_,_=>false);rw[e1,e2];obtain⟨x,hx,rx⟩:=h2.at e1;obtain⟨y,hy,ry⟩:=h2'.at e2;obtain⟨u,hu1,ru⟩:=r.get hx;obtain⟨u',hu2,ru'⟩:=r'.get hy;have q1:its.toArray[j]=u:=by have :its[j]? =some its[j]:=af g1';rw[this]at hu1;simpa using hu1
    have q2:its'.toArray[j]=u':=by have :its'[j]? =some its'[j]:=af g2';rw[this]at hu2;simpa using hu2
    rw[q1,q2];exact hit j _ _ x y u u' e1 e2 rx ry ru ru')
   have hs:its.toArray.size=ds.length:=by simp;omega
   rw[hs,lC ds ds' _ hl fun i x y hx hy=>by simp only[hx,hy]]at key;exact key
  ·have key:=RcAt.lists_lengths p.isList p'.isList (A:=A) (by simp;omega) (by omega)
   rw[lB ds ds' hl];exact key
theorem Inv.eqAt1(I:Inv X pins σ H s){n:Nat}(A:Around)(hit:∀(m:Nat)(ds ds':List D)(i:Nat)(d d':D)(x y:V)(u u':Value),n=m+1->hW ds<=m->ds[i]? =some d->ds'[i]? =some d'->Rep X.K H d x->Rep X.K H d' y->RelV x u->RelV y u'->EqAt A.in1 s u u' (eqD d d')):
  ∀(d d':D)(v v':V)(u u':Value),Rep X.K H d v->Rep X.K H d' v'->RelV v u->RelV v' u'->hgt d<=n->A.units+n+1<cLine->EqAt A s u u' (eqD d d')
 |.tup ds,.tup ds',v,v',u,u',h,h',r,r',hn,hu=>by
  obtain⟨a,xs,rfl,h1,h2⟩:=id h;obtain⟨b,ys,rfl,h1',h2'⟩:=id h';cases r;cases r';rw[hgt]at hn;by_cases z:a=b
  ·subst z
   have e:=I.vQ h h';rw[<-e,rV];exact EqAt.same _
  ·rw[eqD]
   exact EqAt.of_refs z (Inv.rcTup I A (fun i d d' x y u u' e1 e2 rx ry ru ru'=>hit (n-1) ds ds' i d d' x y u u' (by omega) (by omega) e1 e2 rx ry ru ru') h1 h2 h1' h2' (by omega))
 |.lst ds,.lst ds',v,v',u,u',h,h',r,r',hn,hu=>by
  obtain⟨a,xs,rfl,h1,h2⟩:=id h;obtain⟨b,ys,rfl,h1',h2'⟩:=id h';cases r;cases r';rw[hgt]at hn;by_cases z:a=b
  ·subst z
   have e:=I.vQ h h';rw[<-e,rV];exact EqAt.same _
  ·rw[eqD]
   exact EqAt.of_refs z (Inv.rcLst I A (fun i d d' x y u u' e1 e2 rx ry ru ru'=>hit (n-1) ds ds' i d d' x y u u' (by omega) (by omega) e1 e2 rx ry ru ru') h1 h2 h1' h2' (by omega))
 |.tup ds,.lst ds',v,v',u,u',h,h',r,r',hn,hu=>by
  obtain⟨a,xs,rfl,h1,h2⟩:=id h;obtain⟨b,ys,rfl,h1',h2'⟩:=id h';cases r;cases r';obtain⟨its,_,p,_⟩:=I.tuple h1;obtain⟨its',_,p',_⟩:=I.list h1';exact EqAt.tuple_list p p'.isList (by omega)
 |.lst ds,.tup ds',v,v',u,u',h,h',r,r',hn,hu=>by
  obtain⟨a,xs,rfl,h1,h2⟩:=id h;obtain⟨b,ys,rfl,h1',h2'⟩:=id h';cases r;cases r';obtain⟨its,_,p,_⟩:=I.list h1;obtain⟨its',_,p',_⟩:=I.tuple h1';exact EqAt.list_tuple p.isList p' (by omega)
 |.tup ds,.non,v,v',u,u',h,h',r,r',hn,hu=>by
  obtain⟨a,xs,rfl,h1,h2⟩:=id h;cases(show v'=_ from h');cases r;cases r';obtain⟨its,_,p,_⟩:=I.tuple h1;exact EqAt.tuple_none p (by omega)
 |.tup ds,.bl _,v,v',u,u',h,h',r,r',hn,hu=>by
  obtain⟨a,xs,rfl,h1,h2⟩:=id h;cases(show v'=_ from h');cases r;cases r';obtain⟨its,_,p,_⟩:=I.tuple h1;exact EqAt.tuple_bool _ p (by omega)
 |.tup ds,.int _,v,v',u,u',h,h',r,r',hn,hu=>by
  obtain⟨a,xs,rfl,h1,h2⟩:=id h;cases(show v'=_ from h');cases r;obtain⟨t,rfl⟩:=r';obtain⟨its,_,p,_⟩:=I.tuple h1;exact EqAt.tuple_int _ t p (by omega)
 |.tup ds,.str _,v,v',u,u',h,h',r,r',hn,hu=>by
  obtain⟨a,xs,rfl,h1,h2⟩:=id h;cases(show v'=_ from h');cases r;obtain⟨t,rfl⟩:=r';obtain⟨its,_,p,_⟩:=I.tuple h1;exact EqAt.tuple_str _ t p (by omega)
 |.lst ds,.non,v,v',u,u',h,h',r,r',hn,hu=>by
  obtain⟨a,xs,rfl,h1,h2⟩:=id h;cases(show v'=_ from h');cases r;cases r';obtain⟨its,_,p,_⟩:=I.list h1;exact EqAt.list_none p.isList (by omega)
 |.lst ds,.bl _,v,v',u,u',h,h',r,r',hn,hu=>by
  obtain⟨a,xs,rfl,h1,h2⟩:=id h;cases(show v'=_ from h');cases r;cases r';obtain⟨its,_,p,_⟩:=I.list h1;exact EqAt.list_bool _ p.isList (by omega)
 |.lst ds,.int _,v,v',u,u',h,h',r,r',hn,hu=>by
  obtain⟨a,xs,rfl,h1,h2⟩:=id h;cases(show v'=_ from h');cases r;obtain⟨t,rfl⟩:=r';obtain⟨its,_,p,_⟩:=I.list h1;exact EqAt.list_int _ t p.isList (by omega)
 |.lst ds,.str _,v,v',u,u',h,h',r,r',hn,hu=>by
  obtain⟨a,xs,rfl,h1,h2⟩:=id h;cases(show v'=_ from h');cases r;obtain⟨t,rfl⟩:=r';obtain⟨its,_,p,_⟩:=I.list h1;exact EqAt.list_str _ t p.isList (by omega)
 |.non,.tup ds,v,v',u,u',h,h',r,r',hn,hu=>by
  obtain⟨a,xs,rfl,h1,h2⟩:=id h';cases(show v=_ from h);cases r;cases r';obtain⟨its,_,p,_⟩:=I.tuple h1;exact EqAt.none_tuple p (by omega)
 |.bl _,.tup ds,v,v',u,u',h,h',r,r',hn,hu=>by
  obtain⟨a,xs,rfl,h1,h2⟩:=id h';cases(show v=_ from h);cases r;cases r';obtain⟨its,_,p,_⟩:=I.tuple h1;exact EqAt.bool_tuple _ p (by omega)
 |.int _,.tup ds,v,v',u,u',h,h',r,r',hn,hu=>by
  obtain⟨a,xs,rfl,h1,h2⟩:=id h';cases(show v=_ from h);cases r';obtain⟨t,rfl⟩:=r;obtain⟨its,_,p,_⟩:=I.tuple h1;exact EqAt.int_tuple _ t p (by omega)
 |.str _,.tup ds,v,v',u,u',h,h',r,r',hn,hu=>by
  obtain⟨a,xs,rfl,h1,h2⟩:=id h';cases(show v=_ from h);cases r';obtain⟨t,rfl⟩:=r;obtain⟨its,_,p,_⟩:=I.tuple h1;exact EqAt.str_tuple _ t p (by omega)
 |.non,.lst ds,v,v',u,u',h,h',r,r',hn,hu=>by
  obtain⟨a,xs,rfl,h1,h2⟩:=id h';cases(show v=_ from h);cases r;cases r';obtain⟨its,_,p,_⟩:=I.list h1;exact EqAt.none_list p.isList (by omega)
 |.bl _,.lst ds,v,v',u,u',h,h',r,r',hn,hu=>by
  obtain⟨a,xs,rfl,h1,h2⟩:=id h';cases(show v=_ from h);cases r;cases r';obtain⟨its,_,p,_⟩:=I.list h1;exact EqAt.bool_list _ p.isList (by omega)
 |.int _,.lst ds,v,v',u,u',h,h',r,r',hn,hu=>by
  obtain⟨a,xs,rfl,h1,h2⟩:=id h';cases(show v=_ from h);cases r';obtain⟨t,rfl⟩:=r;obtain⟨its,_,p,_⟩:=I.list h1;exact EqAt.int_list _ t p.isList (by omega)
 |.str _,.lst ds,v,v',u,u',h,h',r,r',hn,hu=>by
  obtain⟨a,xs,rfl,h1,h2⟩:=id h';cases(show v=_ from h);cases r';obtain⟨t,rfl⟩:=r;obtain⟨its,_,p,_⟩:=I.list h1;exact EqAt.str_list _ t p.isList (by omega)
 |.non,.non,v,v',u,u',h,h',r,r',hn,hu=>by cases(show v=_ from h);cases(show v'=_ from h');exact fV r r' rfl rfl
 |.non,.bl _,v,v',u,u',h,h',r,r',hn,hu=>by cases(show v=_ from h);cases(show v'=_ from h');exact fV r r' rfl rfl
 |.non,.int _,v,v',u,u',h,h',r,r',hn,hu=>by cases(show v=_ from h);cases(show v'=_ from h');exact fV r r' rfl rfl
 |.non,.str _,v,v',u,u',h,h',r,r',hn,hu=>by cases(show v=_ from h);cases(show v'=_ from h');exact fV r r' rfl rfl
 |.bl _,.non,v,v',u,u',h,h',r,r',hn,hu=>by cases(show v=_ from h);cases(show v'=_ from h');exact fV r r' rfl rfl
 |.bl _,.bl _,v,v',u,u',h,h',r,r',hn,hu=>by cases(show v=_ from h);cases(show v'=_ from h');exact fV r r' rfl rfl
 |.bl _,.int _,v,v',u,u',h,h',r,r',hn,hu=>by cases(show v=_ from h);cases(show v'=_ from h');exact fV r r' rfl rfl
 |.bl _,.str _,v,v',u,u',h,h',r,r',hn,hu=>by cases(show v=_ from h);cases(show v'=_ from h');exact fV r r' rfl rfl
 |.int _,.non,v,v',u,u',h,h',r,r',hn,hu=>by cases(show v=_ from h);cases(show v'=_ from h');exact fV r r' rfl rfl
 |.int _,.bl _,v,v',u,u',h,h',r,r',hn,hu=>by cases(show v=_ from h);cases(show v'=_ from h');exact fV r r' rfl rfl
 |.int _,.int _,v,v',u,u',h,h',r,r',hn,hu=>by cases(show v=_ from h);cases(show v'=_ from h');exact fV r r' rfl rfl
 |.int _,.str _,v,v',u,u',h,h',r,r',hn,hu=>by cases(show v=_ from h);cases(show v'=_ from h');exact fV r r' rfl rfl
 |.str _,.non,v,v',u,u',h,h',r,r',hn,hu=>by cases(show v=_ from h);cases(show v'=_ from h');exact fV r r' rfl rfl
 |.str _,.bl _,v,v',u,u',h,h',r,r',hn,hu=>by cases(show v=_ from h);cases(show v'=_ from h');exact fV r r' rfl rfl
 |.str _,.int _,v,v',u,u',h,h',r,r',hn,hu=>by cases(show v=_ from h);cases(show v'=_ from h');exact fV r r' rfl rfl
 |.str _,.str _,v,v',u,u',h,h',r,r',hn,hu=>by cases(show v=_ from h);cases(show v'=_ from h');exact fV r r' rfl rfl
theorem Inv.BG(I:Inv X pins σ H s):∀(n:Nat)(A:Around)(d d':D)(v v':V)(u u':Value),Rep X.K H d v->Rep X.K H d' v'->RelV v u->RelV v' u'->hgt d<=n->A.units+n+1<cLine->EqAt A s u u' (eqD d d'):=by
 intro n
 induction n with
 |zero=>exact fun A d d' v v' u u' h h' r r' hn hu=>Inv.eqAt1 I A (fun m ds ds' i d d' x y u u' hm _ _ _ _ _ _ _=>absurd hm (by omega)) d d' v v' u u' h h' r r' hn hu
 |succ n ih=>
  exact fun A d d' v v' u u' h h' r r' hn hu=>Inv.eqAt1 I A (fun m ds ds' i d d' x y u u' hm hd e1 e2 rx ry ru ru'=>ih A.in1 d d' x y u u' rx ry ru ru' (by have :=ph e1;omega) (by show A.units+1+n+1<cLine;omega)) d d' v v' u u' h h' r r' hn hu
end
end L2
namespace L2
open PySem PySem.Spec PyProof.Rows PySem.SeqAt
section
variable {X:Cx}{pins:List (Addr×Obj)}{σ:St}{H:Hp}{s:Shared}
theorem Inv.neTup(I:Inv X pins σ H s)(A:Around){ds ds':List D}{a b:Addr}{xs ys:List V}(hit:∀(i:Nat)(d d':D)(x y:V)(u u':Value),ds[i]? =some d->ds'[i]? =some d'->Rep X.K H d x->Rep X.K H d' y->RelV x u->RelV y u'->EqAt A.in1 s u u' (eqD d d'))
  (h1:SqT X.K H a xs)(h2:fX X.K H ds xs)(h1':SqT X.K H b ys)(h2':fX X.K H ds' ys)(hu:A.units<cLine):RcNeAt A s (.ref a) (.ref b) (!kT ds ds'):=by
 obtain⟨its,r,p,_⟩:=I.tuple h1;obtain⟨its',r',p',_⟩:=I.tuple h1';have l1:=h2.length;have l2:=h2'.length;have l3:=r.length;have l4:=r'.length;have key:=RcNeAt.tuples (e:=fun j=>match ds[j]?,ds'[j]? with |some d,some d'=>eqD d d'|_,_=>false) p p' (A:=A) hu (fun j g1 g2=>by
  have g1':j<its.length:=by simpa using g1
  have g2':j<its'.length:=by simpa using g2
  have e1:ds[j]? =some ds[j]:=af (by omega);have e2:ds'[j]? =some ds'[j]:=af (by omega);show EqAt A.in1 s _ _ (match ds[j]?,ds'[j]? with |some d,some d'=>eqD d d'|_,_=>false);rw[e1,e2];obtain⟨x,hx,rx⟩:=h2.at e1;obtain⟨y,hy,ry⟩:=h2'.at e2;obtain⟨u,hu1,ru⟩:=r.get hx;obtain⟨u',hu2,ru'⟩:=r'.get hy;have q1:its.toArray[j]=u:=by have :its[j]? =some its[j]:=af g1';rw[this]at hu1;simpa using hu1
  have q2:its'.toArray[j]=u':=by have :its'[j]? =some its'[j]:=af g2';rw[this]at hu2;simpa using hu2
  rw[q1,q2];exact hit j _ _ x y u u' e1 e2 rx ry ru ru')
 have hs:its.toArray.size=ds.length:=by simp;omega
 have hs':its'.toArray.size=ds'.length:=by simp;omega
 rw[hs,hs']at key;have e:((aq (min ds.length ds'.length)).all (fun j=>match ds[j]?,ds'[j]? with |some d,some d'=>eqD d d'|_,_=>false)&&ds.length==ds'.length)=kT ds ds':=by
  by_cases hl:ds.length=ds'.length
  ·rw[<-hl,sS,beq_self_eq_true,Bool.and_true]
   refine lC ds ds' _ hl fun i x y hx hy=>?_;simp only[hx,hy]
  ·rw[lB ds ds' hl,beq_eq_false_iff_ne.mpr hl,jV]
 rw[e]at key;exact key
theorem Inv.neLst(I:Inv X pins σ H s)(A:Around){ds ds':List D}{a b:Addr}{xs ys:List V}(hit:∀(i:Nat)(d d':D)(x y:V)(u u':Value),ds[i]? =some d->ds'[i]? =some d'->Rep X.K H d x->Rep X.K H d' y->RelV x u->RelV y u'->EqAt A.in1 s u u' (eqD d d'))
  (h1:SqL X.K H a xs)(h2:fX X.K H ds xs)(h1':SqL X.K H b ys)(h2':fX X.K H ds' ys)(hu:A.units<cLine):RcNeAt A s (.ref a) (.ref b) (!kT ds ds'):=by
 obtain⟨its,r,p,_⟩:=I.list h1;obtain⟨its',r',p',_⟩:=I.list h1';have l1:=h2.length;have l2:=h2'.length;have l3:=r.length;have l4:=r'.length;by_cases hl:ds.length=ds'.length
 ·have key:=RcNeAt.lists (e:=fun j=>match ds[j]?,ds'[j]? with |some d,some d'=>eqD d d'|_,_=>false) p.isList p'.isList (A:=A) (by simp;omega) hu (fun j g1 g2=>by
   have g1':j<its.length:=by simpa using g1
   have g2':j<its'.length:=by simpa using g2
   have e1:ds[j]? =some ds[j]:=af (by omega);have e2:ds'[j]? =some ds'[j]:=af (by omega);show EqAt A.in1 s _ _ (match ds[j]?,ds'[j]? with |some d,some d'=>eqD d d'|_,_=>false);rw[e1,e2];obtain⟨x,hx,rx⟩:=h2.at e1;obtain⟨y,hy,ry⟩:=h2'.at e2;obtain⟨u,hu1,ru⟩:=r.get hx;obtain⟨u',hu2,ru'⟩:=r'.get hy;have q1:its.toArray[j]=u:=by have :its[j]? =some its[j]:=af g1';rw[this]at hu1;simpa using hu1
   have q2:its'.toArray[j]=u':=by have :its'[j]? =some its'[j]:=af g2';rw[this]at hu2;simpa using hu2
   rw[q1,q2];exact hit j _ _ x y u u' e1 e2 rx ry ru ru')
  have hs:its.toArray.size=ds.length:=by simp;omega
  rw[hs,lC ds ds' _ hl fun i x y hx hy=>by simp only[hx,hy]]at key;exact key
 ·have key:=RcNeAt.lists_lengths p.isList p'.isList (A:=A) (by simp;omega) hu
  rw[lB ds ds' hl];exact key
theorem Inv.rcD(I:Inv X pins σ H s)(A:Around):∀(d d':D)(v v':V)(u u':Value),Rep X.K H d v->Rep X.K H d' v'->RelV v u->RelV v' u'->A.units+hgt d+1<cLine->RcAt A s u u' (eqD d d')
 |.non,.non,v,v',u,u',h,h',r,r',hu=>by cases(show v=_ from h);cases r;cases(show v'=_ from h');cases r';exact RcAt.none_none
 |.non,.bl w2,v,v',u,u',h,h',r,r',hu=>by cases(show v=_ from h);cases r;cases(show v'=_ from h');cases r';exact RcAt.none_bool _
 |.non,.int w2,v,v',u,u',h,h',r,r',hu=>by cases(show v=_ from h);cases r;cases(show v'=_ from h');obtain⟨t',rfl⟩:=r';exact RcAt.none_int _ t'
 |.non,.str w2,v,v',u,u',h,h',r,r',hu=>by cases(show v=_ from h);cases r;cases(show v'=_ from h');obtain⟨t',rfl⟩:=r';exact RcAt.none_str _ t'
 |.non,.tup ds',v,v',u,u',h,h',r,r',hu=>by cases(show v=_ from h);cases r;obtain⟨b,ys,rfl,h1',h2'⟩:=id h';cases r';obtain⟨its',_,p',_⟩:=I.tuple h1';exact RcAt.none_tuple p' (by omega)
 |.non,.lst ds',v,v',u,u',h,h',r,r',hu=>by cases(show v=_ from h);cases r;obtain⟨b,ys,rfl,h1',h2'⟩:=id h';cases r';obtain⟨its',_,p',_⟩:=I.list h1';exact RcAt.none_list p'.isList (by omega)
 |.bl w1,.non,v,v',u,u',h,h',r,r',hu=>by cases(show v=_ from h);cases r;cases(show v'=_ from h');cases r';exact RcAt.bool_none _
 |.bl w1,.bl w2,v,v',u,u',h,h',r,r',hu=>by cases(show v=_ from h);cases r;cases(show v'=_ from h');cases r';exact RcAt.bool_bool _ _
 |.bl w1,.int w2,v,v',u,u',h,h',r,r',hu=>by cases(show v=_ from h);cases r;cases(show v'=_ from h');obtain⟨t',rfl⟩:=r';exact RcAt.bool_int _ _ t'
 |.bl w1,.str w2,v,v',u,u',h,h',r,r',hu=>by cases(show v=_ from h);cases r;cases(show v'=_ from h');obtain⟨t',rfl⟩:=r';exact RcAt.bool_str _ _ t'
 |.bl w1,.tup ds',v,v',u,u',h,h',r,r',hu=>by cases(show v=_ from h);cases r;obtain⟨b,ys,rfl,h1',h2'⟩:=id h';cases r';obtain⟨its',_,p',_⟩:=I.tuple h1';exact RcAt.bool_tuple _ p' (by omega)
 |.bl w1,.lst ds',v,v',u,u',h,h',r,r',hu=>by cases(show v=_ from h);cases r;obtain⟨b,ys,rfl,h1',h2'⟩:=id h';cases r';obtain⟨its',_,p',_⟩:=I.list h1';exact RcAt.bool_list _ p'.isList (by omega)
 |.int w1,.non,v,v',u,u',h,h',r,r',hu=>by cases(show v=_ from h);obtain⟨t,rfl⟩:=r;cases(show v'=_ from h');cases r';exact RcAt.int_none _ t
 |.int w1,.bl w2,v,v',u,u',h,h',r,r',hu=>by cases(show v=_ from h);obtain⟨t,rfl⟩:=r;cases(show v'=_ from h');cases r';exact RcAt.int_bool _ t _
 |.int w1,.int w2,v,v',u,u',h,h',r,r',hu=>by cases(show v=_ from h);obtain⟨t,rfl⟩:=r;cases(show v'=_ from h');obtain⟨t',rfl⟩:=r';exact RcAt.int_int _ t _ t'
 |.int w1,.str w2,v,v',u,u',h,h',r,r',hu=>by cases(show v=_ from h);obtain⟨t,rfl⟩:=r;cases(show v'=_ from h');obtain⟨t',rfl⟩:=r';exact RcAt.int_str _ t _ t'
 |.int w1,.tup ds',v,v',u,u',h,h',r,r',hu=>by cases(show v=_ from h);obtain⟨t,rfl⟩:=r;obtain⟨b,ys,rfl,h1',h2'⟩:=id h';cases r';obtain⟨its',_,p',_⟩:=I.tuple h1';exact RcAt.int_tuple _ t p' (by omega)
 |.int w1,.lst ds',v,v',u,u',h,h',r,r',hu=>by cases(show v=_ from h);obtain⟨t,rfl⟩:=r;obtain⟨b,ys,rfl,h1',h2'⟩:=id h';cases r';obtain⟨its',_,p',_⟩:=I.list h1';exact RcAt.int_list _ t p'.isList (by omega)
 |.str w1,.non,v,v',u,u',h,h',r,r',hu=>by cases(show v=_ from h);obtain⟨t,rfl⟩:=r;cases(show v'=_ from h');cases r';exact RcAt.str_none _ t
 |.str w1,.bl w2,v,v',u,u',h,h',r,r',hu=>by cases(show v=_ from h);obtain⟨t,rfl⟩:=r;cases(show v'=_ from h');cases r';exact RcAt.str_bool _ t _
 |.str w1,.int w2,v,v',u,u',h,h',r,r',hu=>by cases(show v=_ from h);obtain⟨t,rfl⟩:=r;cases(show v'=_ from h');obtain⟨t',rfl⟩:=r';exact RcAt.str_int _ t _ t'
 |.str w1,.str w2,v,v',u,u',h,h',r,r',hu=>by cases(show v=_ from h);obtain⟨t,rfl⟩:=r;cases(show v'=_ from h');obtain⟨t',rfl⟩:=r';exact RcAt.str_str _ t _ t'
 |.str w1,.tup ds',v,v',u,u',h,h',r,r',hu=>by cases(show v=_ from h);obtain⟨t,rfl⟩:=r;obtain⟨b,ys,rfl,h1',h2'⟩:=id h';cases r';obtain⟨its',_,p',_⟩:=I.tuple h1';exact RcAt.str_tuple _ t p' (by omega)
 |.str w1,.lst ds',v,v',u,u',h,h',r,r',hu=>by cases(show v=_ from h);obtain⟨t,rfl⟩:=r;obtain⟨b,ys,rfl,h1',h2'⟩:=id h';cases r';obtain⟨its',_,p',_⟩:=I.list h1';exact RcAt.str_list _ t p'.isList (by omega)
 |.tup ds,.non,v,v',u,u',h,h',r,r',hu=>by obtain⟨a,xs,rfl,h1,h2⟩:=id h;cases r;cases(show v'=_ from h');cases r';obtain⟨its,_,p,_⟩:=I.tuple h1;exact RcAt.tuple_none p (by omega)
 |.tup ds,.bl w2,v,v',u,u',h,h',r,r',hu=>by obtain⟨a,xs,rfl,h1,h2⟩:=id h;cases r;cases(show v'=_ from h');cases r';obtain⟨its,_,p,_⟩:=I.tuple h1;exact RcAt.tuple_bool _ p (by omega)
 |.tup ds,.int w2,v,v',u,u',h,h',r,r',hu=>by obtain⟨a,xs,rfl,h1,h2⟩:=id h;cases r;cases(show v'=_ from h');obtain⟨t',rfl⟩:=r';obtain⟨its,_,p,_⟩:=I.tuple h1;exact RcAt.tuple_int _ t' p (by omega)
 |.tup ds,.str w2,v,v',u,u',h,h',r,r',hu=>by obtain⟨a,xs,rfl,h1,h2⟩:=id h;cases r;cases(show v'=_ from h');obtain⟨t',rfl⟩:=r';obtain⟨its,_,p,_⟩:=I.tuple h1;exact RcAt.tuple_str _ t' p (by omega)
 |.tup ds,.tup ds',v,v',u,u',h,h',r,r',hu=>by obtain⟨a,xs,rfl,h1,h2⟩:=id h;cases r;obtain⟨b,ys,rfl,h1',h2'⟩:=id h';cases r';rw[eqD];exact Inv.rcTup I A (fun i d d' x y u u' e1 e2 rx ry ru ru'=>Inv.BG I (hW ds) A.in1 d d' x y u u' rx ry ru ru' (ph e1) (by rw[hgt]at hu;show A.units+1+hW ds+1<cLine;omega)) h1 h2 h1' h2' (by omega)
 |.tup ds,.lst ds',v,v',u,u',h,h',r,r',hu=>by obtain⟨a,xs,rfl,h1,h2⟩:=id h;cases r;obtain⟨b,ys,rfl,h1',h2'⟩:=id h';cases r';obtain⟨its,_,p,_⟩:=I.tuple h1;obtain⟨its',_,p',_⟩:=I.list h1';exact RcAt.tuple_list p p'.isList (by omega)
 |.lst ds,.non,v,v',u,u',h,h',r,r',hu=>by obtain⟨a,xs,rfl,h1,h2⟩:=id h;cases r;cases(show v'=_ from h');cases r';obtain⟨its,_,p,_⟩:=I.list h1;exact RcAt.list_none p.isList (by omega)
 |.lst ds,.bl w2,v,v',u,u',h,h',r,r',hu=>by obtain⟨a,xs,rfl,h1,h2⟩:=id h;cases r;cases(show v'=_ from h');cases r';obtain⟨its,_,p,_⟩:=I.list h1;exact RcAt.list_bool _ p.isList (by omega)
 |.lst ds,.int w2,v,v',u,u',h,h',r,r',hu=>by obtain⟨a,xs,rfl,h1,h2⟩:=id h;cases r;cases(show v'=_ from h');obtain⟨t',rfl⟩:=r';obtain⟨its,_,p,_⟩:=I.list h1;exact RcAt.list_int _ t' p.isList (by omega)
 |.lst ds,.str w2,v,v',u,u',h,h',r,r',hu=>by obtain⟨a,xs,rfl,h1,h2⟩:=id h;cases r;cases(show v'=_ from h');obtain⟨t',rfl⟩:=r';obtain⟨its,_,p,_⟩:=I.list h1;exact RcAt.list_str _ t' p.isList (by omega)
 |.lst ds,.tup ds',v,v',u,u',h,h',r,r',hu=>by obtain⟨a,xs,rfl,h1,h2⟩:=id h;cases r;obtain⟨b,ys,rfl,h1',h2'⟩:=id h';cases r';obtain⟨its,_,p,_⟩:=I.list h1;obtain⟨its',_,p',_⟩:=I.tuple h1';exact RcAt.list_tuple p.isList p' (by omega)
 |.lst ds,.lst ds',v,v',u,u',h,h',r,r',hu=>by obtain⟨a,xs,rfl,h1,h2⟩:=id h;cases r;obtain⟨b,ys,rfl,h1',h2'⟩:=id h';cases r';rw[eqD];exact Inv.rcLst I A (fun i d d' x y u u' e1 e2 rx ry ru ru'=>Inv.BG I (hW ds) A.in1 d d' x y u u' rx ry ru ru' (ph e1) (by rw[hgt]at hu;show A.units+1+hW ds+1<cLine;omega)) h1 h2 h1' h2' (by omega)
theorem Inv.rcNeD(I:Inv X pins σ H s)(A:Around):∀(d d':D)(v v':V)(u u':Value),Rep X.K H d v->Rep X.K H d' v'->RelV v u->RelV v' u'->A.units+hgt d+1<cLine->RcNeAt A s u u' (!eqD d d')
 |.non,.non,v,v',u,u',h,h',r,r',hu=>by cases(show v=_ from h);cases r;cases(show v'=_ from h');cases r';exact RcNeAt.none_none
 |.non,.bl w2,v,v',u,u',h,h',r,r',hu=>by cases(show v=_ from h);cases r;cases(show v'=_ from h');cases r';exact RcNeAt.none_bool _
 |.non,.int w2,v,v',u,u',h,h',r,r',hu=>by cases(show v=_ from h);cases r;cases(show v'=_ from h');obtain⟨t',rfl⟩:=r';exact RcNeAt.none_int _ t'
 |.non,.str w2,v,v',u,u',h,h',r,r',hu=>by cases(show v=_ from h);cases r;cases(show v'=_ from h');obtain⟨t',rfl⟩:=r';exact RcNeAt.none_str _ t'
 |.non,.tup ds',v,v',u,u',h,h',r,r',hu=>by cases(show v=_ from h);cases r;obtain⟨b,ys,rfl,h1',h2'⟩:=id h';cases r';obtain⟨its',_,p',_⟩:=I.tuple h1';exact RcNeAt.none_tuple p' (by omega)
 |.non,.lst ds',v,v',u,u',h,h',r,r',hu=>by cases(show v=_ from h);cases r;obtain⟨b,ys,rfl,h1',h2'⟩:=id h';cases r';obtain⟨its',_,p',_⟩:=I.list h1';exact RcNeAt.none_list p'.isList (by omega)
 |.bl w1,.non,v,v',u,u',h,h',r,r',hu=>by cases(show v=_ from h);cases r;cases(show v'=_ from h');cases r';exact RcNeAt.bool_none _
 |.bl w1,.bl w2,v,v',u,u',h,h',r,r',hu=>by cases(show v=_ from h);cases r;cases(show v'=_ from h');cases r';exact RcNeAt.bool_bool _ _
 |.bl w1,.int w2,v,v',u,u',h,h',r,r',hu=>by cases(show v=_ from h);cases r;cases(show v'=_ from h');obtain⟨t',rfl⟩:=r';exact RcNeAt.bool_int _ _ t'
 |.bl w1,.str w2,v,v',u,u',h,h',r,r',hu=>by cases(show v=_ from h);cases r;cases(show v'=_ from h');obtain⟨t',rfl⟩:=r';exact RcNeAt.bool_str _ _ t'
 |.bl w1,.tup ds',v,v',u,u',h,h',r,r',hu=>by cases(show v=_ from h);cases r;obtain⟨b,ys,rfl,h1',h2'⟩:=id h';cases r';obtain⟨its',_,p',_⟩:=I.tuple h1';exact RcNeAt.bool_tuple _ p' (by omega)
 |.bl w1,.lst ds',v,v',u,u',h,h',r,r',hu=>by cases(show v=_ from h);cases r;obtain⟨b,ys,rfl,h1',h2'⟩:=id h';cases r';obtain⟨its',_,p',_⟩:=I.list h1';exact RcNeAt.bool_list _ p'.isList (by omega)
 |.int w1,.non,v,v',u,u',h,h',r,r',hu=>by cases(show v=_ from h);obtain⟨t,rfl⟩:=r;cases(show v'=_ from h');cases r';exact RcNeAt.int_none _ t
 |.int w1,.bl w2,v,v',u,u',h,h',r,r',hu=>by cases(show v=_ from h);obtain⟨t,rfl⟩:=r;cases(show v'=_ from h');cases r';exact RcNeAt.int_bool _ t _
 |.int w1,.int w2,v,v',u,u',h,h',r,r',hu=>by cases(show v=_ from h);obtain⟨t,rfl⟩:=r;cases(show v'=_ from h');obtain⟨t',rfl⟩:=r';exact RcNeAt.int_int _ t _ t'
 |.int w1,.str w2,v,v',u,u',h,h',r,r',hu=>by cases(show v=_ from h);obtain⟨t,rfl⟩:=r;cases(show v'=_ from h');obtain⟨t',rfl⟩:=r';exact RcNeAt.int_str _ t _ t'
 |.int w1,.tup ds',v,v',u,u',h,h',r,r',hu=>by cases(show v=_ from h);obtain⟨t,rfl⟩:=r;obtain⟨b,ys,rfl,h1',h2'⟩:=id h';cases r';obtain⟨its',_,p',_⟩:=I.tuple h1';exact RcNeAt.int_tuple _ t p' (by omega)
 |.int w1,.lst ds',v,v',u,u',h,h',r,r',hu=>by cases(show v=_ from h);obtain⟨t,rfl⟩:=r;obtain⟨b,ys,rfl,h1',h2'⟩:=id h';cases r';obtain⟨its',_,p',_⟩:=I.list h1';exact RcNeAt.int_list _ t p'.isList (by omega)
 |.str w1,.non,v,v',u,u',h,h',r,r',hu=>by cases(show v=_ from h);obtain⟨t,rfl⟩:=r;cases(show v'=_ from h');cases r';exact RcNeAt.str_none _ t
 |.str w1,.bl w2,v,v',u,u',h,h',r,r',hu=>by cases(show v=_ from h);obtain⟨t,rfl⟩:=r;cases(show v'=_ from h');cases r';exact RcNeAt.str_bool _ t _
 |.str w1,.int w2,v,v',u,u',h,h',r,r',hu=>by cases(show v=_ from h);obtain⟨t,rfl⟩:=r;cases(show v'=_ from h');obtain⟨t',rfl⟩:=r';exact RcNeAt.str_int _ t _ t'
 |.str w1,.str w2,v,v',u,u',h,h',r,r',hu=>by cases(show v=_ from h);obtain⟨t,rfl⟩:=r;cases(show v'=_ from h');obtain⟨t',rfl⟩:=r';exact RcNeAt.str_str _ t _ t'
 |.str w1,.tup ds',v,v',u,u',h,h',r,r',hu=>by cases(show v=_ from h);obtain⟨t,rfl⟩:=r;obtain⟨b,ys,rfl,h1',h2'⟩:=id h';cases r';obtain⟨its',_,p',_⟩:=I.tuple h1';exact RcNeAt.str_tuple _ t p' (by omega)
 |.str w1,.lst ds',v,v',u,u',h,h',r,r',hu=>by cases(show v=_ from h);obtain⟨t,rfl⟩:=r;obtain⟨b,ys,rfl,h1',h2'⟩:=id h';cases r';obtain⟨its',_,p',_⟩:=I.list h1';exact RcNeAt.str_list _ t p'.isList (by omega)
 |.tup ds,.non,v,v',u,u',h,h',r,r',hu=>by obtain⟨a,xs,rfl,h1,h2⟩:=id h;cases r;cases(show v'=_ from h');cases r';obtain⟨its,_,p,_⟩:=I.tuple h1;exact RcNeAt.tuple_none p (by omega)
 |.tup ds,.bl w2,v,v',u,u',h,h',r,r',hu=>by obtain⟨a,xs,rfl,h1,h2⟩:=id h;cases r;cases(show v'=_ from h');cases r';obtain⟨its,_,p,_⟩:=I.tuple h1;exact RcNeAt.tuple_bool _ p (by omega)
 |.tup ds,.int w2,v,v',u,u',h,h',r,r',hu=>by obtain⟨a,xs,rfl,h1,h2⟩:=id h;cases r;cases(show v'=_ from h');obtain⟨t',rfl⟩:=r';obtain⟨its,_,p,_⟩:=I.tuple h1;exact RcNeAt.tuple_int _ t' p (by omega)
 |.tup ds,.str w2,v,v',u,u',h,h',r,r',hu=>by obtain⟨a,xs,rfl,h1,h2⟩:=id h;cases r;cases(show v'=_ from h');obtain⟨t',rfl⟩:=r';obtain⟨its,_,p,_⟩:=I.tuple h1;exact RcNeAt.tuple_str _ t' p (by omega)
 |.tup ds,.tup ds',v,v',u,u',h,h',r,r',hu=>by obtain⟨a,xs,rfl,h1,h2⟩:=id h;cases r;obtain⟨b,ys,rfl,h1',h2'⟩:=id h';cases r';rw[eqD];exact Inv.neTup I A (fun i d d' x y u u' e1 e2 rx ry ru ru'=>Inv.BG I (hW ds) A.in1 d d' x y u u' rx ry ru ru' (ph e1) (by rw[hgt]at hu;show A.units+1+hW ds+1<cLine;omega)) h1 h2 h1' h2' (by omega)
 |.tup ds,.lst ds',v,v',u,u',h,h',r,r',hu=>by obtain⟨a,xs,rfl,h1,h2⟩:=id h;cases r;obtain⟨b,ys,rfl,h1',h2'⟩:=id h';cases r';obtain⟨its,_,p,_⟩:=I.tuple h1;obtain⟨its',_,p',_⟩:=I.list h1';exact RcNeAt.tuple_list p p'.isList (by omega)
 |.lst ds,.non,v,v',u,u',h,h',r,r',hu=>by obtain⟨a,xs,rfl,h1,h2⟩:=id h;cases r;cases(show v'=_ from h');cases r';obtain⟨its,_,p,_⟩:=I.list h1;exact RcNeAt.list_none p.isList (by omega)
 |.lst ds,.bl w2,v,v',u,u',h,h',r,r',hu=>by obtain⟨a,xs,rfl,h1,h2⟩:=id h;cases r;cases(show v'=_ from h');cases r';obtain⟨its,_,p,_⟩:=I.list h1;exact RcNeAt.list_bool _ p.isList (by omega)
 |.lst ds,.int w2,v,v',u,u',h,h',r,r',hu=>by obtain⟨a,xs,rfl,h1,h2⟩:=id h;cases r;cases(show v'=_ from h');obtain⟨t',rfl⟩:=r';obtain⟨its,_,p,_⟩:=I.list h1;exact RcNeAt.list_int _ t' p.isList (by omega)
 |.lst ds,.str w2,v,v',u,u',h,h',r,r',hu=>by obtain⟨a,xs,rfl,h1,h2⟩:=id h;cases r;cases(show v'=_ from h');obtain⟨t',rfl⟩:=r';obtain⟨its,_,p,_⟩:=I.list h1;exact RcNeAt.list_str _ t' p.isList (by omega)
 |.lst ds,.tup ds',v,v',u,u',h,h',r,r',hu=>by obtain⟨a,xs,rfl,h1,h2⟩:=id h;cases r;obtain⟨b,ys,rfl,h1',h2'⟩:=id h';cases r';obtain⟨its,_,p,_⟩:=I.list h1;obtain⟨its',_,p',_⟩:=I.tuple h1';exact RcNeAt.list_tuple p.isList p' (by omega)
 |.lst ds,.lst ds',v,v',u,u',h,h',r,r',hu=>by obtain⟨a,xs,rfl,h1,h2⟩:=id h;cases r;obtain⟨b,ys,rfl,h1',h2'⟩:=id h';cases r';rw[eqD];exact Inv.neLst I A (fun i d d' x y u u' e1 e2 rx ry ru ru'=>Inv.BG I (hW ds) A.in1 d d' x y u u' rx ry ru ru' (ph e1) (by rw[hgt]at hu;show A.units+1+hW ds+1<cLine;omega)) h1 h2 h1' h2' (by omega)
noncomputable def rEqD(K:ae):R2:=fun x y H Q=>∃d d',Rep K H d x/\Rep K H d' y/\hgt d<=30/\Q (.bl (eqD d d')) H
noncomputable def rNeD(K:ae):R2:=fun x y H Q=>∃d d',Rep K H d x/\Rep K H d' y/\hgt d<=30/\Q (.bl (!eqD d d')) H
theorem op_eqD(hu:X.A.units+40<cLine):OpR X (dg .Eq) (rEqD X.K):=by
 intro pins s σ H x y v u Q I rx ry h;obtain⟨d,d',h1,h2,hd,q⟩:=h;exact I.rcD X.A d d' x y v u h1 h2 rx ry (by omega) _ _ _ _ (rT I q rfl)
theorem op_neD(hu:X.A.units+40<cLine):OpR X (dg .NotEq) (rNeD X.K):=by
 intro pins s σ H x y v u Q I rx ry h;obtain⟨d,d',h1,h2,hd,q⟩:=h;exact I.rcNeD X.A d d' x y v u h1 h2 rx ry (by omega) _ _ _ _ (rT I q rfl)
end
end L2
namespace Q
open PySem PySem.W PyProof.Rows
noncomputable def run{α:Type}(lt:Nat->Nat->Bool):KasT α->α
 |.ret a=>a
 |.ask i j k=>run lt (k (lt i j))
theorem run_bind{α β:Type}(lt:Nat->Nat->Bool)(f:α->KasT β):∀t:KasT α,run lt (t.bind f)=run lt (f (run lt t))
 |.ret a=>rfl
 |.ask i j k=>run_bind lt f (k (lt i j))
noncomputable def okT{α:Type}(lt:Nat->Nat->Bool)(n:Nat):KasT α->Prop
 |.ret _=>True
 |.ask i j k=>(i<n/\j<n/\i≠j)/\okT lt n (k (lt i j))
theorem lQ{α β:Type}{lt:Nat->Nat->Bool}{n:Nat}{f:α->KasT β}:∀{t:KasT α},okT lt n t->okT lt n (f (run lt t))->okT lt n (t.bind f)
 |.ret a,_,h=>h
 |.ask i j k,h,h'=>⟨h.1,lQ h.2 h'⟩
structure Tot(lt:Nat->Nat->Bool)(n:Nat):Prop where
 tri:∀i j,i<n->j<n->i≠j->lt i j= !lt j i
 tr:∀i j k,i<n->j<n->k<n->lt i j=true->lt j k=true->lt i k=true
noncomputable abbrev at'(p:Array Nat)(i:Nat):Nat:=p.getD i 0
theorem BS(p:Array Nat)(i:Nat):at' p i=(p[i]?).getD 0:=by simp[at',Array.getD_eq_getD_getElem?]
structure Pm(p:Array Nat)(n:Nat):Prop where
 perm:p.Perm (aq n).toArray
theorem Pm.size{p:Array Nat}{n:Nat}(h:Pm p n):p.size=n:=by rw[h.perm.size_eq];simp
theorem Pm.lt{p:Array Nat}{n:Nat}(h:Pm p n){i:Nat}(hi:i<n):at' p i<n:=by
 have hs:i<p.size:=by rw[h.size];exact hi
 have e:at' p i=p[i]:=by simp[at',hs]
 have m:p[i]∈(aq n).toArray:=h.perm.mem_iff.mp (Array.getElem_mem hs);rw[e];simpa using m
theorem Pm.inj{p:Array Nat}{n:Nat}(h:Pm p n){i j:Nat}(hi:i<n)(hj:j<n)(e:at' p i=at' p j):i=j:=by
 have hsi:i<p.size:=by rw[h.size];exact hi
 have hsj:j<p.size:=by rw[h.size];exact hj
 have nd:p.toList.Nodup:=by
  have q:p.toList.Perm (aq n):=by simpa using gA.mp h.perm
  exact q.nodup_iff.mpr fq
 have e1:at' p i=p.toList[i]'(by simpa using hsi):=by simp[at',hsi]
 have e2:at' p j=p.toList[j]'(by simpa using hsj):=by simp[at',hsj]
 rw[e1,e2]at e;exact(cW nd).mp e
theorem GV{p:Array Nat}{i j:Nat}(hj:j<=p.size)(k:Nat):at' (w6 p i j) k=if i<=k/\k<j then at' p (i+j-1-k)else at' p k:=by
 rw[BS];unfold w6;rw[getElem?_mirror_all hj];split <;>rw[BS]
theorem GX{p:Array Nat}{src d:Nat}(hs:src<p.size)(hd:d<=src)(k:Nat):at' (bubble p src d) k=if k=src-d then at' p src else if src-d<k/\k<=src then at' p (k-1)else at' p k:=by
 rw[BS,getElem?_bubble hs d hd];split
 ·simp[at',hs]
 ·split <;>rw[BS]
theorem Pm.rev{p:Array Nat}{n i j:Nat}(h:Pm p n):Pm (w6 p i j) n:=⟨(mirror_perm _ _ _ _).trans h.perm⟩
theorem Pm.bub{p:Array Nat}{n i j:Nat}(h:Pm p n):Pm (bubble p i j) n:=⟨(bubble_perm _ _ _).trans h.perm⟩
noncomputable def Up(lt:Nat->Nat->Bool)(p:Array Nat)(m:Nat):Prop:=∀i j,i<j->j<m->lt (at' p i) (at' p j)=true
noncomputable def Dn(lt:Nat->Nat->Bool)(p:Array Nat)(m:Nat):Prop:=∀i j,i<j->j<m->lt (at' p j) (at' p i)=true
section
variable {lt:Nat->Nat->Bool}{N:Nat}{p:Array Nat}
theorem Tot.flip(T:Tot lt N)(P:Pm p N){i j:Nat}(hi:i<N)(hj:j<N)(n:i≠j)(h:lt (at' p i) (at' p j)=false):lt (at' p j) (at' p i)=true:=by
 have q:=T.tri _ _ (P.lt hi) (P.lt hj) fun e=>n (P.inj hi hj e);rw[h]at q;simpa using q.symm
theorem Pm.ask{p:Array Nat}(P:Pm p N){i j:Nat}(hi:i<N)(hj:j<N)(n:i≠j):at' p i<N/\at' p j<N/\at' p i≠at' p j:=⟨P.lt hi,P.lt hj,fun e=>n (P.inj hi hj e)⟩
theorem Up.succ(T:Tot lt N)(P:Pm p N){n:Nat}(h1:1<=n)(hn:n<N)(u:Up lt p n)(h:lt (at' p (n-1)) (at' p n)=true):Up lt p (n+1):=by
 intro i j hij hj;by_cases e:j=n
 ·subst e
  by_cases e2:i=j-1
  ·subst e2;exact h
  ·exact T.tr _ _ _ (P.lt (by omega)) (P.lt (by omega)) (P.lt hn) (u i (j-1) (by omega) (by omega)) h
 ·exact u i j hij (by omega)
theorem Dn.succ(T:Tot lt N)(P:Pm p N){n:Nat}(h1:1<=n)(hn:n<N)(u:Dn lt p n)(h:lt (at' p n) (at' p (n-1))=true):Dn lt p (n+1):=by
 intro i j hij hj;by_cases e:j=n
 ·subst e
  by_cases e2:i=j-1
  ·subst e2;exact h
  ·exact T.tr _ _ _ (P.lt hn) (P.lt (by omega)) (P.lt (by omega)) h (u i (j-1) (by omega) (by omega))
 ·exact u i j hij (by omega)
theorem vM(T:Tot lt N)(P:Pm p N):∀(f n:Nat),1<=n->n+f<=N->Up lt p n->∃m,run lt (kas_asc p f n)=m/\n<=m/\m<=n+f/\Up lt p m/\(m=n+f\/lt (at' p m) (at' p (m-1))=true)/\okT lt N (kas_asc p f n)
 | 0,n,h1,h2,u=>⟨n,rfl,ax _,ax _,u,.inl rfl,trivial⟩
 |f+1,n,h1,h2,u=>by
  unfold kas_asc;have hask:=P.ask (i:=n) (j:=n-1) (by omega) (by omega) (by omega);simp only[run,okT];by_cases c:lt (at' p n) (at' p (n-1))=true
  ·rw[if_pos c]
   exact⟨n,rfl,ax _,by omega,u,.inr c,hask,trivial⟩
  ·rw[if_neg c]
   have c':lt (at' p n) (at' p (n-1))=false:=by simpa using c
   obtain⟨m,e,a1,a2,a3,a4,a5⟩:=vM T P f (n+1) (by omega) (by omega) (u.succ T P h1 (by omega) (T.flip P (by omega) (by omega) (by omega) c'));refine⟨m,e,by omega,by omega,a3,?_,hask,a5⟩;rcases a4 with z|z
   ·exact .inl (by omega)
   ·exact .inr z
theorem xH(T:Tot lt N)(P:Pm p N):∀(f n:Nat),1<=n->n+f<=N->Dn lt p n->∃m,run lt (kas_desc f p n 0)=(p,m,0)/\n<=m/\m<=n+f/\Dn lt p m/\okT lt N (kas_desc f p n 0)
 | 0,n,h1,h2,u=>⟨n,rfl,ax _,ax _,u,trivial⟩
 |f+1,n,h1,h2,u=>by
  unfold kas_desc;have hask:=P.ask (i:=n) (j:=n-1) (by omega) (by omega) (by omega);have hask2:=P.ask (i:=n-1) (j:=n) (by omega) (by omega) (by omega);simp only[run,okT];by_cases c:lt (at' p n) (at' p (n-1))=true
  ·rw[if_pos c,if_neg (d5 0)]
   obtain⟨m,e,a1,a2,a3,a4⟩:=xH T P f (n+1) (by omega) (by omega) (u.succ T P h1 (by omega) c);exact⟨m,e,by omega,by omega,a3,hask,a4⟩
  ·rw[if_neg c]
   have c':lt (at' p n) (at' p (n-1))=false:=by simpa using c
   have d:=T.flip P (by omega) (by omega) (by omega) c';simp only[run,okT];rw[if_pos d];exact⟨n,rfl,ax _,by omega,u,hask,hask2,trivial⟩
theorem ER(T:Tot lt N)(P:Pm p N){n:Nat}(h1:1<=n)(hn:n<=N)(u:Dn lt p n):∃m p',run lt (kas_tail3 n N p)=(m,p')/\1<=m/\m<=N/\Up lt p' m/\Pm p' N/\okT lt N (kas_tail3 n N p):=by
 have u':Up lt (w6 p 0 n) n:=by
  intro i j hij hj;rw[GV (by rw[P.size];exact hn),GV (by rw[P.size];exact hn),if_pos ⟨bf _,by omega⟩,if_pos ⟨bf _,hj⟩];exact u _ _ (by omega) (by omega)
 obtain⟨m,e,a1,a2,a3,_,a5⟩:=vM T P.rev (N-n) n h1 (by omega) u';unfold kas_tail3;refine⟨m,w6 p 0 n,?_,by omega,by omega,a3,P.rev,lQ a5 trivial⟩;rw[run_bind,e];rfl
theorem vL(T:Tot lt N)(P:Pm p N){n:Nat}(hn:n+1<=N)(u:Dn lt p (n+1)):∃m p',run lt (iW n N p)=(m,p')/\1<=m/\m<=N/\Up lt p' m/\Pm p' N/\okT lt N (iW n N p):=by
 obtain⟨m,e,a1,a2,a3,a4⟩:=xH T P (N-(n+1)) (n+1) (by omega) (by omega) u;obtain⟨m2,p2,b1,b2,b3,b4,b5,b6⟩:=ER T P (by omega) (by omega) a3;unfold iW;refine⟨m2,p2,?_,b2,b3,b4,b5,lQ a4 ?_⟩
 ·rw[run_bind,e]
  exact b1
 ·rw[e]
  exact b6
theorem Cq(T:Tot lt N)(P:Pm p N)(hN:1<=N):∃m p',run lt (kas_count N p)=(m,p')/\1<=m/\m<=N/\Up lt p' m/\Pm p' N/\okT lt N (kas_count N p):=by
 obtain⟨m,e,a1,a2,a3,a4,a5⟩:=vM T P (N-1) 1 (ax _) (by omega) (fun i j hij hj=>by omega);have hmid:∃m' p',run lt (if(m==N)=true then qH (m,p)else if m>1 then KasT.ask (p.getD 0 0) (p.getD (m-1) 0) fun c=>if c=true then qH (m,p)else iW m N (w6 p 0 m)else iW m N p)=(m',p')/\1<=m'/\m'<=N/\Up lt p' m'/\Pm p' N/\
   okT lt N (if(m==N)=true then qH (m,p)else if m>1 then KasT.ask (p.getD 0 0) (p.getD (m-1) 0) fun c=>if c=true then qH (m,p)else iW m N (w6 p 0 m)else iW m N p):=by
  by_cases c:m=N
  ·rw[if_pos (by simpa using c)]
   exact⟨m,p,rfl,a1,by omega,a3,P,trivial⟩
  ·rw[if_neg (by simpa using c)]
   by_cases d:m>1
   ·rw[if_pos d]
    simp only[run,okT];rw[if_pos (a3 0 (m-1) (by omega) (by omega))];exact⟨m,p,rfl,a1,by omega,a3,P,P.ask (by omega) (by omega) (by omega),trivial⟩
   ·rw[if_neg d]
    obtain rfl:m=1:=by omega
    rcases a4 with z|z
    ·omega
    ·exact vL T P (by omega) fun i j hij hj=>by
      obtain rfl:j=1:=by omega
      obtain rfl:i=0:=by omega
      exact z
 obtain⟨m',p',b1,b2,b3,b4,b5,b6⟩:=hmid;unfold kas_count;refine⟨m',p',?_,b2,b3,b4,b5,lQ a5 ?_⟩
 ·rw[run_bind,e]
  exact b1
 ·rw[e]
  exact b6
theorem oW(T:Tot lt N)(P:Pm p N){k:Nat}(hk:k<N)(u:Up lt p k):∀(f l r:Nat),l<=r->r<=k->r-l<=f->(∀i,i<l->lt (at' p i) (at' p k)=true)->(∀i,r<=i->i<k->lt (at' p k) (at' p i)=true)->
  ∃q,run lt (kas_place p k f l r)=q/\q<=k/\(∀i,i<q->lt (at' p i) (at' p k)=true)/\(∀i,q<=i->i<k->lt (at' p k) (at' p i)=true)/\okT lt N (kas_place p k f l r)
 | 0,l,r,h1,h2,h3,a,b=>⟨l,rfl,by omega,a,fun i hi=>b i (by omega),trivial⟩
 |f+1,l,r,h1,h2,h3,a,b=>by
  unfold kas_place;by_cases c:l≥ r
  ·rw[if_pos c]
   exact⟨l,rfl,by omega,a,fun i hi=>b i (by omega),trivial⟩
  ·rw[if_neg c]
   have hask:=P.ask (i:=k) (j:=(l+r)/2) hk (by omega) (by omega);simp only[run,okT];by_cases d:lt (at' p k) (at' p ((l+r)/2))=true
   ·rw[if_pos d]
    have key:=oW T P hk u f l ((l+r)/2) (by omega) (by omega) (by omega) a fun i hi hik=>?_;obtain⟨q,y1,y2,y3,y4,y5⟩:=key;exact⟨q,y1,y2,y3,y4,hask,y5⟩;by_cases e:i=(l+r)/2
    ·rw[e];exact d
    ·exact T.tr _ _ _ (P.lt hk) (P.lt (by omega)) (P.lt (by omega)) d (u _ _ (by omega) hik)
   ·rw[if_neg d]
    have d':=T.flip P hk (by omega:(l+r)/2<N) (by omega) (by simpa using d);have key:=oW T P hk u f ((l+r)/2+1) r (by omega) h2 (by omega) (fun i hi=>?_) b;obtain⟨q,y1,y2,y3,y4,y5⟩:=key;exact⟨q,y1,y2,y3,y4,hask,y5⟩;by_cases e:i=(l+r)/2
    ·rw[e];exact d'
    ·exact T.tr _ _ _ (P.lt (by omega)) (P.lt (by omega)) (P.lt hk) (u _ _ (by omega) (by omega)) d'
end
theorem A1{lt:Nat->Nat->Bool}{N:Nat}(T:Tot lt N):∀(f k:Nat)(p:Array Nat),Pm p N->k+f=N->Up lt p k->∃p',run lt (kas_bin f p k)=p'/\Up lt p' N/\Pm p' N/\okT lt N (kas_bin f p k)
 | 0,k,p,P,h,u=>⟨p,rfl,by rw[<-h];exact u,P,trivial⟩
 |f+1,k,p,P,h,u=>by
  have hk:k<N:=by omega
  obtain⟨q,e,hq,a,b,okp⟩:=oW T P hk u k 0 k (bf _) (ax _) (by omega) (fun i hi=>absurd hi (fY _)) fun i h1 h2=>by omega
  have key:=A1 T f (k+1) (bubble p k (k-q)) P.bub (by omega) fun i j hij hj=>?_;obtain⟨p',y1,y2,y3,y4⟩:=key;unfold kas_bin;refine⟨p',?_,y2,y3,lQ okp ?_⟩
  ·rw[run_bind,e]
   exact y1
  ·rw[e]
   exact y4
  have hs:k<p.size:=by rw[P.size];exact hk
  rw[GX hs (by omega),GX hs (by omega)];have eq:k-(k-q)=q:=by omega
  rw[eq];by_cases c1:i=q
  ·rw[if_pos c1,if_neg (by omega),if_pos (by omega)]
   exact b _ (by omega) (by omega)
  ·rw[if_neg c1]
   by_cases c2:j=q
   ·rw[if_pos c2,if_neg (by omega)]
    exact a i (by omega)
   ·rw[if_neg c2]
    by_cases c3:q<i
    ·rw[if_pos (by omega),if_pos (by omega)]
     exact u _ _ (by omega) (by omega)
    ·rw[if_neg (by omega)]
     by_cases c4:q<j
     ·rw[if_pos (by omega)]
      exact u _ _ (by omega) (by omega)
     ·rw[if_neg (by omega)]
      exact u _ _ (by omega) (by omega)
theorem fv{lt:Nat->Nat->Bool}{N:Nat}(T:Tot lt N)(hN:1<=N):Pm (run lt (dB N)) N/\Up lt (run lt (dB N)) N/\okT lt N (dB N):=by
 have P0:Pm (dZ (aq N)) N:=⟨Array.Perm.refl _⟩;obtain⟨m,p',e,a1,a2,a3,a4,a5⟩:=Cq T P0 hN;have hm:max m 1=m:=by omega
 have hmid:∃p2,run lt (if m<N then kas_bin (N-max m 1) p' (max m 1)else qH p')=p2/\Up lt p2 N/\Pm p2 N/\okT lt N (if m<N then kas_bin (N-max m 1) p' (max m 1)else qH p'):=by
  rw[hm];by_cases c:m<N
  ·rw[if_pos c]
   exact A1 T (N-m) m p' a4 (by omega) a3
  ·rw[if_neg c]
   have e2:m=N:=by omega
   exact⟨p',rfl,by rw[<-e2];exact a3,a4,trivial⟩
 obtain⟨p2,b1,b2,b3,b4⟩:=hmid;have er:run lt (dB N)=p2:=by
  unfold dB;rw[run_bind,e];exact b1
 rw[er];refine⟨b3,b2,?_⟩;unfold dB;refine lQ a5 ?_;rw[e];exact b4
theorem wp_run{lt:Nat->Nat->Bool}{N:Nat}{S:Shared->Prop}{cmp:Nat->Nat->(Bool->Shared->Prop)->Shared->Prop}{α:Type}{G:α->Shared->Prop}
  (h:∀i j C s,i<N->j<N->i≠j->S s->(∀s',S s'->C (lt i j) s')->cmp i j C s):
  ∀(t:KasT α)(s:Shared),okT lt N t->S s->(∀s',S s'->G (run lt t) s')->t.kasWp cmp G s
 |.ret a,s,_,hs,g=>g s hs
 |.ask i j k,s,ok,hs,g=>h i j _ s ok.1.1 ok.1.2.1 ok.1.2.2 hs fun s' hs'=>wp_run h (k (lt i j)) s' ok.2 hs' g
end Q
namespace L2
open PySem PySem.Spec PyProof.Rows
structure Fly(h₀ h:Heap)(H:Hp)(pn:List (Addr×Obj))(a:Addr)(c:Value)(d:Option Addr):Prop where
 ex:∃T oe vs oT ts,h.get? a=some oe/\oe.cls=c/\oe.dict=d/\oe.data=.fields vs/\vs[1]? =some (.ref T)/\T≠a/\h.get? T=some oT/\oT.data=.fields ts/\ts[3]? =some .none/\h₀.get? T=none/\H T=none/\∀p∈pn,p.1≠T
 new:h₀.get? a=none
 un:H a=none
 pins:∀p∈pn,p.1≠a
noncomputable def CXx(P:Program)(w:World):CXT:=fun outer H s E e s'=>
 ∃a c d H',e=.ref a/\s'.os=s.os/\l9 s'.gens/\Un (frs outer) [] H H' s.heap s'.heap/\HOk P w H' s'.heap/\Fly s.heap s'.heap H' [] a c d/\E c d H'
section
variable {X:Cx}{pins:List (Addr×Obj)}{σ:St}{H:Hp}{s:Shared}
theorem Inv.vn{h':Heap}{t':Nat}{it:Addr}(I:Inv X pins σ H s)(k:∀b o,b≠it->s.heap.get? b=some o->h'.get? b=some o)(hn:H it=none)(hL:it≠X.env.locals)
  (h1:X.s₀.heap.get? it=none)(h2:∀x c,X.env.cells.lookup x=some c->c≠it)(h3:∀p∈X.pn++pins,p.1≠it):Inv X pins σ H {s with heap:=h',toks:=t'}:=by
 have ne0:∀b o,X.s₀.heap.get? b=some o->b≠it:=fun b o e z=>by rw[z,h1]at e;cases e
 have nit:∀b u,H b=some u->b≠it:=fun b u e z=>by rw[z,hn]at e;cases e
 refine⟨I.ok,I.os,I.bare,⟨fun b o e n hb hx=>k b o (ne0 b o e) (I.base.keep b o e n hb hx),fun b o e n hb hx=>?_,I.base.free,fun b o e hx=>?_,I.base.tups,I.base.frzs,I.base.tbls⟩,?_,fun x c e=>?_,I.free,I.freeC,fun p hp=>?_,fun b u e=>?_,I.len⟩
 ·obtain⟨sl,q⟩:=I.base.slot b o e n hb hx
  exact⟨sl,k _ _ (ne0 b o e) q⟩
 ·obtain⟨o',q⟩:=I.base.there b o e hx
  exact⟨o',k _ _ (ne0 b o e) q⟩
 ·obtain⟨m,⟨o,es,ep,ho,r⟩,hl⟩:=I.loc
  refine⟨m,⟨o,es,ep,k _ _ (bZ hL) ho,r⟩,fun i x v e1 e2 e3=>?_⟩;obtain⟨u,ru,l⟩:=hl i x v e1 e2 e3;refine⟨u,ru,?_⟩;rcases l with l|⟨kk,c,e,oc,q,dd⟩
  ·exact .inl l
  ·exact .inr ⟨kk,c,e,oc,k _ _ (h2 x c e) q,dd⟩
 ·obtain⟨v,oc,q,dd⟩:=I.cell x c e
  exact⟨v,oc,k _ _ (h2 x c e) q,dd⟩
 ·obtain⟨e,n,ne,nf,d⟩:=I.pin p hp
  exact⟨k _ _ (h3 p hp) e,n,ne,nf,d⟩
 ·refine(I.hok b u e).qR (fun c v hc q=>k c v ?_ q) (fun _ q=>q) fun _ _ q=>q
  rcases hc with z|z
  ·rw[z];exact nit b u e
  ·exact nit c _ z
theorem Inv.zZ(I:Inv X pins σ H s){a:Addr}{o:Obj}{vs:Array Value}(e:s.heap.get? a=some o)(hd:o.data=.fields vs):a≠X.env.locals/\∀x c,X.env.cells.lookup x=some c->c≠a:=by
 refine⟨fun z=>?_,fun x c hc z=>?_⟩
 ·obtain⟨m,⟨o',es,ep,ho',hd',_⟩,_⟩:=I.loc
  rw[<-z,e]at ho';cases ho';rw[hd]at hd';cases hd'
 ·obtain⟨v,o',ho',hd'⟩:=I.cell x c hc
  rw[z,e]at ho';cases ho';rw[hd]at hd';cases hd'
theorem dR.has{P:Program}{w:World}{H:Hp}{h:Heap}{a:Addr}{o:HO}(x:dR P w H h a o):∃ob,h.get? a=some ob:=by
 cases o with
 |lst xs=>obtain⟨_,_,_,_,e⟩:=x;exact⟨_,e⟩
 |tup xs=>obtain⟨_,_,_,_,e,_⟩:=x;exact⟨_,e⟩
 |dK kvs=>obtain⟨_,_,_,_,o,_,_,e,_⟩:=x;exact⟨_,e⟩
 |dT kvs=>obtain⟨_,_,_,_,o,_,_,e,_⟩:=x;exact⟨_,e⟩
 |set S n=>obtain⟨o,_,_,_,e,_⟩:=x;exact⟨_,e⟩
 |ins C dx fs=>obtain⟨_,_,_,e,_⟩:=x;exact⟨_,e⟩
 |own y=>exact x
 |xd fs=>obtain⟨_,⟨_,_,_,e,_⟩,_⟩:=x;exact⟨_,e⟩
 |rng lo hi=>obtain⟨_,_,_,e⟩:=x;exact⟨_,e⟩
 |frz ob u=>obtain⟨e,_⟩:=x;exact⟨_,e⟩
 |tbl ps=>exact⟨_,x⟩
 |met f y=>exact⟨_,x⟩
 |ext φ=>exact x.2.1
section
variable {M:Model}{E:Value->Shared->Prop}{Q:Unit->Shared->Prop}
theorem enter{a:Addr}{oe:Obj}{vs:Array Value}{head:Value}{more:Bool}(I:Inv X pins σ H s)(stk:X.stack=X.env::X.outer)(hf:X.env.frame=some X.env.locals)
  (he:s.heap.get? a=some oe)(hd:oe.data=.fields vs)(hsz:1<vs.size)(h0:X.s₀.heap.get? a=none)(hH:H a=none)(hp:∀p∈X.pn++pins,p.1≠a)
  (h:∀s2,Inv X pins σ H s2->Fly X.s₀.heap s2.heap H (X.pn++pins) a oe.cls oe.dict->Q () s2):
  wpAny M X.A (do let f<-frameOf X.env;let l<-entryPlaceOf X.env.locals more;let b<-zj head f .none (rawInt X.env.locals) .none l;nj (.ref a) 1 b)
   (fun _ s'=>wpAny M X.A (zb (.ref a) none) Q E s') E s:=by
 have hfr:X.A.frames=some (X.env::X.outer):=by rw[<-stk];exact I.ok.frames
 have hl:s.heap.FunFrames X.base (X.env::X.outer):=by rw[<-stk];exact I.stack
 have nofr:∀b∈frs X.stack,H b=none:=I.vt;refine aa (wpAny_frameOf_fun hfr hl hf fun h1 hs=>?_);have hs':Heap.SlotsOnly (frs X.stack) s.heap h1:=by rw[stk];exact hs
 have hane:a∉frs X.stack:=fun hm=>by
  rw[stk]at hm;obtain⟨_,o,ho,hnf⟩:=hl.mem hm;rw[he]at ho;cases ho;exact hnf vs hd
 have u1:Un (frs X.stack) [] H H s.heap h1:=
  ⟨fun b o e _ hb _=>(hs'.2.1 b hb).trans e,fun b o e _ _ _=>hs'.2.2 b o e,fun _ _ _ n _=>n,fun b o e _=>let⟨sl,q⟩:=hs'.2.2 b o e;⟨_,q⟩,fun _ _ q=>q,fun _ _ _ q=>q,fun _ ps q=>⟨#[],by rw[q];simp⟩⟩
 have k1:HOk X.prog X.w H h1:=fun b u e=>by
  refine(I.hok b u e).qR (fun c v hc q=>(hs'.2.1 c fun hm=>?_).trans q) (fun _ q=>q) fun _ _ q=>q;have n:=nofr c hm;rcases hc with z|z
  ·rw[z,e]at n;cases n
  ·rw[z]at n;cases n
 have I1:Inv X pins σ H {s with heap:=h1}:=I.call (g':=s.gens) (t':=s.toks) (d':=s.drawn) (ch:=[]) u1 k1 I.bare fun _ z=>nomatch z;have he1:h1.get? a=some oe:=(hs'.2.1 a hane).trans he;refine aa (wpAny_entryPlaceOf fun pl hpl=>?_);unfold zj newFields;refine aa (b8 ?_ (hpl.sizeOk5 _ _ _ _ _));generalize hob:({cls:=.type "traceback",dict:=none,data:=.fields ([head,.ref X.env.locals,.none,rawInt X.env.locals,.none]++(if pl.isEmpty then aT 6 bo else pl)).toArray}:Obj)=ob;have hodata:ob.data=.fields ([head,.ref X.env.locals,.none,rawInt X.env.locals,.none]++(if pl.isEmpty then aT 6 bo else pl)).toArray:=by rw[<-hob]
 have hofree:ob.isFreed=false:=by rw[<-hob];rfl
 have I2:Inv X pins σ H {s with heap:=h1.push ob}:=I1.kept (t':=s.toks) fun b o e=>ag _ e;have he2:(h1.push ob).get? a=some oe:=ag _ he1;have hT2:(h1.push ob).get? h1.objs.size=some ob:=au _ hofree;have hTa:h1.objs.size≠a:=cz (aw he1);have hd3:=ie hd (·.setIfInBounds 1 (bz h1.objs.size));refine qj he2 hd hsz ?_;obtain⟨ra1,ra2⟩:=I.zZ he hd;have I3:Inv X pins σ H {s with heap:=(h1.push ob).update a (hO (·.setIfInBounds 1 (.ref h1.objs.size)))}:=
  I2.vn (t':=s.toks) (fun b o hb e=>by rw[aE _ _ (bZ hb)];exact e) hH ra1 h0 ra2 hp
 have he3:=bA (hO (·.setIfInBounds 1 (bz h1.objs.size))) he2 (nv hd3);have hT3:((h1.push ob).update a (hO (·.setIfInBounds 1 (bz h1.objs.size)))).get? h1.objs.size=some ob:=by
  rw[aE _ _ (bZ hTa)];exact hT2
 have hszT:3<([head,.ref X.env.locals,.none,rawInt X.env.locals,.none]++(if pl.isEmpty then aT 6 bo else pl)).toArray.size:=by
  simp only[av,cu,ba,mi];omega
 have hv1:(vs.setIfInBounds 1 (bz h1.objs.size))[1]? =some (.ref h1.objs.size):=by simp[hsz]
 refine wpAny_setFlight_none he3 hd3 hv1 hT3 hodata hszT ?_;have hTle:s.heap.objs.size<=h1.objs.size:=sT hs.1.symm;have hT0:X.s₀.heap.get? h1.objs.size=none:=D4 (aI I.sz hTle);have hTH:H h1.objs.size=none:=I.hok.fresh hTle;obtain⟨rt1,rt2⟩:=I3.zZ hT3 hodata;have hpT:∀p∈X.pn++pins,p.1≠h1.objs.size:=fun p hq z=>by
  have q:=aw (I.pin p hq).1;exact absurd (bh (z▸q) hTle) (d5 _)
 have I4:=I3.vn (t':=s.toks) (h':=((h1.push ob).update a (hO (·.setIfInBounds 1 (.ref h1.objs.size)))).update h1.objs.size (hO (·.setIfInBounds 3 .none)))
  (fun b o hb e=>by rw[aE _ _ (bZ hb)];exact e) hTH rt1 hT0 rt2 hpT
 refine h _ I4 ⟨⟨h1.objs.size,_,_,_,_,?_,Obj.cls_mapFields _ _,?_,hd3,hv1,hTa,bA _ hT3 (nv (ie hodata _)),ie hodata _,?_,hT0,hTH,hpT⟩,h0,hH,hp⟩
 ·show(Heap.update _ _ _).get? a=_
  rw[aE _ _ hTa];exact he3
 ·obtain⟨c',d',dt',sl'⟩:=oe
  cases dt'<;>rfl
 ·rw[Array.getElem?_setIfInBounds_self_of_lt hszT]
theorem Fu{a:Addr}{c:Value}{args:List Value}{h':Heap}(I:Inv X pins σ H s)(stk:X.stack=X.env::X.outer)(hf:X.env.frame=some X.env.locals)(hx:X.ex=[])(hm:xp s.heap h' a c args)
  (h:∀s2,Inv X pins σ H s2->Fly X.s₀.heap s2.heap H (X.pn++pins) a c none->Q () s2):
  wpAny M X.A (kO (.ref a) X.env) (fun _ s'=>wpAny M X.A (zb (.ref a) none) Q E s') E {s with heap:=h'}:=by
 obtain⟨t,ht,_,_⟩:=hm.there;have I1:Inv X pins σ H {s with heap:=h'}:=I.kept (t':=s.toks) hm.keeps;have hH:H a=none:=by
  cases q:H a with
  |none=>rfl
  |some o=>
   obtain⟨ob,e⟩:=(I.hok a o q).has;rw[hm.new]at e;cases e
 unfold kO;simp only[hf];refine aa (dz (x:=.none) ht rfl (by rfl) ?_);rw[if_neg (show ¬(bo != bo)=true by simp)];have h0:X.s₀.heap.get? a=none:=by
  cases q:X.s₀.heap.get? a with
  |none=>rfl
  |some o=>
   obtain⟨o',e⟩:=I.base.there a o q (by rw[hx];simp);rw[hm.new]at e;cases e
 exact enter I1 stk hf ht rfl (by simp) h0 hH (fun p hp z=>by have :=(I.pin p hp).1;rw[z,hm.new]at this;cases this) h
theorem Fv{a:Addr}{c:Value}{d:Option Addr}{H':Hp}{s':Shared}(I:Inv X pins σ H s)(stk:X.stack=X.env::X.outer)(hf:X.env.frame=some X.env.locals)(hx:X.ex=[])(ho:s'.os=s.os)(hg:l9 s'.gens)(u:Un (frs X.stack) [] H H' s.heap s'.heap)(ok:HOk X.prog X.w H' s'.heap)
  (F:Fly s.heap s'.heap H' [] a c d)(h:∀s2,Inv X pins σ H' s2->Fly X.s₀.heap s2.heap H' (X.pn++pins) a c d->Q () s2):
  wpAny M X.A (kO (.ref a) X.env) (fun _ s'=>wpAny M X.A (zb (.ref a) none) Q E s') E s':=by
 obtain⟨⟨T,oe,vs,oT,ts,he,rfl,rfl,hd,h1,hTa,hT,hdT,h3,hnT,hHT,_⟩,hna,hHa,_⟩:=F;have I1:Inv X pins σ H' s':=I.call' (ch:=[]) ho u ok hg fun _ z=>nomatch z;have back:∀b,s.heap.get? b=none->X.s₀.heap.get? b=none:=fun b n=>by
  cases q:X.s₀.heap.get? b with
  |none=>rfl
  |some o=>
   obtain⟨o',e⟩:=I.base.there b o q (by rw[hx];simp);rw[n]at e;cases e
 have np:∀b,s.heap.get? b=none->∀p∈X.pn++pins,p.1≠b:=fun b n p hp z=>by have :=(I.pin p hp).1;rw[z,n]at this;cases this
 unfold kO;simp only[hf];refine aa (dz he hd h1 ?_);rw[if_pos (show(bz T != bo)=true by simp)];refine aa (dz hT hdT h3 ?_);rw[if_neg (show ¬(bo==rawInt X.env.locals)=true by simp[rawInt])];refine aa (qj hT hdT (dE.mp h3).1 ?_);obtain⟨rt1,rt2⟩:=I1.zZ hT hdT;have I2:=I1.vn (t':=s'.toks) (h':=s'.heap.update T (hO (·.setIfInBounds 3 .none))) (fun b o hb e=>by rw[aE _ _ (bZ hb)];exact e) hHT rt1 (back T hnT) rt2 (np T hnT);have he2:(s'.heap.update T (hO (·.setIfInBounds 3 .none))).get? a=some oe:=by rw[aE _ _ hTa];exact he
 exact enter I2 stk hf he2 hd (dE.mp h1).1 (back a hna) hHa (np a hna) h
end
end
end L2
namespace L2
open PySem PySem.Spec PySem.W PyProof.Rows
noncomputable def excOk(K:ae)(C:Addr):Bool:=
 findIn K (.ref C) "__getattribute__"==some (some (.builtin "BaseException.__getattribute__"))&&findIn K (.ref C) "__getattr__"==some none&&
 findIn K (.ref C) "__class__"==some (some (.builtin "object.__class__"))&&specialIn K (.builtin "object.__class__") "__get__"==some (some (.builtin "getset_descriptor.__get__"))&&
 takesIn K (.builtin "object.__class__")==some true&&mroIn K C (.type "object")==some true&&mroIn K C (.type "BaseException")==some true&&(clsIn K C).isSome
abbrev bmV:List Value:=[.type "ValueError",.type "Exception",.type "BaseException",.type "object"]
noncomputable def Gq(a:Addr)(c:Value)(d:Option Addr):HO:=.ext fun h=>∃o,h.get? a=some o/\o.cls=c/\o.dict=d/\notCls o=true
noncomputable abbrev excO(a:Addr)(c:Value):HO:=Gq a c none
section
variable {X:Cx}
theorem exc_obj{K:ae}{h:Heap}{C:Addr}{bmB:List Value}{newId:String}(kin:K.In h)(q:excIn K C bmB newId=true):
  ∃nm qn N bs bm hd sn sub ab col dd k0 k1 k2 k3 k5 mN,h.get? C=some (excClassObj nm qn C N bs bm hd sn sub ab col dd k0 k1 k2 k3 k5 newId)/\h.Ns N mN/\mN "__init__"=none/\OwnTail h bmB bm:=by
 unfold excIn at q;split at q
 case h_2=>cases q
 rename_i od cd sl ho;split at q
 case h_2=>cases q
 rename_i C' bm j0 j1 j2 j3 n j5 hm hs;rw[aj,aj,aj,aj,aj,beq_iff_eq,beq_iff_eq,beq_iff_eq]at q;obtain⟨⟨⟨⟨⟨e1,e2⟩,e3⟩,e4⟩,e5⟩,e6⟩:=q;subst e1;subst e2;obtain⟨c1,c2,c3,c4,c5,c6,c7,c8,c9,c10,c11⟩:=cd;have e7:c3=.ref C'::bm:=hm;have e8:c11=false:=by simpa using e3
 have e9:sl= #[j0,j1,j2,j3,some (.builtin n),j5]:=by
  apply Hl
  exact hs
 subst e7;subst e8;subst e9;exact⟨_,_,_,_,_,_,_,_,_,_,_,_,_,_,_,_,_,kin _ _ ho,.of_isNs (isNs_of_in kin e5),nsMap_none_of_in kin e5 e6,tail_of_in kin e4⟩
theorem E4{x:Str}{e:Expr}{es:List Expr}{t:TA}{C:Addr}{np cpos pos:Pos}{E:St->XK}(hg:Gl X x)(hm:X.mg x=some (.ref C))(hk:keepIn X.K (.ref C)=true)(hq:excIn X.K C bmV "ValueError.__new__"=true)(ha:PA X (e::es) t)(hc:X.calm=true)(hdb:(x==("__debug__":Str))=false)
  (hst:bc (e::es) X.env=(false,eval e X.env)::bc es X.env)(hpl:(backTo cpos (bc es X.env)).any (·.1)=false)
  (made:∀pins σ H s a c args h',Inv X pins σ H s->xp s.heap h' a c args->E σ c none H->X.xe (.ref a) {s with heap:=h'}):
  PS X (.Raise (some (.Call (.Name x np) (e::es) [] cpos)) none pos) (fun D σ H=>t σ H fun vs H1=>vs.length<=sizeLine/\E σ (.ref C) none H1):=by
 intro pins s σ H D I h;obtain⟨nm,qn,N,bs,bm,hd,sn,sub,ab,col,dd,k0,k1,k2,k3,k5,mN,hC,hN,hni,T⟩:=exc_obj (bmB:=bmV) I.mod.kin hq;have hbase:bm.contains (.type "BaseException")=true:=T.hasType (by decide+kernel);rw[arm_exec_Raise];show wpAny _ _ (do standAt pos;raiseStmt X.env (some (do let v<-eval (.Call (.Name x np) (e::es) [] cpos) X.env;standAt pos;pure v)) none) _ _ s;refine aa (jz (wpAny_raiseStmt_made_sub (C:=C) (nm:=nm) (q:=qn) (N:=N) (bs:=bs) (bm:=bm) (hdct:=hd) (sn:=sn) (sub:=sub) (ab:=ab) (col:=col) (dd:=dd) (k0:=k0) (k1:=k1) (k2:=k2) (k3:=k3) (k5:=k5) (newId:="ValueError.__new__") hbase (I.ok.hd hc) (aa (eD (Q:=fun v s1=>∃a u,v=.ref a/\s1.heap.get? C=some (excClassObj nm qn C N bs bm hd sn sub ab col dd k0 k1 k2 k3 k5 "ValueError.__new__")/\s1.heap.get? a=some {cls:=.ref C,data:=.fields #[.ref u,.none,.none,.none,.bool false,.none]}/\X.xe (.ref a) s1) (E:=X.xe) ?_ (fun v s1 z=>aa (jz (ai z))) fun _ _ z=>z))));refine eM (nW I hg hm ?_ hdb);refine oJ (h₀:=X.base) I.ok.mod.kin hk (thn (ha cpos pins s σ H _ I h) fun us s1 ⟨vs,H1,I1,r,hlen,q⟩=>⟨I1.kIn,?_⟩) hst hpl;have hC1:=I1.bk _ _ hC;obtain⟨hh,gg,dr,tk,os⟩:=s1;refine wpAny_call_exc_subT (hrest:=by rw[mh,<-r.length];exact hlen) PySem.F.excBase_ValueError (T.keeps I1.bk) hC1 (hN.keeps I1.bk) hni fun h' a hmk=>?_;obtain⟨u,hu,_,_⟩:=hmk.there;exact⟨a,u,rfl,hmk.keeps _ _ hC1,hu,made pins σ H1 _ a _ _ h' I1 hmk q⟩
end
noncomputable def Cx.re(X:Cx)(A:Around)(calm:Bool)(pn:List (Addr×Obj))(xe:Value->Shared->Prop):Cx:={X with A:=A,calm:=calm,pn:=pn,xe:=xe}
noncomputable def Ends.drop(D:Ends)(i:Nat):Ends:={nx:=fun σ H=>D.nx (σ.set i none) H,rt:=D.rt,bk:=fun σ H=>D.bk (σ.set i none) H,ct:=fun σ H=>D.ct (σ.set i none) H}
noncomputable def eCatch(K:ae)(C:Addr)(i:Nat)(ts:TS)(D:Ends):St->XK:=fun σ c d H=>
 c=c/\exmOne K c (.ref C)=some true/\∀a,H a=none->ts (D.drop i) (σ.set i (some (.ref a))) (upd H a (Gq a c d))
noncomputable def wCatch(X:Cx)(pins:List (Addr×Obj))(D:Ends)(hs:List ExceptHandler):Value->Shared->Prop:=fun e s1=>
 wpAny (model X.prog X.w) X.A (kO e X.env) (fun _ s2=>wpAny (model X.prog X.w) X.A (zb e none) (fun _ s3=>wpAny (model X.prog X.w) X.A (handleBy e X.env hs) (SP X pins D) X.xe s3) X.xe s2) X.xe s1
section
variable {X:Cx}{pins:List (Addr×Obj)}{σ:St}{H:Hp}{s:Shared}{x n:Str}{C:Addr}{i:Nat}{b₀:Stmt}{suite:List Stmt}{np hpos pos:Pos}{ts:TS}{D:Ends}
structure TryOk(X:Cx)(x n:Str)(C:Addr)(i:Nat)(suite:List Stmt)(ts:TS):Prop where
 nd:X.N.Nodup
 at_:X.N[i]? =some n
 loc:X.env.scope.names.lookup n=some .local
 gl:Gl X x
 mg:X.mg x=some (.ref C)
 db:(x==("__debug__":Str))=false
 stk:X.stack=X.env::X.outer
 fr:X.env.frame=some X.env.locals
 ex:X.ex=[]
 su:∀(pins:List (Addr×Obj))(a:Addr),PSs (X.re (X.A.mark (some (.ref a))) false (X.pn++pins) (fun _ _=>False)) suite ts
end
noncomputable abbrev XS:=St->XK
noncomputable abbrev N0:XS:=fun _=>E0
noncomputable def oF(CX:CXT)(X:Cx)(E:XS):Prop:=∀(pins:List (Addr×Obj))(σ:St)(H:Hp)(s:Shared)(e:Value)(s':Shared),Inv X pins σ H s->CX X.stack H s (E σ) e s'->X.xe e s'
noncomputable def MadeS(X:Cx)(E:XS):Prop:=∀(pins:List (Addr×Obj))(σ:St)(H:Hp)(s:Shared)(a:Addr)(c:Value)(args:List Value)(h':Heap),Inv X pins σ H s->xp s.heap h' a c args->E σ c none H->X.xe (.ref a) {s with heap:=h'}
section
variable {X:Cx}{CX:CXT}{k:Nat}{f:Addr}{fd:eN}{ps:List Str}{sp:Sp}{dvs:List V}{ds:List Value}{E:XS}{x:Str}{p pos:Pos}{e:Expr}{es:List Expr}{t:TA}
theorem qp{pins:List (Addr×Obj)}{σ:St}{H:Hp}{s:Shared}{Q:VK}{us:List Value}{vs:List V}(F:gY X.prog X.w X.K X.mg X.base CX k f fd ps sp)(hr:hZ k X.A)(hb:Binds X.K fd ps ds)(hd:bL dvs ds)(hx:oF CX X E)
  (I:Inv X pins σ H s)(r:bL vs us)(h:sp (vs++dvs) H Q (E σ)):wpAny (model X.prog X.w) X.A (call (.ref f) us) (EP X pins σ Q) X.xe s:=by
 have r2:bL (vs++dvs) (us++ds):=r.append hd;have hl:(us++ds).length=ps.length:=r2.length.symm.trans (F.len _ _ _ _ h);refine DE (iY (F.run X.A X.stack s H ⟨us,[]⟩ (us++ds) (vs++dvs) Q (E σ) hr I.env0 (hb s us I.kIn hl) r2 h) fun r s' hq=>?_);cases r with
 |error e=>exact hx pins σ H s e s' I hq
 |ok fl=>cases fl<;>first |exact I.after hq|exact gz hq
theorem xP(F:gY X.prog X.w X.K X.mg X.base CX k f fd ps sp)(hr:hZ k X.A)(hg:Gl X x)(hm:X.mg x=some (.ref f))(hk:bH X.K (.ref f)=true)(hb:Binds X.K fd ps ds)(hd:bL dvs ds)(hx:oF CX X E)
  (ha:PA X (e::es) t)(hdb:(x==("__debug__":Str))=false)(he:bc (e::es) X.env=(false,eval e X.env)::bc es X.env)(hpl:(backTo pos (bc es X.env)).any (·.1)=false):
  PE X (.Call (.Name x p) (e::es) [] pos) (fun σ H Q=>xD sp dvs (E σ) t σ H Q):=by
 intro pins s σ H Q I h;refine eM (nW I hg hm ?_ hdb);exact oJ (h₀:=X.base) I.ok.mod.kin hk (thn (ha pos pins s σ H _ I h) fun us s1 ⟨vs,H1,I1,r,q⟩=>⟨I1.kIn,qp F hr hb hd hx I1 r q⟩) he hpl
theorem ur(F:gY X.prog X.w X.K X.mg X.base CX k f fd ps sp)(hr:hZ k X.A)(hg:Gl X x)(hm:X.mg x=some (.ref f))(hk:bH X.K (.ref f)=true)(hb:Binds X.K fd ps ds)(hd:bL dvs ds)(hx:oF CX X E)
  (hdb:(x==("__debug__":Str))=false):PE X (.Call (.Name x p) [] [] pos) (fun σ H Q=>xD sp dvs (E σ) jC σ H Q):=by
 intro pins s σ H Q I h;refine eM (nW I hg hm ?_ hdb);exact nu I.kIn hk (qp (us:=[]) F hr hb hd hx I .nil h)
end
section
variable {P:Program}{w:World}{K:ae}{mg:Str->Option Value}{base:Heap}
theorem uY{N:List Str}{qual:Str}{scope:Scope}{f:Addr}{cd:Value}{A:Around}{outer:List Env}{s:Shared}{H:Hp}{E:XK}:
  oF (CXx P w) (tJ (CXx P w) P w K mg base N qual scope f cd A outer s H E) (fun _=>E):=by
 intro pins σ H1 s1 e s' I h;obtain⟨a,c,d,H',rfl,ho,hg,u,hok,F,q⟩:=h;show wpAny _ _ (leaving _ _) _ _ _;unfold leaving;refine aa (Fv I rfl rfl rfl ho hg u hok F fun s2 I2 F2=>?_);obtain⟨⟨T,oe,vs,oT,ts,h1,h2,h3,h4,h5,h6,h7,h8,h9,h10,h11,_⟩,b1,b2,_⟩:=F2;exact⟨a,c,d,H',rfl,I2.os,I2.bare,I2.base,I2.hok,⟨⟨T,oe,vs,oT,ts,h1,h2,h3,h4,h5,h6,h7,h8,h9,h10,h11,fun _ z=>nomatch z⟩,b1,b2,fun _ z=>nomatch z⟩,q⟩
theorem uZ{N:List Str}{qual:Str}{scope:Scope}{f:Addr}{cd:Value}{A:Around}{outer:List Env}{s:Shared}{H:Hp}{E:XK}:
  MadeS (tJ (CXx P w) P w K mg base N qual scope f cd A outer s H E) (fun _=>E):=by
 intro pins σ H1 s1 a c args h' I hm q;show wpAny _ _ (leaving _ _) _ _ _;unfold leaving;refine aa (Fu I rfl rfl rfl hm fun s2 I2 F2=>?_);obtain⟨⟨T,oe,vs,oT,ts,h1,h2,h3,h4,h5,h6,h7,h8,h9,h10,h11,_⟩,b1,b2,_⟩:=F2;exact⟨a,c,none,H1,rfl,I2.os,I2.bare,I2.base,I2.hok,⟨⟨T,oe,vs,oT,ts,h1,h2,h3,h4,h5,h6,h7,h8,h9,h10,h11,fun _ z=>nomatch z⟩,b1,b2,fun _ z=>nomatch z⟩,q⟩
theorem Dh{o:List Env}{H:Hp}{s:Shared}{e:Value}{s':Shared}(h:CXx P w o H s E0 e s'):False:=by
 obtain⟨_,_,_,_,_,_,_,_,_,_,q⟩:=h;exact q
theorem gY.calm{k:Nat}{f:Addr}{fd:eN}{ps:List Str}{sp:Sp}(F:gY P w K mg base (CXx P w) k f fd ps sp):gY P w K mg base CX0 k f fd ps (fun vs H Q _=>sp vs H Q E0):=
 ⟨fun vs H Q E h=>F.len vs H Q E0 h,fun A outer s H args us vs Q E hr he hb hv hs=>iY (F.run A outer s H args us vs Q E0 hr he hb hv hs) fun r s' q=>by
  cases r with
  |error e=>exact Dh q
  |ok fl=>cases fl<;>exact q⟩
end
end L2
namespace Q
open PySem PySem.Spec PySem.W PyProof.Rows L2
noncomputable def gu(lt:Nat->Nat->Bool)(vs:List Value):List Value:=if vs.length<2 then vs else(run lt (dB vs.length)).toList.map fun i=>vs.getD i .none
noncomputable def DC(prog:Program)(w:World)(A:Around)(lt:Nat->Nat->Bool)(vs:List Value)(h0:Heap):Prop:=
 ∀s1:Shared,(∀b o,h0.get? b=some o->s1.heap.get? b=some o)->
  ∃κ,(∀(Q':SortKind->Shared->Prop)(E':Value->Shared->Prop),Q' κ s1->wpAny (model prog w) A (keyKind' vs.toArray) Q' E' s1)/\
   ∀i j (C:Bool->Shared->Prop),i<vs.length->j<vs.length->i≠j->C (lt i j) s1->kas_ask prog w A κ vs i j C s1
section
variable {prog:Program}{w:World}{A:Around}{E:Value->Shared->Prop}{s:Shared}{lt:Nat->Nat->Bool}{vs:List Value}
theorem fJ{n:Nat}(h:n<64):n<=sizeLine:=by rw[iF];omega
theorem AW{n:Nat}(h:n<64):n<=sizeLine+1:=cN (fJ h)
theorem AV{a:Addr}{n:Nat}{h0:Heap}{P:dS->Shared->Prop}(T:Tot lt vs.length)(ho:s.heap.get? a=some (seqObj "list" vs.toArray n))(k0:∀b o,h0.get? b=some o->s.heap.get? b=some o/\b≠a)(h64:vs.length<64)
  (ask:2<=vs.length->DC prog w A lt vs h0)(h:P (.done (.ret .none)) {s with heap:=sortedHeap s.heap a vs (gu lt vs).toArray}):wpAny (model prog w) A (Builtin.«list.sort» ⟨[.ref a],[]⟩) P E s:=by
 have hv:vs.toArray.size=vs.length:=by simp
 obtain⟨c,hc⟩:∃c,(s.heap.update a (aS fun _=> #[])).get? a=some (seqObj "list" #[] c):=⟨_,oO ho _⟩;have hc':(((s.heap.update a (aS fun _=> #[])).push (seqObj "tuple" vs.toArray 0)).push (seqObj "list" #[] 0)).get? a=some (seqObj "list" #[] c):=ag _ (ag _ hc);have keep:∀b o,h0.get? b=some o->(((s.heap.update a (aS fun _=> #[])).push (seqObj "tuple" vs.toArray 0)).push (seqObj "list" #[] 0)).get? b=some o:=fun b o e=>
  ag _ (ag _ ((aE _ _ (bZ (k0 b o e).2)).trans (k0 b o e).1))
 rw[list_sort_plain];refine aa (listItems_at ho rfl (aa (fB ho rfl ?_ (by rw[hv];exact fJ h64) (bf _))));refine aa (qk hc rfl (aa (DD ?_ (show vs.length<=_ from fJ h64))));refine aa (me (bC ?_) (bf _));by_cases hn:vs.length<2
 ·have e:gu lt vs=vs:=if_pos hn
  rw[e]at h;dsimp only;rw[if_pos (by rw[hv];exact hn),if_pos (by rw[hv];exact hn)];refine aa (ai (aa ?_));rw[StateT.run_pure];refine ai (aa (qk hc' rfl (aa (fB hc' rfl ?_ (bf _) ?_))))
  ·have e2:(arrOf (SortSt.mk' general' (vs.toArray.zip vs.toArray) #[] 7 none)).map (·.2)=vs.toArray:=by
    show(vs.toArray.zip vs.toArray).map (·.2)=vs.toArray;apply Hl;simp[List.map_snd_zip]
   rw[e2];have e3:failedOf ((),SortSt.mk' general' (vs.toArray.zip vs.toArray) #[] 7 none).snd=none:=rfl;rw[e3];simp only[bne_self_eq_false,aJ,if_false];exact ai h
  ·show((vs.toArray.zip vs.toArray).map (·.2)).size<=_
   rw[Array.size_map,Array.size_zip,hv,sS];exact cN (fJ h64)
 ·have h2:2<=vs.length:=by omega
  have e:gu lt vs=(run lt (dB vs.length)).toList.map fun i=>vs.getD i .none:=if_neg hn;rw[e]at h;dsimp only;rw[if_neg (by rw[hv];exact hn),if_neg (by rw[hv];exact hn)];obtain⟨κ,hk1,hk2⟩:=ask h2 {s with heap:=((s.heap.update a (aS fun _=> #[])).push (seqObj "tuple" vs.toArray 0)).push (seqObj "list" #[] 0)} keep;obtain⟨P1,U1,O1⟩:=fv T (by omega:1<=vs.length);refine aa (hk1 _ _ (aa ?_));have key:=kat_run (prog:=prog) (w:=w) (A:=A) (E:=E) (κ:=κ) (ks:=vs) (vs:=vs) (s:={s with heap:=((s.heap.update a (aS fun _=> #[])).push (seqObj "tuple" vs.toArray 0)).push (seqObj "list" #[] 0)})
   (Q:=fun st' s'=>s'={s with heap:=((s.heap.update a (aS fun _=> #[])).push (seqObj "tuple" vs.toArray 0)).push (seqObj "list" #[] 0)}/\arrOf st'=(run lt (dB vs.length)).map (kas_item (vs.toArray.zip vs.toArray))/\failedOf st'=none)
   (G:=fun p s'=>s'={s with heap:=((s.heap.update a (aS fun _=> #[])).push (seqObj "tuple" vs.toArray 0)).push (seqObj "list" #[] 0)}/\p=run lt (dB vs.length)) rfl h2 h64
   (fun p st' s' _ e1 e2 e3=>⟨e3.1,by rw[e1,e3.2],e2⟩)
   (wp_run (S:=fun s'=>s'={s with heap:=((s.heap.update a (aS fun _=> #[])).push (seqObj "tuple" vs.toArray 0)).push (seqObj "list" #[] 0)}) (fun i j C s' hi hj hij hs hC=>by
    subst hs;exact hk2 i j C hi hj hij (hC _ rfl)) _ _ O1 rfl fun s' hs=>⟨hs,rfl⟩)
  refine eD key ?_ fun _ _ z=>z;rintro⟨⟨⟩,st'⟩ s' ⟨rfl,har,hf⟩;have hout:=kat_snds (ks:=vs) (vs:=vs) rfl har;dsimp only;rw[hout,hf];have hlen:(dZ ((run lt (dB vs.length)).toList.map fun i=>vs.getD i bo)).size<=sizeLine+1:=by
   rw[av,ao,bY,P1.size];exact cN (fJ h64)
  refine aa (qk hc' rfl (aa (fB hc' rfl ?_ (bf _) hlen)));simp only[bne_self_eq_false,aJ,if_false];exact ai h
theorem uc{l:Addr}{Q:Value->Shared->Prop}(T:Tot lt vs.length)(hl:s.heap.IsList l vs.toArray)(h64:vs.length<64)(ask:2<=vs.length->DC prog w A.in1.in1 lt vs s.heap)
  (h:Q (.ref (s.heap.objs.size+1)) {s with heap:=sortedAll s.heap vs (gu lt vs).toArray}):wpAny (model prog w) A (call (.builtin "sorted") [.ref l]) Q E s:=by
 refine j9 kind_sorted plain_sorted entry_sorted (args_sorted1 _) ?_;unfold Builtin.«sorted»;refine aa (m:=checkCount "sorted" 1 1 _) (ai (aa (collect_list hl (aa (me ?_ (show vs.length<=_ from fJ h64))) (fJ h64))));generalize hH:(s.heap.push (seqObj "list" #[] 0)).update s.heap.objs.size (aS (·++vs.toArray))=h1;have hz:h1.objs.size=s.heap.objs.size+1:=by rw[<-hH,fu,DI]
 have kp:∀b o,s.heap.get? b=some o->h1.get? b=some o:=fun b o e=>by
  have hb:=aw e;rw[<-hH,aE _ _ (cz hb)];exact ag _ e
 have hg:(h1.push (seqObj "list" vs.toArray 0)).get? (s.heap.objs.size+1)=some (seqObj "list" vs.toArray 0):=by
  rw[<-hz];exact au _ rfl
 have hq:sortedAll s.heap vs (gu lt vs).toArray=sortedHeap (h1.push (seqObj "list" vs.toArray 0)) (s.heap.objs.size+1) vs (gu lt vs).toArray:=by rw[<-hH];rfl
 rw[hq]at h;show wpAny _ _ _ _ _ {s with heap:=h1.push (seqObj "list" vs.toArray 0)};rw[hz];refine aa (bC (cm DG ⟨_,hg,rfl⟩ AN (AV T hg (fun b o e=>⟨ag _ (kp b o e),aB (bx (aw e))⟩) h64 ask ⟨_,rfl,?_⟩) (args_list_sort _)));exact ai ⟨_,rfl,h⟩
end
noncomputable def tlt(x y:Str):Bool:=decide (x.cps.toList<y.cps.toList)
noncomputable def lA(ks:List Str)(i j:Nat):Bool:=tlt (ks.getD i "") (ks.getD j "")
noncomputable def ord(ks:List Str):List Nat:=if ks.length<2 then aq ks.length else(run (lA ks) (dB ks.length)).toList
noncomputable def sortBy{α:Type}(d:α)(ks:List Str)(ys:List α):List α:=(ord ks).map fun i=>ys.getD i d
theorem str_ext{x y:Str}(h:x.cps.toList=y.cps.toList):x=y:=by
 obtain⟨a⟩:=x;obtain⟨b⟩:=y;have :a=b:=Array.toList_inj.mp h;rw[this]
theorem tX{x y z:Str}(a:tlt x y=true)(b:tlt y z=true):tlt x z=true:=by
 unfold tlt at *;rw[decide_eq_true_eq]at *;exact List.lt_trans a b
theorem tlt_tri{x y:Str}(h:x≠y):tlt x y= !tlt y x:=by
 unfold tlt;by_cases c:x.cps.toList<y.cps.toList
 ·have d:¬y.cps.toList<x.cps.toList:=fun z=>List.lt_irrefl _ (List.lt_trans c z)
  simp[c,d]
 ·by_cases d:y.cps.toList<x.cps.toList
  ·simp[c,d]
  ·exact absurd (str_ext (List.le_antisymm (List.not_lt.mp d) (List.not_lt.mp c))) h
theorem qN{ks:List Str}(nd:ks.Nodup):Tot (lA ks) ks.length where
 tri:=fun i j hi hj h=>tlt_tri fun e=>h (by
  rw[ah,ah,af hi,af hj]at e;exact(cW nd).mp e)
 tr:=fun i j k _ _ _ a b=>tX a b
theorem ord_len(ks:List Str)(nd:ks.Nodup):(ord ks).length=ks.length:=by
 unfold ord;split
 ·simp
 ·rw[bY,(fv (qN nd) (by omega)).1.size]
theorem Fq{ks:List Str}{ys:List V}{vs:List Value}(nd:ks.Nodup)(hl:ks.length=ys.length)(r:bL ys vs):bL (sortBy .non ks ys) (gu (lA ks) vs):=by
 have hlen:=r.length;have e:vs.length=ks.length:=by omega
 unfold gu sortBy ord;rw[e];by_cases c:ks.length<2
 ·rw[if_pos c,if_pos c]
  have e2:(aq ks.length).map (fun i=>ys.getD i V.non)=ys:=by
   rw[hl];apply cX
   ·simp
   ·intro i h1 h2
    simp[h2]
  rw[e2];exact r
 ·rw[if_neg c,if_neg c]
  have P:=(fv (qN nd) (by omega)).1;have all:∀l:List Nat,(∀i∈l,i<ks.length)->bL (l.map fun i=>ys.getD i V.non) (l.map fun i=>vs.getD i bo):=by
   intro l
   induction l with
   |nil=>exact fun _=>.nil
   |cons i l ih=>
    intro h;have hi:i<ys.length:=by have :=h i (.head _);omega
    obtain⟨u,hu,ru⟩:=r.get (af hi);refine .cons ?_ (ih fun j hj=>h j (.tail _ hj));show L2.RelV (ys.getD i V.non) (vs.getD i bo);rw[ah,af hi,ah,hu];exact ru
  refine all _ fun i hi=>?_;have m:i∈(aq ks.length).toArray:=P.perm.mem_iff.mp (i3.mp hi);simpa using m
theorem Ew{ks:List Str}{vs:List Value}(r:xa vs ks){i:Nat}(hi:i<ks.length):∃t,vs.getD i .none=.str (ks.getD i "") t:=by
 induction r generalizing i with
 |nil=>exact absurd hi (fY _)
 |cons y t h ih=>
  cases i with
  |zero=>exact⟨t,rfl⟩
  |succ i=>exact ih (by simpa using hi)
theorem qQ{ks:List Str}{vs:List Value}(r:xa vs ks):vs.length=ks.length:=by
 induction r with
 |nil=>rfl
 |cons y t h ih=>simp[ih]
section
variable {prog:Program}{w:World}{A:Around}
theorem Dz{ks:List Str}{vs:List Value}{h0:Heap}(r:xa vs ks)(h2:2<=vs.length):DC prog w A (lA ks) vs h0:=by
 intro s1 _;refine⟨oneType',fun Q' E' q=>?_,fun i j C hi hj _ q=>?_⟩
 ·match vs,r,h2 with
  |v1::v2::rest,r,_=>
   rw[keyKind_strs r];exact ai q
 ·rw[qQ r]at hi hj
  obtain⟨t,e1⟩:=Ew r hi;obtain⟨u,e2⟩:=Ew r hj;unfold kas_ask;rw[e1,e2,keyLt'_oneType];exact oneLt_str q
end
noncomputable def lU(H:Hp)(ys:List V)(ks:List Str):Prop:=Paired (fun v k=>∃a rest,v=V.ref a/\H a=some (.tup (V.str k::rest))) ys ks
noncomputable def rSort(K:ae):List V->Hp->VK->Prop:=fun xs H Q=>∃p ys ks,xs=[V.ref p]/\SqL K H p ys/\ks.length<64/\ks.Nodup/\(ys=ks.map V.str\/lU H ys ks)/\∀l,H l=none->Q (.ref l) (upd H l (.lst (sortBy .non ks ys)))
theorem pF{H:Hp}:∀{ys:List V}{ks:List Str},lU H ys ks->ks.length=ys.length
 |_,_,.nil=>rfl
 |_,_,.cons _ t=>by simp[pF t]
set_option maxHeartbeats 3200000
noncomputable def has(acc:List Key)(k:Key):Bool:=acc.any fun x=>decide (x=k)
theorem gI{acc:List Key}{k:Key}:has acc k=true↔k∈acc:=by
 unfold has;rw[bP];constructor
 ·rintro⟨x,h,e⟩
  rw[<-of_decide_eq_true e];exact h
 ·exact fun h=>⟨k,h,decide_eq_true rfl⟩
noncomputable def more(acc:List Key)(k:Key):List Key:=if has acc k=true then acc else acc++[k]
noncomputable def met(ks:List Key):List Key:=ks.foldl more []
theorem FG(ks:List Key)(k:Key):met (ks++[k])=more (met ks) k:=by unfold met;rw[List.foldl_append];rfl
theorem yj{acc:List Key}{k j:Key}:j∈more acc k↔j∈acc\/j=k:=by
 unfold more;split
 ·rename_i h
  constructor
  ·exact .inl
  ·rintro(z|rfl)
   ·exact z
   ·exact gI.mp h
 ·simp
theorem nV(acc:List Key)(k:Key):(more acc k).length=if has acc k=true then acc.length else acc.length+1:=by
 unfold more;split <;>simp
theorem FI(ks:List Key):(met ks).length<=ks.length:=by
 unfold met;have g:∀(l acc:List Key),(l.foldl more acc).length<=acc.length+l.length:=by
  intro l
  induction l with
  |nil=>intro acc;simp
  |cons k l ih=>
   intro acc;have h1:=ih (more acc k);have h2:=nV acc k;rw[dJ,ba];split at h2<;>omega
 simpa using g ks []
theorem kj{ks:List Key}{k:Key}:k∈met ks↔k∈ks:=by
 unfold met;have g:∀(l acc:List Key),k∈l.foldl more acc↔k∈acc\/k∈l:=by
  intro l
  induction l with
  |nil=>intro acc;simp
  |cons j l ih=>
   intro acc;rw[dJ,ih,yj,ay,or_assoc]
 simpa using g ks []
theorem CY{ks:List Key}(h:ks.Nodup):met ks=ks:=by
 unfold met;have g:∀(l acc:List Key),(acc++l).Nodup->l.foldl more acc=acc++l:=by
  intro l
  induction l with
  |nil=>intro acc _;simp
  |cons k l ih=>
   intro acc hn;have hk:k∉acc:=fun z=>(eQ.mp hn).2.2 k z k (.head _) rfl;have e:more acc k=acc++[k]:=if_neg fun z=>hk (gI.mp z);rw[dJ,e,ih (acc++[k]) (by simpa using hn)];simp
 simpa using g ks [] (by simpa using h)
theorem CH(ks:List Key):(met ks).Nodup:=by
 unfold met;have g:∀(l acc:List Key),acc.Nodup->(l.foldl more acc).Nodup:=by
  intro l
  induction l with
  |nil=>intro acc h;exact h
  |cons k l ih=>
   intro acc h;rw[dJ];refine ih _ ?_;unfold more;split
   ·exact h
   ·rename_i c
    refine eQ.mpr ⟨h,by simp,fun a ha b hb e=>c ?_⟩;have e2:b=k:=by simpa using hb
    rw[<-e2,<-e];exact gI.mpr ha
 exact g ks [] iA
theorem wg{ks:List Key}(h:(met ks).length=ks.length):ks.Nodup:=by
 have up:∀(l acc:List Key),(l.foldl more acc).length<=acc.length+l.length:=by
  intro l
  induction l with
  |nil=>intro acc;simp
  |cons k l ih=>
   intro acc;have h1:=ih (more acc k);have h2:=nV acc k;rw[dJ,ba];split at h2<;>omega
 have g:∀(l acc:List Key),acc.Nodup->(l.foldl more acc).length=acc.length+l.length->(acc++l).Nodup:=by
  intro l
  induction l with
  |nil=>intro acc h _;simpa using h
  |cons k l ih=>
   intro acc hn e;rw[dJ,ba]at e;have h1:=up l (more acc k);have h2:=nV acc k;by_cases c:has acc k=true
   ·rw[if_pos c]at h2
    omega
   ·rw[if_neg c]at h2
    have em:more acc k=acc++[k]:=if_neg c;rw[em]at e;have hk:k∉acc:=fun z=>c (gI.mpr z);have hn2:(acc++[k]).Nodup:=eQ.mpr ⟨hn,by simp,fun a ha b hb e=>hk (by
     have e2:b=k:=by simpa using hb
     rw[<-e2,<-e];exact ha)⟩
    have :=ih (acc++[k]) hn2 (by rw[cu,mO];omega)
    simpa using this
 simpa using g ks [] iA (by simpa[met]using h)
theorem met_one{ks:List Key}:(met ks).length<=1↔∀a∈ks,∀b∈ks,a=b:=by
 constructor
 ·intro h a ha b hb
  have ha':=kj.mpr ha;have hb':=kj.mpr hb
  match e:met ks,h with
  | [],_=>rw[e]at ha';cases ha'
  | [x],_=>
   rw[e]at ha' hb';rw[aL.mp ha',aL.mp hb']
 ·intro h
  match e:met ks with
  | []=>simp
  | [x]=>simp
  |x::y::r=>
   have n:=CH ks;rw[e]at n;have hx:x∈ks:=kj.mp (by rw[e];exact .head _);have hy:y∈ks:=kj.mp (by rw[e];exact .tail _ (.head _));have :=h x hx y hy;rw[this]at n;simp at n
noncomputable abbrev o4(led:Bool):Obj:={cls:=.type "set",dict:=none,data:=.set #[] 0 (.fresh 0 0 led)}
noncomputable def zU(a:Addr)(n:Nat):HO:=.ext fun h=>∃o es ep t,h.get? a=some o/\o.ExactSet/\o.data=.set es ep t/\es.size<fN/\t.fits es.size=true/\es.size=n
theorem wu:∀{ks:List Key}{us:List Value},bL (ks.map kV) us->∀(i:Nat)(v:Value),us[i]? =some v->∃k,ks[i]? =some k/\RelV (kV k) v
 | [],_,.nil,i,v,e=>by simp at e
 |k::ks,_,.cons r t,0,v,e=>by
  simp at e;subst e;exact⟨k,rfl,r⟩
 |k::ks,_,.cons r t,i+1,v,e=>wu t i v (by simpa using e)
noncomputable def rSet(K:ae):List V->Hp->VK->Prop:=fun xs H Q=>∃p ks,xs=[V.ref p]/\SqL K H p (ks.map kV)/\ks.length<4000/\∀a,H a=none->Q (.ref a) (upd H a (zU a (met ks).length))
theorem tN{X:Cx}:fL X (.builtin "len") (fun xs H Q=>∃a n,xs=[V.ref a]/\H a=some (zU a n)/\Q (.int n) H):=by
 intro pins s σ H xs us Q I r h;obtain⟨a,n,rfl,e,q⟩:=h;obtain⟨u,rfl,rx⟩:=vals1 r;cases rx;obtain⟨⟨o,es,ep,t,ho,hex,hd,hbb,hf,rfl⟩,_⟩:=I.hok a _ e;refine call_len_set ho hex hd hf (by have :es.size<4096:=hbb;omega) ?_;exact⟨.int es.size,H,I.tok _,⟨_,rfl⟩,q⟩
end Q
namespace L2
open PySem PySem.Spec PyProof.Rows
section
variable {X:Cx}
noncomputable def A9(K:ae):R2:=fun x y H Q=>∃a b ys,x=.ref a/\y=.ref b/\SqT K H a []/\SqT K H b ys/\Q (.ref b) H
theorem op_cat0:OpR X (d4 .Add) (A9 X.K):=by
 intro pins s σ H x y v u Q I rx ry h;obtain⟨a,b,ys,rfl,rfl,ha,hb,q⟩:=h;cases rx;cases ry;obtain⟨its,r1,p1,_⟩:=I.tuple ha;obtain⟨its2,r2,p2,_⟩:=I.tuple hb;cases r1;obtain⟨⟨cls,dd,data,sl⟩,ho,hc,n,hd⟩:=id p1;obtain⟨⟨cls2,dd2,data2,sl2⟩,ho2,hc2,n2,hd2⟩:=id p2;simp only at hc hd hc2 hd2;subst hc hd hc2 hd2;exact concat_meets ⟨_,ho,rfl⟩ ⟨_,ho2,rfl⟩ zc G7 k6 kD (j7 _ _) (tuple_addW0 a b _ _ n n2 dd dd2 sl sl2 rfl) ⟨ho,ho2,.ref b,H,I,rfl,q⟩
theorem uJ(a b:Array Nat):∀k:Nat,((aT k a).foldl (·++·) b).size=b.size+k*a.size
 | 0=>by simp
 |k+1=>by
  rw[dH,dJ,uJ a (b++a) k,Array.size_append,Nat.succ_mul];omega
noncomputable def EX:R2:=fun x y H Q=>∃(z:Str)(n:Int),x=.str z/\y=.int n/\2<=n/\n<=1000/\1<=z.length/\z.length<=1000/\Q (.str ⟨(aT n.toNat z.cps).foldl (·++·) #[]⟩) H
theorem op_repS:OpR X (d4 .Mult) EX:=by
 intro pins s σ H x y v u Q I rx ry h;obtain⟨z,n,rfl,rfl,h1,h2,h3,h4,q⟩:=h;obtain⟨t,rfl⟩:=rx;obtain⟨t',rfl⟩:=ry;have c1:¬n<1:=by omega
 have c2:(n==1||z.length==0)=false:=by
  rw[Bool.or_eq_false_iff];exact⟨by simp;omega,by simp;omega⟩
 have hm:z.length*n.toNat<=1000*1000:=Nat.mul_le_mul h4 (by omega);have hn:((n.toNat:Nat):Int)=n:=by omega
 have hm2:(z.length:Int)*n<=1000*1000:=by
  rw[<-hn,<-Int.natCast_mul];exact Int.ofNat_le.mpr hm
 refine P.mul_str (by rw[decide_eq_false (by omega),decide_eq_false (by omega)];rfl) (fun _ _=>?_) (fun _ _=>?_) ?_
 ·exact Int.not_lt.mpr (Int.le_ediv_of_mul_le (by omega) (by omega))
 ·exact decide_eq_false (fO.mpr (aI hm (by decide)))
 ·rw[if_neg c1,if_neg (by rw[c2];exact aC)]
  refine⟨?_,.str _,H,I.tok _,⟨_,rfl⟩,q⟩;show((aT n.toNat z.cps).foldl (·++·) #[]).size<=_;rw[uJ];exact aI (by rw[Nat.mul_comm];simpa[zd]using hm) (by decide:1000*1000<=sizeLine)
noncomputable def rJoin(K:ae):V->List V->Hp->VK->Prop:=fun x vs H Q=>∃(sep:Str)(p:Addr)(ys:List Str),x=.str sep/\vs=[.ref p]/\SqL K H p (ys.map V.str)/\sep.length<=16/\(ys.map (·.length)).sum+ys.length<=1048576/\Q (.str (Txt.join sep ys)) H
end
end L2
set_option maxHeartbeats 1000000
namespace HT
open PySem PySem.Spec PyProof.Rows
section
variable {prog:Program}{w:World}{K:Type}[DecidableEq K]{knd:HeapKind prog w K}{A:Around}{s:Shared}{E:Value->Shared->Prop}
theorem setDef{d a:Addr}{xs:List (K×Addr×Value)}{k:K}{v:Value}{Q:Value->Shared->Prop}(hu:knd.room A)(hkey:knd.is s.heap k a)(hm:s.heap.DictOfH knd d xs)
  (h1:∀u,(atKey xs k).map (·.2)=some u->Q u {s with toks:=s.toks+knd.draws k})
  (h2:atKey xs k=none->∀h',h'.DictOfH knd d (storedH xs k a v)->cY d s.heap h'->Q v {s with heap:=h',toks:=s.toks+knd.draws k})
  (hsz:xs.length<=sizeLine):wpAny (model prog w) A (DM d (.ref a) v) Q E s:=by
 obtain⟨o,es,ep,ho,hc,hd,he,his,hn⟩:=hm;unfold DM;refine bC ?_;refine aa (knd.pyHash hu hkey ?_);refine aa (wpAny_dictFind_heap (s:={s with toks:=s.toks+knd.draws k}) hu hkey ho hd he his hn ?_ ?_)
 ·intro hno
  have hnot:k∉xs.map (·.1):=not_mem_keys_of_get hno;refine aa (fA (aa (wpAny_updateDictKeys (hz:=by have e:=size_of_entries he;omega) (s:={s with toks:=s.toks+knd.draws k}) ho hd (ai (h2 (l5 hno) _ ⟨_,_,ep+1,bA _ ho (Obj.isFreed_of_dict (Hh hd _)),
   hc.mapDictKeys _,Hh hd _,?_,?_,?_⟩ (bU ..))))))
  ·rw[storedH_new (l5 hno)]
   simp[he,entryOfKey]
  ·rw[storedH_new (l5 hno)]
   intro x hx;rcases cj.mp hx with hx|hx
   ·exact knd.keeps (his x hx) ho hd (bU ..)
   ·rw[aL.mp hx]
    exact knd.keeps hkey ho hd (bU ..)
  ·rw[storedH_new (l5 hno),du,eQ]
   refine⟨hn,by simp,fun x hx y hy e=>?_⟩;have :y=k:=by simpa using hy
   exact hnot (by rw[<-this,<-e];exact hx)
 ·intro j p hj
  refine aa (wpAny_dictEntries (s:={s with toks:=s.toks+knd.draws k}) ho hd ?_);rw[entry_at he j,hj];exact aa (fA (ai (h1 _ (by rw[atKey_of_get hn hj];rfl))))
variable(knd) in
theorem wm(d a:Addr)(hd:(d==gb)=false)(dflt:Value):
  MeetsIn prog w (Builtin.«dict.setdefault» ⟨[.ref d,.ref a,dflt],[]⟩) (fun A R s=>knd.room A.in1/\∃k xs,knd.is s.heap k a/\s.heap.DictOfH knd d xs/\xs.length<=sizeLine/\
   (∀u,(atKey xs k).map (·.2)=some u->R (.ok (.ret u)) {s with toks:=s.toks+knd.draws k})/\
   (atKey xs k=none->∀h',h'.DictOfH knd d (storedH xs k a dflt)->cY d s.heap h'->R (.ok (.ret dflt)) {s with heap:=h',toks:=s.toks+knd.draws k})):=
 .of_wp fun A R s ⟨hu,k,xs,hkey,hm,hz,h1,h2⟩=>by
  unfold Builtin.«dict.setdefault»;refine aa ?_;unfold Builtin.Dict.keyAndDefault;refine aa (wpAny_notOrdered_dict hm.typeIs ?_);show wpAny _ _ (pure (d,bz a,some dflt)) _ _ s;refine ai ?_;show wpAny _ _ (if(d==gb)=true then _ else(DM d (.ref a) dflt>>=_)) _ _ s;rw[if_neg (by rw[hd];exact aC)];exact aa (setDef hu hkey hm (fun v hv=>ai ⟨v,rfl,h1 v hv⟩) (fun hn h' hm' hs'=>ai ⟨dflt,rfl,h2 hn h' hm' hs'⟩) hz)
end
end HT
namespace L2
open PySem PySem.Spec PyProof.Rows
section
variable {X:Cx}{pins:List (Addr×Obj)}{σ:St}{H:Hp}{s:Shared}{a b:Addr}{v:V}{r:Value}{A:Around}{E:Value->Shared->Prop}{kvs:List (List Key×V)}{k:List Key}
theorem GC{Q:Value->Shared->Prop}(hu:A.units+1<cLine)(I:Inv X pins σ H s)(e:H a=some (.dT kvs))(eb:H b=some (.tup (k.map kV)))(rv:RelV v r)(hl:kvs.length<sizeLine)
  (h1:∀x w' s',eh kvs k=some x->Inv X pins σ H s'->RelV x w'->Q w' s')(h2:eh kvs k=none->∀s',Inv X pins σ (upd H a (.dT (putK kvs k v))) s'->Q r s'):
  wpAny (model X.prog X.w) A (call (.builtin "dict.setdefault") [.ref a,.ref b,r]) Q E s:=by
 obtain⟨z,hd,xs,rel,dd⟩:=Gy I.hok e;have hz:xs.length<=sizeLine:=by rw[<-iN rel];exact z
 have hl':(putK kvs k v).length<=sizeLine:=by have :=pQ kvs k v;omega
 have rk:=rel.val k;refine call_meetsIn sP dd.typeIs PySem.F.entry_dict_setdefault (PySem.F.args_dict_setdefault_3 _ _ _) (HT.wm (nh (cy X.prog X.w)) a b hd r) ⟨tupleKind_room_in1 hu,k,xs,FV I.hok eb,dd,hz,fun u hu'=>?_,fun hn h' dd' hs=>?_⟩
 ·rw[hu']at rk
  cases hv:eh kvs k with
  |none=>rw[hv]at rk;exact absurd rk (by intro z;cases z)
  |some x=>
   rw[hv]at rk;obtain⟨w',hw,rw'⟩:=md.some_of rk;cases hw;exact h1 x _ _ hv (I.tok _) rw'
 ·rw[hn]at rk
  refine h2 (by
   cases hv:eh kvs k with
   |none=>rfl
   |some x=>rw[hv]at rk;exact absurd rk (by intro z;cases z)) _ ?_
  obtain⟨q,es,ep,hq,g2,g3,g4,_,g5⟩:=dd';refine d_write I (by rw[e];exact True.intro) hs ⟨q,hq⟩ ⟨hl',hd,_,(rel.put k eb rv).keeps fun c ys ec=>?_,q,es,ep,hq,g2,g3,g4,g5⟩;rw[aY (ne_of ec e (fun z=>nomatch z))];exact ec
end
section
variable {X:Cx}
theorem C1{prog:Program}{w:World}{K:Type}[DecidableEq K]{knd:HeapKind prog w K}{A:Around}{E:Value->Shared->Prop}{s:Shared}{d:Addr}{xs:List (K×Addr×Value)}{Q:Value->Shared->Prop}(hd:(d==gb)=false)(hm:s.heap.DictOfH knd d xs)(hfit:(xs.length:Int)<2^63)
  (h:Q (.int xs.length (s.toks+1)) {s with toks:=s.toks+1+1}):wpAny (model prog w) A (call (.builtin "len") [.ref d]) Q E s:=by
 have ml:MeetsIn prog w (Builtin.«dict.__len__» ⟨[.ref d],[]⟩) (fun _ R s=>∃xs,s.heap.DictOfH knd d xs/\R (.ok (.ret (.int xs.length s.toks))) {s with toks:=s.toks+1}):=
  .of_wp fun A R s ⟨xs,hm,h⟩=>by
   obtain⟨o,es,ep,ho,hc,hdat,he,_⟩:=hm;show wpAny _ _ (dictSize d>>=_) _ _ s;unfold dictSize;refine aa (aa (wpAny_dictEntries ho hdat (ai ?_)));show wpAny _ _ (Builtin.Dict.pendingCount d>>=_) _ _ s;refine aa (wpAny_pendingCount_other hd ?_);refine wpAny_ret_mkInt ?_;have :es.size=xs.length:=size_of_entries he;rw[Nat.add_zero,this];exact h
 refine j9 kind_len plain_len entry_len (args_len1 _) ?_;unfold Builtin.«len»;refine aa (m:=oneArg "len" _) (ai ?_);refine aa (m:=callSpecial? (.ref d) (bj "__len__")) (cT (name:=bj "__len__") hm.typeIs F.slot_dict_len
  (call_meetsIn F.slot_dict_len hm.typeIs F.entry_dict_len (F.args_dict_len_1 _) ml ⟨xs,hm,?_⟩))
 show wpAny _ _ _ _ _ {s with toks:=s.toks+1};refine aa (bC (ai ?_));refine aa (fk ?_);show wpAny _ _ (if((xs.length:Nat):Int)<0 then _ else _) _ _ _;rw[if_neg (by omega)];show wpAny _ _ (if((xs.length:Nat):Int)≥ 2^63 then _ else _) _ _ _;rw[if_neg (by omega)];exact aa (wpAny_mkInt (ai ⟨_,rfl,h⟩))
theorem yO:fL X (.builtin "len") (fun xs H Q=>∃a kvs,xs=[V.ref a]/\H a=some (.dT kvs)/\Q (.int kvs.length) H):=by
 intro pins s σ H xs us Q I r h;obtain⟨a,kvs,rfl,e,q⟩:=h;obtain⟨u,rfl,rx⟩:=vals1 r;cases rx;obtain⟨z,hd,ys,rel,dd⟩:=Gy I.hok e;refine C1 hd dd (by rw[<-iN rel];rw[iF]at z;omega) ?_;rw[<-iN rel];exact⟨.int kvs.length,H,I.tok _,⟨_,rfl⟩,q⟩
theorem key_seq{pins:List (Addr×Obj)}{σ:St}{H:Hp}{s:Shared}{b:Addr}{ks:List Key}(I:Inv X pins σ H s)(h:SqT X.K H b (ks.map kV)):(nh (cy X.prog X.w)).is s.heap ks b:=by
 obtain⟨its,r,⟨o,h1,h2,n,h3⟩,_⟩:=I.tuple h;exact⟨o,its.toArray,n,h1,h2,h3,by simpa using pb r⟩
noncomputable def rIxD(K:ae):R2:=fun x y H Q=>∃a b kvs k v,x=.ref a/\y=.ref b/\H a=some (.dT kvs)/\SqT K H b (k.map kV)/\eh kvs k=some v/\Q v H
theorem ix_dict(hu:X.A.units+1<cLine):IxR X (rIxD X.K):=by
 intro value slice pins s σ H x y v u Q I rx ry h hs;obtain⟨a,b,kvs,k,z,rfl,rfl,e,eb,hv,q⟩:=h;cases rx;cases ry;obtain⟨_,hd,xs,rel,dd⟩:=Gy I.hok e;have hT:s.TypeIs (.ref a) "dict":=dd.typeIs;unfold sW;refine aa ?_;rw[getitemInPython_of_ne hT.not_modules];refine aa (oK hT PySem.F.slot_dict_getitem.lookup ?_);have fin:wpAny (model X.prog X.w) X.A (subscripted slice false (.ref a) (.ref b)) (fun r s₃=>wpAny (model X.prog X.w) X.A (letTemporaryGo value (.ref a) r>>=fun _=>pure r) (EP X pins σ Q) X.xe s₃) X.xe s:=by
  rw[hs];obtain⟨w',hw,rw'⟩:=md.some_of (v:=z) (o:=(atKey xs k).map (·.2)) (by rw[<-hv];exact rel.val k);obtain⟨p,hp,hp2⟩:=zt.mp hw;refine wpAny_operating (eD (wpAny_getItem_heap (Q:=EP X pins σ Q) (tupleKind_room_in1 hu) (key_seq I eb) dd hp ?_) (fun r s₃ h₃=>aa (wpAny_letTemporaryGo (ai h₃))) fun _ _ x=>x);rw[hp2];exact⟨z,H,I.tok _,rw',q⟩
 first
  |exact ai (aa fin)
  |exact aa (ai (aa fin))
  |exact aa fin
noncomputable def A6:V->List V->Hp->VK->Prop:=fun x xs H Q=>∃a b kvs k v,x=.ref a/\xs=[.ref b,v]/\H a=some (.dT kvs)/\H b=some (.tup (k.map kV))/\kvs.length<sizeLine/\
 (∀z,eh kvs k=some z->Q z H)/\(eh kvs k=none->Q v (upd H a (.dT (putK kvs k v))))
theorem CQ(hu:X.A.units+1<cLine):MtR X "dict.setdefault" A6:=by
 intro pins s σ H x xs v us Q I rx rv h;obtain⟨a,b,kvs,k,y,rfl,rfl,e,eb,hl,q1,q2⟩:=h;cases rx;obtain⟨u,w',rfl,r1,r2⟩:=vals2 rv;cases r1;exact GC hu I e eb r2 hl (fun z w1 s' hz I' rz=>⟨z,H,I',rz,q1 z hz⟩) fun hn s' I'=>⟨y,_,I',r2,q2 hn⟩
end
section
variable {X:Cx}
noncomputable def isRef:V->Bool
 |.ref _=>true
 |_=>false
noncomputable def rInD(K:ae)(neg:Bool):R2:=fun x y H Q=>∃p xs ds d,y=.ref p/\SqL K H p xs/\xs.all isRef=true/\Rep K H d x/\fX K H ds xs/\hW ds<=30/\
 Q (.bl (if neg then !(ds.any fun d'=>eqD d' d)else ds.any fun d'=>eqD d' d)) H
open Classical in
open Classical in
end
section
variable {X:Cx}{e:Expr}{te:TE}{pos p2 p3 p4:Pos}{cd:Nat}
theorem Cs(its:List Value):slicePick its.toArray none none (some (-1))=its.reverse.toArray:=by
 unfold slicePick;have b1:gT none none (some (-1)) its.toArray.size=((its.length:Int)-1,-1,-1):=by simp[gT]
 rw[b1];have b2:DH ((its.length:Int)-1) (-1) (-1)=(aq its.length).map fun k=>its.length-1-k:=by
  unfold DH;have hc:(if(-1:Int)>0 then(if(its.length:Int)-1< -1 then(-1-((its.length:Int)-1)+ -1-1)/ -1 else 0)else(if(its.length:Int)-1> -1 then((its.length:Int)-1- -1- -1-1)/(- -1)else 0))=(its.length:Int):=by
   rw[if_neg (by decide)];by_cases h:(its.length:Int)-1> -1
   ·rw[if_pos h,show(- -1:Int)=1 by decide,Int.ediv_one]
    omega
   ·rw[if_neg h]
    omega
  rw[hc];show DY _ (aq ((its.length:Int)).toNat)=_;rw[aX];refine cL fun k hk=>?_;have :=aQ.mp hk;omega
 rw[b2];congr 1;rw[List.filterMap_map];apply gh;intro k;have hs:∀j∈aq its.length,((fun x=>its.toArray[x]?)∘fun k=>its.length-1-k) j=some (its.reverse.getD j .none):=fun j hj=>by
  have hj':=aQ.mp hj;show its.toArray[its.length-1-j]? =_;rw[List.getElem?_toArray,ah,List.getElem?_reverse hj',af (by omega)];rfl
 have e2:(aq its.length).filterMap ((fun x=>its.toArray[x]?)∘fun k=>its.length-1-k)=(aq its.length).map fun j=>its.reverse.getD j .none:=by
  have key:∀l:List Nat,(∀j∈l,j∈aq its.length)->l.filterMap ((fun x=>its.toArray[x]?)∘fun k=>its.length-1-k)=l.map fun j=>its.reverse.getD j .none:=by
   intro l
   induction l with
   |nil=>exact fun _=>rfl
   |cons j l ih=>
    intro h;rw[jm,hs j (h j (.head _)),ih fun x hx=>h x (.tail _ hx)];rfl
  exact key _ fun _ h=>h
 rw[e2,aA];by_cases hk:k<its.length
 ·rw[bR hk,af (by simpa using hk)]
  show some (its.reverse.getD k .none)=_;rw[ah,af (by simpa using hk)];rfl
 ·rw[bN (by simpa using hk),bN (by simpa using hk)]
  rfl
theorem Cv{j:Nat}:PE X (.UnaryOp .USub (.Constant (.int 1) j p3) p4) (tC (.int (-1))):=fun pins s σ H Q I h=>pe_un Ef Fi pins s σ H Q I ⟨1,rfl,h⟩
noncomputable def tRev(K:ae)(te:TE):TE:=fun σ H Q=>te σ H fun x H1=>∃a xs,x=.ref a/\SqL K H1 a xs/\∀p,H1 p=none->Q (.ref p) (upd H1 p (.lst xs.reverse))
theorem pe_rev{st:Expr}(he:PE X e te)(hst:PE X st (tC (.int (-1)))):PE X (.Subscript e (.Slice none none (some st) p2) pos) (tRev X.K te):=by
 intro pins s σ H Q I h;refine DP (thn (he pins s σ H _ I h) fun v s1 ⟨x,H1,I1,r1,q1⟩=>?_);refine wpAny_Slice ?_;rw[G8];refine ai (ai ?_);rw[evalPart_some];refine thn (hst pins s1 σ H1 (fun y H2=>y=.int (-1)/\H2=H1) I1 ⟨rfl,rfl⟩) fun u s2 ⟨y,H2,I2,r2,e1,e2⟩=>?_;subst e1 e2;obtain⟨tk,rfl⟩:=r2;obtain⟨a,xs,rfl,hx,q⟩:=q1;cases r1;have I4:Inv X pins σ H2 {s2 with heap:=s2.heap.push {cls:=.type "slice",data:=.fields #[bo,bo,.int (-1) tk]}}:=I2.kept (t':=s2.toks) fun b ob q=>ag _ q;obtain⟨its,r,ht,hz⟩:=I4.list hx;have hlen:=r.length;show wpAny (model X.prog X.w) X.A (sW e (.Slice none none (some st) p2) (.ref a) (.ref s2.heap.objs.size)) (EP X pins σ Q) X.xe {s2 with heap:=s2.heap.push {cls:=.type "slice",data:=.fields #[bo,bo,.int (-1) tk]}};refine tail_any (ops:=[.ref a,.ref s2.heap.objs.size]) ht.isList.typeIs wZ.lookup (G5 ht.isList (vh ..) .none .none (.int (-1) tk) (by simp) ?_ (by rw[av]<;>omega)) (by with_unfolding_all rfl);rw[Cs];refine⟨.ref _,_,I4.laid (t':=s2.toks) (o:=.lst xs.reverse) (fun b ob q=>ag _ q) (ax _) ?_,rfl,q _ (I4.hok.fresh (ax _))⟩;exact⟨by rw[List.length_reverse];exact hz,_,0,r.reverse,au _ rfl⟩
end
end L2
namespace Q
open PySem PySem.Spec PySem.W PyProof.Rows L2
noncomputable def ltI(ns:List Int)(i j:Nat):Bool:=decide (ns.getD i 0<ns.getD j 0)
noncomputable def Ai(ns:List Int):List Nat:=if ns.length<2 then aq ns.length else(run (ltI ns) (dB ns.length)).toList
noncomputable def sortI(ns:List Int):List V:=(Ai ns).map fun i=>(ns.map V.int).getD i .non
theorem totI{ns:List Int}(nd:ns.Nodup):Tot (ltI ns) ns.length where
 tri:=fun i j hi hj h=>by
  have hne:ns.getD i 0≠ns.getD j 0:=fun e=>by
   rw[ah,ah,af hi,af hj]at e;exact h ((cW nd).mp e)
  unfold ltI;by_cases a:ns.getD i 0<ns.getD j 0
  ·rw[decide_eq_true a,decide_eq_false (by omega)];rfl
  ·rw[decide_eq_false a,decide_eq_true (by omega)];rfl
 tr:=fun i j k hi hj hk a b=>by
  unfold ltI at a b⊢;have a:=of_decide_eq_true a;have b:=of_decide_eq_true b;exact decide_eq_true (by omega)
theorem Fs{ns:List Int}(nd:ns.Nodup):(Ai ns).length=ns.length:=by
 unfold Ai;split
 ·simp
 ·rw[bY,(fv (totI nd) (by omega)).1.size]
theorem outI{ns:List Int}{vs:List Value}(nd:ns.Nodup)(r:bL (ns.map V.int) vs):bL (sortI ns) (gu (ltI ns) vs):=by
 have hlen:=r.length;rw[ao]at hlen;have e:vs.length=ns.length:=by omega
 unfold gu sortI Ai;rw[e];by_cases c:ns.length<2
 ·rw[if_pos c,if_pos c]
  have e2:(aq ns.length).map (fun i=>(ns.map V.int).getD i V.non)=ns.map V.int:=by
   apply cX
   ·simp
   ·intro i h1 h2
    have h3:i<ns.length:=by simpa using h2
    simp[h3]
  rw[e2];exact r
 ·rw[if_neg c,if_neg c]
  have P:=(fv (totI nd) (by omega)).1;have all:∀l:List Nat,(∀i∈l,i<ns.length)->bL (l.map fun i=>(ns.map V.int).getD i V.non) (l.map fun i=>vs.getD i bo):=by
   intro l
   induction l with
   |nil=>exact fun _=>.nil
   |cons i l ih=>
    intro h;have hi:i<(ns.map V.int).length:=by rw[ao];exact h i (.head _)
    obtain⟨u,hu,ru⟩:=r.get (af hi);refine .cons ?_ (ih fun j hj=>h j (.tail _ hj));show L2.RelV ((ns.map V.int).getD i V.non) (vs.getD i bo);rw[ah,af hi,ah,hu];exact ru
  refine all _ fun i hi=>?_;have m:i∈(aq ns.length).toArray:=P.perm.mem_iff.mp (i3.mp hi);simpa using m
theorem int_at{ns:List Int}{vs:List Value}(r:cb vs ns){i:Nat}(hi:i<ns.length):∃t,vs.getD i .none=.int (ns.getD i 0) t:=by
 induction r generalizing i with
 |nil=>exact absurd hi (fY _)
 |cons y t h ih=>
  cases i with
  |zero=>exact⟨t,rfl⟩
  |succ i=>exact ih (by simpa using hi)
theorem F3{ns:List Int}{vs:List Value}(r:cb vs ns):vs.length=ns.length:=by
 induction r with
 |nil=>rfl
 |cons y t h ih=>simp[ih]
theorem DA{prog:Program}{w:World}{A:Around}{ns:List Int}{vs:List Value}{h0:Heap}(r:cb vs ns)(h2:2<=vs.length):DC prog w A (ltI ns) vs h0:=by
 intro s1 _;refine⟨oneType',fun Q' E' q=>?_,fun i j C hi hj _ q=>?_⟩
 ·match vs,r,h2 with
  |v1::v2::rest,r,_=>
   rw[keyKind_ints r];exact ai q
 ·rw[F3 r]at hi hj
  obtain⟨t,e1⟩:=int_at r hi;obtain⟨u,e2⟩:=int_at r hj;unfold kas_ask;rw[e1,e2,keyLt'_oneType];exact oneLt_int q
noncomputable def rSortI(K:ae):List V->Hp->VK->Prop:=fun xs H Q=>∃p ns,xs=[V.ref p]/\SqL K H p (ns.map V.int)/\ns.length<64/\ns.Nodup/\∀l,H l=none->Q (.ref l) (upd H l (.lst (sortI ns)))
end Q
namespace L2
open PySem PySem.Spec PyProof.Rows
section
variable {X:Cx}
noncomputable def nats(n:Nat):List V:=(aq n).map fun i:Nat=>V.int (i:Int)
theorem zD:∀(n:Nat)(acc:Array Value),ItemsOf (fun i v=>∃t,v=fR (0+i*1) t) acc n->bL (nats n) acc.toList:=by
 intro n acc h;have key:∀(l:List Value)(k:Nat),(∀(j:Nat) v,l[j]? =some v->∃t,v=fR ((k+j:Nat):Int) t)->bL ((List.range' k l.length).map fun i:Nat=>V.int (i:Int)) l:=by
  intro l
  induction l with
  |nil=>exact fun _ _=>.nil
  |cons v l ih=>
   intro k hk;obtain⟨t,e⟩:=hk 0 v rfl;refine .cons ⟨t,by rw[e];simp⟩ ?_;refine ih (k+1) fun j w hw=>?_;obtain⟨t',e'⟩:=hk (j+1) w (by simpa using hw);exact⟨t',by rw[e'];congr 2;omega⟩
 have hl:acc.toList.length=n:=by rw[bY];exact h.1
 have :=key acc.toList 0 fun j v hv=>by
  obtain⟨t,e⟩:=h.2 j v (by rw[<-B4];exact hv);exact⟨t,by rw[e];congr 1;omega⟩
 rw[hl,<-List.range_eq_range']at this;exact this
noncomputable def tLRng(ta:TA):TE:=fun σ H Q=>ta σ H fun vs H1=>∃n:Nat,vs=[.int n]/\n<=1000/\∀p,H1 p=none->Q (.ref p) (upd H1 p (.lst (nats n)))
theorem pe_lrng{a:Expr}{ta:TA}{p p' pos pos':Pos}(hc:X.calm=true)(hg:Gl X "range")(hm:X.mg "range"=none)(hg':Gl X "list")(hm':X.mg "list"=none)(ha:PA X [a] ta)(hs:bc [a] X.env=[(false,eval a X.env)]:=by rfl):
  PE X (.Call (.Name "list" p) [.Call (.Name "range" p') [a] [] pos'] [] pos) (tLRng ta):=by
 intro pins s σ H Q I h;refine Call_ (iu I hg' hm' gR (bV (jO ?_) rfl rfl));refine Call_ (iu I hg hm boot_range (bV (thn (ha pos' pins s σ H _ I h) fun us s1 ⟨vs,H1,I1,r1,q1⟩=>?_) hs rfl));obtain⟨n,e,hn,q⟩:=q1;subst e;cases r1 with
 |cons r rr=>
  cases rr;obtain⟨t,rfl⟩:=r;refine call_range_1 ?_;refine ai ?_;have hsz:qI 0 (n:Int) 1=(n:Int):=by rw[rangeSize_one];split <;>omega
  refine call_list_range (n:=n) (I1.ok.hd hc) (IsRange.new ..) (small_one (by decide) (by decide) (by omega) (by omega)) hsz (by omega) fun h' tk acc' c' hk hS hit=>?_;have hv:=zD n acc' hit;refine⟨.ref _,_,I1.laid (t':=tk) (o:=.lst (nats n)) (fun b o e=>hk b o (ag _ e)) ?_ ⟨?_,acc'.toList,c',hv,hS⟩,rfl,q _ (I1.hok.fresh ?_)⟩
  ·simp[Heap.push]
  ·unfold nats;rw[ao,bI,iF];omega
  ·simp[Heap.push]
end
section
variable {X:Cx}
noncomputable def leP(a b c d:Int):Bool:=decide (a<c\/a=c/\b<=d)
noncomputable def rLeP(K:ae):R2:=fun x y H Q=>∃p q a b c d,x=.ref p/\y=.ref q/\SqT K H p [.int a,.int b]/\SqT K H q [.int c,.int d]/\Q (.bl (leP a b c d)) H
noncomputable def rIndex:V->List V->Hp->VK->Prop:=fun x vs H Q=>∃(l:Addr)(ns:List Int)(k:Int),x=.ref l/\vs=[.int k]/\H l=some (.lst (ns.map V.int))/\k∈ns/\ns.length<=60/\Q (.int (ns.idxOf k:Nat)) H
end
end L2
namespace Q
open PySem PySem.Spec PySem.W PyProof.Rows L2
noncomputable def plt(x y:Int×Int):Bool:=decide (x.1<y.1\/x.1=y.1/\x.2<y.2)
noncomputable def ltP(ps:List (Int×Int))(i j:Nat):Bool:=plt (ps.getD i (0,0)) (ps.getD j (0,0))
noncomputable def ordP(ps:List (Int×Int)):List Nat:=if ps.length<2 then aq ps.length else(run (ltP ps) (dB ps.length)).toList
noncomputable def sortP{α:Type}(d:α)(ps:List (Int×Int))(ys:List α):List α:=(ordP ps).map fun i=>ys.getD i d
noncomputable def G0(H:Hp)(ys:List V)(ps:List (Int×Int)):Prop:=Paired (fun v k=>∃a,v=V.ref a/\H a=some (.tup [.int k.1,.int k.2])) ys ps
noncomputable def rSortP(K:ae):List V->Hp->VK->Prop:=fun xs H Q=>∃p ys ps,xs=[V.ref p]/\SqL K H p ys/\ps.length<64/\ps.Nodup/\G0 H ys ps/\∀l,H l=none->Q (.ref l) (upd H l (.lst (sortP .non ps ys)))
end Q
namespace D8
open PySem PySem.Spec PySem.W PyProof.Rows L2
noncomputable abbrev four:List (Int×Int):=[(0,0),(0,1),(1,0),(1,1)]
noncomputable def Prs(H:Hp)(as:List Addr)(ps:List (Int×Int)):Prop:=as.length=ps.length/\∀(i:Nat) a q,as[i]? =some a->ps[i]? =some q->H a=some (.tup [.int q.1,.int q.2])
noncomputable def rSetP(K:ae):List V->Hp->VK->Prop:=fun xs H Q=>∃p as ps,xs=[V.ref p]/\SqL K H p (as.map V.ref)/\Prs H as ps/\(∀q∈ps,q∈four)/\∀a (ks:List (Int×Int)),H a=none->ks.Nodup->(∀r,r∈ks↔r∈ps)->Q (.ref a) (upd H a (_root_.Q.zU a ks.length))
end D8
namespace L2
open PySem PySem.Spec PyProof.Rows
section
variable {X:Cx}
noncomputable def CDivB(_ j:Int):Prop:=0<j/\j.natAbs.log2<9000
noncomputable def rDivB:R2:=rI CDivB fun i j=>.int (i/j)
theorem op_divb:OpR X (d4 .FloorDiv) rDivB:=opI fun i j _ _ _ _ _ hc q=>by
 have h1:(0:Int)<j:=hc.1;exact floordiv_int (by omega) (by rw[j8 i (by omega)];exact q) (.inl (PyProof.noPylong_of_log2 hc.2))
noncomputable def A7:V->List V->Hp->VK->Prop:=fun x vs H Q=>∃l xs k y,x=.ref l/\vs=[.int k,y]/\H l=some (.lst xs)/\xs.length<sizeLine/\0<=k/\k<=xs.length/\Q .non (upd H l (.lst (xs.take k.toNat++y::xs.drop k.toNat)))
theorem CU:MtM X "list.insert" A7:=by
 intro pins s σ H x vs v us Q I rx rv h;obtain⟨l,xs,k,y,rfl,rfl,hH,hz,h0,hk,q⟩:=h;cases rx;obtain⟨u1,us1,rfl,ru1,rv⟩:∃u1 us1,us=u1::us1/\RelV (.int k) u1/\bL [y] us1:=by cases rv with |cons a b=>exact⟨_,_,rfl,a,b⟩
 obtain⟨u,rfl,ru⟩:=rv.one;obtain⟨t,rfl⟩:=ru1;obtain⟨z,its,n,r,hl,e⟩:=I.FN hH;have hlen:=r.length;have hfit:¬(!iQ k)=true:=by
  have hs:xs.length<sizeLine:=hz;rw[iF]at hs;simp only[iQ];simp;omega
 refine tQ F.slot_list_insert ⟨_,e,rfl⟩ F.entry_list_insert (F.args_list_insert_3 _ _ _) (PySem.AutoSeq1.list_insert_list_int_val_1 l its.toArray n k t u hfit (by rw[av];omega)) ⟨e,?_⟩;refine⟨.non,_,I.lset (its':=its.take k.toNat++u::its.drop k.toNat) hH e ?_ ?_ ?_,rfl,q⟩
 ·show(its.toArray.extract 0 (if k<0 then(k+(its.toArray.size:Int)).toNat else min k.toNat its.toArray.size)).push u++its.toArray.extract (if k<0 then(k+(its.toArray.size:Int)).toNat else min k.toNat its.toArray.size)=_
  rw[if_neg (by omega),show min k.toNat its.toArray.size=k.toNat by rw[av];omega];apply Array.toList_inj.mp;simp only[Array.toList_append,ke,Array.toList_extract,List.extract_eq_take_drop,xo,DR,gp,la,mh,av];rw[iz (l:=List.drop k.toNat its) (by simp)]
 ·exact(r.take _).append (.cons ru (r.drop _))
 ·simp
  omega
end
section
variable {X:Cx}
noncomputable def rSplit:V->List V->Hp->VK->Prop:=fun x vs H Q=>∃z y:Str,x=.str z/\vs=[.str y]/\(y.length==0)=false/\z.length+2<=sizeLine/\∀p,H p=none->Q (.ref p) (upd H p (.lst ((Txt.split z y).map V.str)))
end
noncomputable def Itz(K:ae)(a b:Addr):It:=
 ⟨fun i H=>∃xs ys x y,SqL K H a xs/\SqL K H b ys/\xs[i]? =some x/\ys[i]? =some y,
  fun i H v H'=>∃p x y,H p=none/\H'=upd H p (.tup [x,y])/\v=.ref p/\(∀xs,SqL K H a xs->xs[i]? =some x)/\∀ys,SqL K H b ys->ys[i]? =some y,
  fun i H=>∃xs ys,SqL K H a xs/\SqL K H b ys/\(xs.length<=i\/ys.length<=i)⟩
structure Apart5(z TI TO i1 i2:Addr):Prop where
 a1:TI≠z
 a2:TO≠z
 a3:i1≠z
 a4:i2≠z
 a5:TI≠TO
 a6:TI≠i1
 a7:TI≠i2
 a8:TO≠i1
 a9:TO≠i2
 a10:i1≠i2
section
variable {X:Cx}{es:List Expr}{kk:Nat}{pp:Pos}
noncomputable def iZip(K:ae)(t:TA):TI:=fun σ H R=>t σ H fun vs H1=>∃a b,vs=[.ref a,.ref b]/\(∃xs,SqL K H1 a xs)/\(∃ys,SqL K H1 b ys)/\R (Itz K a b) H1
theorem apart_n(n:Nat):Apart5 (n+4) (n+2) (n+3) n (n+1):=
 ⟨aB (by omega),aB (by omega),aB (by omega),aB (by omega),aB (by omega),cz (by omega),cz (by omega),cz (by omega),cz (by omega),aB (by omega)⟩
theorem boot_zip:eK "zip"=some (.type "zip"):=by decide+kernel
end
noncomputable def DkIn(P:Program)(w:World)(K:ae)(a:Addr)(kvs:List (Key×V)):Prop:=
 (a==gb)=false/\∃vs,KV kvs vs/\∀h,K.In h->h.DictOf (cy P w) a vs
section
variable {X:Cx}{dic:Addr->Option (List (Key×V))}
noncomputable def rInG(dic:Addr->Option (List (Key×V))):R2:=fun x y H Q=>∃a kvs k,y=.ref a/\dic a=some kvs/\x=kV k/\Q (.bl (eh kvs k).isSome) H
noncomputable def rIxG(dic:Addr->Option (List (Key×V))):R2:=fun x y H Q=>∃a kvs k v,x=.ref a/\dic a=some kvs/\y=kV k/\eh kvs k=some v/\Q v H
end
noncomputable def fText(pre post:Str)(i:Int):Str:=Str.empty++pre++(toString i:Str)++post
noncomputable def tFst(pre post:Str)(t:TE):TE:=fun σ H Q=>(Str.empty++pre).length<=sizeLine/\t σ H fun x H1=>∃i,x=.int i/\i.natAbs.log2<1920/\(fText pre post i).length<=sizeLine/\Q (.str (fText pre post i)) H1
end L2
namespace PySem
section
variable {prog:Program}{w:World}{A:Around}{E:Value->Shared->Prop}{s:Shared}
theorem Ft{j t:Addr}{k:Nat}{xs:Array Value}{v:Value}{Q:Value->Shared->Prop}(hj:s.heap.IsTupleIter j t k)(ht:s.heap.IsTuple t xs)(hv:xs[k]? =some v)
  (q:∀h',h'.IsTupleIter j t (k+1)->cY j s.heap h'->Q v {s with heap:=h'}):wpAny (model prog w) A (cw (.ref j)) Q E s:=by
 obtain⟨o,e1,e2,e3⟩:=id hj;obtain⟨p,f1,_,n,f3⟩:=ht;unfold cw;refine aa (cT (name:=bj "__next__") hj.typeIs gP (cm gP hj.typeIs zy ?_ (zi _)));show wpAny _ _ (field (.ref j) 0>>=_) _ _ s;refine aa (dz e1 e3 (x:=.ref t) rfl ?_);show wpAny _ _ (if(bz t==bo)=true then _ else _) _ _ s;rw[if_neg (fun z:(bz t==bo)=true=>absurd z aC)];show wpAny _ _ (field (.ref j) 1>>=_) _ _ s;refine aa (dz e1 e3 (x:=.int k 0) rfl ?_);show wpAny _ _ (jj (.ref t)>>=_) _ _ s;refine aa (da f1 f3 ?_);simp only[aX,hv];refine aa (qj e1 e3 (by simp) (ai ⟨v,rfl,ai (q _ ?_ (bU ..))⟩));exact⟨_,bA _ e1 (nv (ie e3 _)),(Obj.cls_mapFields ..).trans e2,by rw[ie e3];simp[rawInt]⟩
theorem Bj{j t:Addr}{k:Nat}{xs:Array Value}{Q:Value->Shared->Prop}(hh:A.handled=none)(hj:s.heap.IsTupleIter j t k)(ht:s.heap.IsTuple t xs)(hv:xs[k]? =none)
  (q:∀h' e,Heap.ExtBut j s.heap h'->(∃o,h'.get? e=some o/\o.cls=.type "StopIteration")->E (.ref e) {s with heap:=h'}):wpAny (model prog w) A (cw (.ref j)) Q E s:=by
 obtain⟨o,e1,e2,e3⟩:=id hj;obtain⟨p,f1,_,n,f3⟩:=ht;unfold cw;refine aa (cT (name:=bj "__next__") hj.typeIs gP (cm gP hj.typeIs zy ?_ (zi _)));show wpAny _ _ (field (.ref j) 0>>=_) _ _ s;refine aa (dz e1 e3 (x:=.ref t) rfl ?_);show wpAny _ _ (if(bz t==bo)=true then _ else _) _ _ s;rw[if_neg (fun z:(bz t==bo)=true=>absurd z aC)];show wpAny _ _ (field (.ref j) 1>>=_) _ _ s;refine aa (dz e1 e3 (x:=.int k 0) rfl ?_);show wpAny _ _ (jj (.ref t)>>=_) _ _ s;refine aa (da f1 f3 ?_);simp only[aX,hv];refine aa (fA (aa (qj e1 e3 (by simp) ?_)));show wpAny _ _ (newExc (.type "StopIteration") []>>=_) _ _ _;refine aa ?_;simp only[newExc,newTuple];refine aa (b8 ?_ (by size_fits));refine aa (m:=ql _ _) (lX (a:=bo) (by first |rfl| (simp only[ql];rfl)) ?_);refine b8 ?_ (by size_fits);simp only[DJ];refine aa (wpAny_handled ?_);first |rw[show A.in1.handled=none from hh] |rw[hh]
 refine aa (ai (wpAny_throw ?_));exact q _ _ (((bU ..).extBut.push _).push _) ⟨_,au _ rfl,rfl⟩
end
end PySem
namespace L2
open PySem PySem.Spec PyProof.Rows
noncomputable def Itzt(K:ae)(a b:Addr):It:=
 ⟨fun i H=>∃xs ys x y,SqT K H a xs/\SqL K H b ys/\xs[i]? =some x/\ys[i]? =some y,
  fun i H v H'=>∃p x y,H p=none/\H'=upd H p (.tup [x,y])/\v=.ref p/\(∀xs,SqT K H a xs->xs[i]? =some x)/\∀ys,SqL K H b ys->ys[i]? =some y,
  fun i H=>∃xs,SqT K H a xs/\xs.length<=i⟩
theorem tup_ne{h:Heap}{a c:Addr}{its:Array Value}{o:Obj}(hl:h.IsTuple a its)(hc:h.get? c=some o)(hk:o.cls≠.type "tuple"):a≠c:=by
 obtain⟨o',e,k,_⟩:=hl;rintro rfl;rw[e]at hc;cases hc;exact hk k
section
variable {X:Cx}{es:List Expr}{kk:Nat}{pp:Pos}
noncomputable def iZipT(K:ae)(t:TA):TI:=fun σ H R=>t σ H fun vs H1=>∃a b,vs=[.ref a,.ref b]/\(∃xs,SqT K H1 a xs)/\(∃ys,SqL K H1 b ys)/\R (Itzt K a b) H1
end
end L2
namespace PySem
open Sem (wp)
local macro_rules | `(term| «the numeral») => return Lean.mkIdent (ck (ck (ck (Lean.Name.num (ck (ck (ck (ck (ck zx "_private") "PySem") "Builtin") "Int") "W0All") 0) "PySem") "Builtin") "readNumeral")
local macro_rules | `(term| «a value») => return Lean.mkIdent (ck (ck (ck (ck (Lean.Name.num (ck (ck (ck (ck (ck zx "_private") "PySem") "Builtin") "Int") "W0All") 0) "PySem") "Builtin") "Numeral") "value")
end PySem
namespace L2
open PySem PySem.Spec PyProof.Rows
inductive Fig:Str->Int->Prop
 |one {a:Nat} (h:a<10):Fig ⟨#[48+a]⟩ (a:Nat)
 |two {a b:Nat} (ha:a<10) (hb:b<10):Fig ⟨#[48+a,48+b]⟩ (10*a+b:Nat)
section
variable {X:Cx}{dic:Addr->Option (List (Key×V))}
noncomputable def upS(z:Str):Str:=⟨placed z fun _ c=>Unicode.upperOf c⟩
noncomputable def rUpper:V->List V->Hp->VK->Prop:=fun x vs H Q=>∃z:Str,x=.str z/\vs=[]/\(upS z).length<=100/\Q (.str (upS z)) H
noncomputable def rNiG(dic:Addr->Option (List (Key×V))):R2:=fun x y H Q=>∃a kvs k,y=.ref a/\dic a=some kvs/\x=kV k/\Q (.bl (!(eh kvs k).isSome)) H
end
end L2
namespace Q
open PySem PySem.Spec PySem.W PyProof.Rows L2
noncomputable def llt:List Int->List Int->Bool
 | [],[]=>false
 | [],_::_=>true
 |_::_,[]=>false
 |a::x,b::y=>decide (a<b)||(decide (a=b)&&llt x y)
theorem o5:∀{x y z:List Int},llt x y=true->llt y z=true->llt x z=true
 | [],[],_,h,_=>nomatch h
 | [],_::_,[],_,h=>nomatch h
 | [],_::_,_::_,_,_=>rfl
 |_::_,[],_,h,_=>nomatch h
 |_::_,_::_,[],_,h=>nomatch h
 |a::x,b::y,c::z,h,k=>by
  simp only[llt,cS,aj,decide_eq_true_eq]at h k⊢;rcases h with h|⟨rfl,h⟩
  ·rcases k with k|⟨rfl,k⟩
   ·exact .inl (by omega)
   ·exact .inl h
  ·rcases k with k|⟨rfl,k⟩
   ·exact .inl k
   ·exact .inr ⟨rfl,o5 h k⟩
theorem qx:∀{x y:List Int},x≠y->llt x y= !llt y x
 | [],[],h=>absurd rfl h
 | [],_::_,_=>rfl
 |_::_,[],_=>rfl
 |a::x,b::y,h=>by
  by_cases e:a=b
  ·subst e
   have :=qx (x:=x) (y:=y) fun z=>h (by rw[z])
   simp[llt,this]
  ·by_cases c:a<b
   ·have :¬b<a:=by omega
    simp[llt,c,this,e,bZ e]
   ·have :b<a:=by omega
    simp[llt,c,this,e,bZ e]
noncomputable def ltL(ps:List (List Int))(i j:Nat):Bool:=llt (ps.getD i []) (ps.getD j [])
noncomputable def CA(ps:List (List Int)):List Nat:=if ps.length<2 then aq ps.length else(run (ltL ps) (dB ps.length)).toList
noncomputable def dM{α:Type}(d:α)(ps:List (List Int))(ys:List α):List α:=(CA ps).map fun i=>ys.getD i d
theorem neL{ps:List (List Int)}(nd:ps.Nodup){i j:Nat}(hi:i<ps.length)(hj:j<ps.length)(h:i≠j):ps.getD i []≠ps.getD j []:=fun e=>by
 rw[ah,ah,af hi,af hj]at e;exact h ((cW nd).mp e)
theorem Ej{ps:List (List Int)}(nd:ps.Nodup):Tot (ltL ps) ps.length where
 tri:=fun i j hi hj h=>qx (neL nd hi hj h)
 tr:=fun i j k _ _ _ a b=>o5 a b
theorem lP{ps:List (List Int)}(nd:ps.Nodup):(CA ps).Perm (aq ps.length):=by
 unfold CA;split
 ·exact eW _
 ·have P:=(fv (Ej nd) (by omega)).1
  have :=gA.mp P.perm
  simpa using this
theorem uu{ps:List (List Int)}{ys:List V}{vs:List Value}(nd:ps.Nodup)(hl:ps.length=ys.length)(r:bL ys vs):bL (dM .non ps ys) (gu (ltL ps) vs):=by
 have hlen:=r.length;have e:vs.length=ps.length:=by omega
 unfold gu dM CA;rw[e];by_cases c:ps.length<2
 ·rw[if_pos c,if_pos c]
  have e2:(aq ps.length).map (fun i=>ys.getD i V.non)=ys:=by
   rw[hl];apply cX
   ·simp
   ·intro i h1 h2
    simp[h2]
  rw[e2];exact r
 ·rw[if_neg c,if_neg c]
  have P:=(fv (Ej nd) (by omega)).1;have all:∀l:List Nat,(∀i∈l,i<ps.length)->bL (l.map fun i=>ys.getD i V.non) (l.map fun i=>vs.getD i bo):=by
   intro l
   induction l with
   |nil=>exact fun _=>.nil
   |cons i l ih=>
    intro h;have hi:i<ys.length:=by have :=h i (.head _);omega
    obtain⟨u,hu,ru⟩:=r.get (af hi);refine .cons ?_ (ih fun j hj=>h j (.tail _ hj));show L2.RelV (ys.getD i V.non) (vs.getD i bo);rw[ah,af hi,ah,hu];exact ru
  refine all _ fun i hi=>?_;have m:i∈(aq ps.length).toArray:=P.perm.mem_iff.mp (i3.mp hi);simpa using m
noncomputable def pA(h:Heap)(vs:List Value)(ps:List (List Int)):Prop:=Paired (fun v k=>∃a o its n,v=.ref a/\h.get? a=some o/\o.cls=.type "tuple"/\o.data=.seq its n/\cb its.toList k) vs ps
theorem jr{h:Heap}{vs:List Value}{ps:List (List Int)}(r:pA h vs ps){i:Nat}(hi:i<vs.length):∃a o its n,vs.getD i .none=.ref a/\h.get? a=some o/\o.data=.seq its n/\cb its.toList (ps.getD i []):=by
 unfold pA at r
 induction r generalizing i with
 |nil=>exact absurd hi (fY _)
 |cons y t ih=>
  cases i with
  |zero=>
   obtain⟨a,o,its,n,e1,e2,e3,e4,e5⟩:=y;exact⟨a,o,its,n,e1,e2,e4,e5⟩
  |succ i=>exact ih (by simpa using hi)
theorem F4{h h1:Heap}(kp:∀b o,h.get? b=some o->h1.get? b=some o){vs:List Value}{ps:List (List Int)}(r:pA h vs ps)(hp:∀k∈ps,k≠[]):∃fs,KatTups h1 vs fs/\fs.length=vs.length/\∀v∈fs,∃x t,v=fR x t:=by
 unfold pA at r
 induction r with
 |nil=>exact⟨[],.nil,rfl,fun v hv=>nomatch hv⟩
 | @cons v k vs ps y t ih=>
  obtain⟨fs,a1,a2,a3⟩:=ih fun k hk=>hp k (aM _ hk);obtain⟨a,o,its,n,rfl,e2,e3,e4,e5⟩:=y;have hk:=hp k aG;obtain⟨l⟩:=its;cases l with
  |nil=>
   cases e5;exact absurd rfl hk
  |cons u l=>
   cases e5 with
   |cons x t h=>
    refine⟨_::fs,.cons (kp _ _ e2) e3 e4 rfl a1,by simp[a2],fun v hv=>?_⟩;rcases ay.mp hv with rfl|hv
    ·exact⟨_,_,rfl⟩
    ·exact a3 v hv
theorem FO{prog:Program}{w:World}{A:Around}{b fin:Bool}{C:Bool->Shared->Prop}{s:Shared}{xs ys:List Value}{x y:List Int}(i:Nat)(hx:cb xs x)(hy:cb ys y)(hl:x.length=y.length)(h:x≠y)(q:C (llt x y) s):KatLex prog w A b fin C (xs.zip ys) (i+1) s:=by
 induction hx generalizing ys y i with
 |nil=>cases hy with
  |nil=>exact absurd rfl h
  |cons=>simp at hl
 |cons a t hx ih=>cases hy with
  |nil=>simp at hl
  |cons c u hy=>
   refine kat_cons (ji ?_);by_cases e:a=c
   ·subst e
    rw[show(a==a)=true by simp];refine kat_yes (ih (i+1) hy (by simpa using hl) (fun z=>h (by rw[z])) ?_);simp[llt]at q;exact q
   ·rw[show(a==c)=false by simpa using e]
    refine kat_no ?_;rw[show(b&&(i+1==0))=false by simp];refine kat_one _ _ (lt_int ?_);simp[llt,e]at q;exact q
theorem wQ{prog:Program}{w:World}{A:Around}{ps:List (List Int)}{vs:List Value}{h0:Heap}{m:Nat}(nd:ps.Nodup)(hl:vs.length=ps.length)(r:pA h0 vs ps)(h2:2<=vs.length)(hm:∀k∈ps,k.length=m):DC prog w A (ltL ps) vs h0:=by
 have hm0:m≠0:=fun z=>by
  have e:∀i,i<ps.length->ps.getD i []=[]:=fun i hi=>by
   rw[ah,af hi];exact cg.mp ((hm _ (bO hi)).trans z)
  exact neL nd (i:=0) (j:=1) (by omega) (by omega) (by decide) ((e 0 (by omega)).trans (e 1 (by omega)).symm)
 intro s1 kp;refine⟨tuples' true,fun Q' E' q=>?_,fun i j C hi hj hij q=>?_⟩
 ·obtain⟨fs,a1,a2,a3⟩:=F4 kp r fun k hk z=>hm0 (by rw[<-hm k hk,z];rfl)
  refine kat_kind (T:=.type "int") a1 (by omega) (fun v hv=>?_) rfl q;obtain⟨x,t,rfl⟩:=a3 v hv;exact Looks.of_pure rfl
 ·obtain⟨a,o,its,n,e1,e2,e3,e4⟩:=jr r hi
  obtain⟨b,o',its',n',f1,f2,f3,f4⟩:=jr r hj;have hne:=neL nd (hl▸hi) (hl▸hj) hij;have l1:(ps.getD i []).length=m:=by rw[ah,af (hl▸hi)];exact hm _ (bO _)
  have l2:(ps.getD j []).length=m:=by rw[ah,af (hl▸hj)];exact hm _ (bO _)
  unfold kas_ask;unfold ltL at q;rw[e1,f1];generalize ps.getD i []=x at *;generalize ps.getD j []=y at *;refine kat_lt (kp _ _ e2) e3 (kp _ _ f2) f3 ?_;generalize its.toList=xs at *;generalize its'.toList=ys at *;cases e4 with
  |nil=>exact absurd l1.symm hm0
  | @cons c t xs x hx=>
   cases f4 with
   |nil=>exact absurd l2.symm hm0
   | @cons d u ys y hy=>
    refine kat_cons (ji ?_);by_cases e:c=d
    ·subst e
     rw[show(c==c)=true by simp];refine kat_yes (FO 0 hx hy (by simp at l1 l2;omega) (fun z=>hne (by rw[z])) ?_);simp[llt]at q;exact q
    ·rw[show(c==d)=false by simpa using e]
     refine kat_no (oneLt_int ?_);simp[llt,e]at q;exact q
noncomputable def IntKeys(H:Hp)(ys:List V)(ps:List (List Int)):Prop:=Paired (fun v k=>∃a,v=V.ref a/\H a=some (.tup (k.map V.int))) ys ps
theorem yr{H:Hp}{ys:List V}{ps:List (List Int)}(h:IntKeys H ys ps):ps.length=ys.length:=by
 unfold IntKeys at h
 induction h with
 |nil=>rfl
 |cons _ _ ih=>simp[ih]
theorem qA{P:Program}{w:World}{H:Hp}{h:Heap}(ok:HOk P w H h){ys:List V}{ps:List (List Int)}{vs:List Value}(k:IntKeys H ys ps):bL ys vs->pA h vs ps:=by
 unfold IntKeys at k
 induction k generalizing vs with
 |nil=>intro z;cases z;exact .nil
 |cons y t ih=>
  intro z;cases z with
  |cons r q=>
   obtain⟨a,rfl,e⟩:=y;cases r;obtain⟨_,its,rv,o,e1,e2,n,e3⟩:=ok a _ e;exact .cons ⟨a,o,its.toArray,n,rfl,e1,e2,e3,by simpa using intsAre_of rv⟩ (ih q)
noncomputable def EW(K:ae):List V->Hp->VK->Prop:=fun xs H Q=>∃p ys ps m,xs=[V.ref p]/\SqL K H p ys/\ps.length<64/\ps.Nodup/\(∀k∈ps,k.length=m)/\IntKeys H ys ps/\∀l,H l=none->Q (.ref l) (upd H l (.lst (dM .non ps ys)))
theorem wG{X:Cx}:fL X (.builtin "sorted") (EW X.K):=by
 intro pins s σ H xs us Q I r h;obtain⟨p,ys,ps,m,rfl,hq,h64,nd,hm,hk,q⟩:=h;obtain⟨u,rfl,rx⟩:=vals1 r;cases rx;obtain⟨its,r',pl,hz⟩:=I.list hq;have hl:ps.length=ys.length:=yr hk;have hlen:=r'.length;have hv:its.length=ps.length:=by omega
 refine uc (lt:=ltL ps) (vs:=its) (by rw[hv];exact Ej nd) pl.isList (by omega) (fun h2=>wQ nd hv (qA I.hok hk r') h2 hm) ?_;obtain⟨c,hc⟩:=sortedAll_at s.heap its (gu (ltL ps) its).toArray;have hz2:(dM V.non ps ys).length<=sizeLine:=by
  unfold dM;rw[ao,(lP nd).length_eq,bI];omega
 exact⟨.ref (s.heap.objs.size+1),_,I.laid (t':=s.toks) (fun b o e=>sortedAll_old e) (eG _) (show dR X.prog X.w _ _ _ (.lst (dM .non ps ys))from⟨hz2,_,c,uu nd hl r',hc⟩),rfl,q _ (I.hok.fresh (eG _))⟩
theorem yn:∀x:List Int,llt x x=false
 | []=>rfl
 |a::x=>by simp[llt,yn x]
theorem Bs{prog:Program}{w:World}{A:Around}{E:Value->Shared->Prop}{s:Shared}{p q:Addr}{us vs:List Value}{a b:List Int}{P:dS->Shared->Prop}(hx:IsTup s.heap p us.toArray)(hy:IsTup s.heap q vs.toArray)
  (ha:cb us a)(hb:cb vs b)(hl:a.length=b.length)
  (h:P (.done (.ret (.bool (llt a b)))) s):wpAny (model prog w) A (Builtin.«tuple.__lt__» ⟨[.ref p,.ref q],[]⟩) P E s:=by
 have hTb:=hy.typeIs;show wpAny _ _ (isInstance (.ref q) (.type "tuple")>>=_) _ _ s;refine aa (gZ hTb isSubtype_tuple_tuple ?_);simp only[eF,aJ,if_false];refine aa (sV hx ?_);refine aa (sV hy ?_);refine aa ?_;show wpAny _ _ (forIn (us.zip vs) _ _) _ _ s;refine wpAny_forIn_list _ (fun rest r s'=>r.1=none/\s'=s/\∃us' vs' a' b',rest=List.zip us' vs'/\us'.length=vs'.length/\cb us' a'/\cb vs' b'/\llt a b=llt a' b') _ ?_ ?_ _ _ ⟨rfl,rfl,us,vs,a,b,rfl,by rw[ha.length,hb.length,hl],ha,hb,rfl⟩
 ·rintro x rest ⟨r,_⟩ s' ⟨hr,rfl,us',vs',a',b',e,hl',ia,ib,hll⟩
  obtain rfl:r=none:=hr;cases ia with
  |nil=>cases e
  |cons m t ia=>
   cases ib with
   |nil=>cases hl'
   |cons n u ib=>
    rw[jQ]at e;cases e;dsimp only;refine aa (ji ?_);by_cases c:m=n
    ·rw[show(m==n)=true by simpa using c]
     simp only[eF,aJ,if_false];refine ai ⟨rfl,rfl,_,_,_,_,rfl,by simpa using hl',ia,ib,?_⟩;rw[hll];simp[llt,c]
    ·rw[show(m==n)=false by simpa using c]
     simp only[Bool.not_false,if_true];have e2:llt a b=decide (m<n):=by rw[hll];simp[llt,c]
     rw[e2]at h;refine aa (fA (aa (show wpAny _ _ (dg .Lt (fR m t) (fR n u)) _ _ _ from lt_int (aa (ai (ai ?_))))));exact ai h
 ·rintro⟨r,_⟩ s' ⟨hr,rfl,us',vs',a',b',e,hl',ia,ib,hll⟩
  obtain rfl:r=none:=hr;dsimp only;have e2:llt a b=false:=by
   rw[hll];cases ia with
   |nil=>cases ib with
    |nil=>rfl
    |cons n u ib=>cases hl'
   |cons m t ia=>cases ib with
    |nil=>cases hl'
    |cons n u ib=>rw[jQ]at e;cases e
  rw[e2]at h;have hz:us.toArray.size=vs.toArray.size:=by rw[av,av,ha.length,hb.length,hl]
  have e3:eI .Lt us.toArray.size vs.toArray.size=.bool false:=by rw[hz];simp[eI]
  rw[e3];exact ai h
theorem gt_tree{prog:Program}{w:World}{A:Around}{E:Value->Shared->Prop}{s:Shared}{p q:Addr}{us vs:List Value}{a b:List Int}{P:dS->Shared->Prop}(hx:IsTup s.heap p us.toArray)(hy:IsTup s.heap q vs.toArray)
  (ha:cb us a)(hb:cb vs b)(hl:a.length=b.length)
  (h:P (.done (.ret (.bool (llt b a)))) s):wpAny (model prog w) A (Builtin.«tuple.__gt__» ⟨[.ref p,.ref q],[]⟩) P E s:=by
 have hTb:=hy.typeIs;show wpAny _ _ (isInstance (.ref q) (.type "tuple")>>=_) _ _ s;refine aa (gZ hTb isSubtype_tuple_tuple ?_);simp only[eF,aJ,if_false];refine aa (sV hx ?_);refine aa (sV hy ?_);refine aa ?_;show wpAny _ _ (forIn (us.zip vs) _ _) _ _ s;refine wpAny_forIn_list _ (fun rest r s'=>r.1=none/\s'=s/\∃us' vs' a' b',rest=List.zip us' vs'/\us'.length=vs'.length/\cb us' a'/\cb vs' b'/\llt b a=llt b' a') _ ?_ ?_ _ _ ⟨rfl,rfl,us,vs,a,b,rfl,by rw[ha.length,hb.length,hl],ha,hb,rfl⟩
 ·rintro x rest ⟨r,_⟩ s' ⟨hr,rfl,us',vs',a',b',e,hl',ia,ib,hll⟩
  obtain rfl:r=none:=hr;cases ia with
  |nil=>cases e
  |cons m t ia=>
   cases ib with
   |nil=>cases hl'
   |cons n u ib=>
    rw[jQ]at e;cases e;dsimp only;refine aa (ji ?_);by_cases c:m=n
    ·rw[show(m==n)=true by simpa using c]
     simp only[eF,aJ,if_false];refine ai ⟨rfl,rfl,_,_,_,_,rfl,by simpa using hl',ia,ib,?_⟩;rw[hll];simp[llt,c]
    ·rw[show(m==n)=false by simpa using c]
     simp only[Bool.not_false,if_true];have e2:llt b a=decide (n<m):=by rw[hll];simp[llt,bZ c]
     rw[e2]at h;refine aa (fA (aa (show wpAny _ _ (dg .Gt (fR m t) (fR n u)) _ _ _ from PyProof.Rows.gt_int (aa (ai (ai ?_))))));exact ai h
 ·rintro⟨r,_⟩ s' ⟨hr,rfl,us',vs',a',b',e,hl',ia,ib,hll⟩
  obtain rfl:r=none:=hr;dsimp only;have e2:llt b a=false:=by
   rw[hll];cases ia with
   |nil=>cases ib with
    |nil=>rfl
    |cons n u ib=>cases hl'
   |cons m t ia=>cases ib with
    |nil=>cases hl'
    |cons n u ib=>rw[jQ]at e;cases e
  rw[e2]at h;have hz:us.toArray.size=vs.toArray.size:=by rw[av,av,ha.length,hb.length,hl]
  have e3:eI .Gt us.toArray.size vs.toArray.size=.bool false:=by rw[hz];simp[eI]
  rw[e3];exact ai h
section
variable {prog:Program}{w:World}{A:Around}{I:Addr}{fp wr:List Addr}{G:Array xg->Array xg->Prop}{P:Nat->Value->Prop}{St:Nat->Shared->Prop}{R:Result->Shared->Prop}
theorem CW(W:WalksS prog w A.in1 I fp wr G 2 P St){S:Addr}(hSf:S∉fp){v0 v1:Value}(h0:∀v,P 0 v->v=v0)(h1:∀v,P 1 v->v=v1){s:Shared}{c:Nat}{bt:Bool}(hst:St 0 s)
  (hS:s.heap.get? S=some {cls:=.type "list",dict:=none,data:=.seq #[] c,slots:= #[]})
  (hcmp:∀(s':Shared)(Q:Value->Shared->Prop)(E:Value->Shared->Prop),Moved (S::wr) G s s'->Q (.bool bt) s'->wpAny (model prog w) A.in1 (zl .Lt v1 v0) Q E s')
  (hR:∀s',Moved (S::wr) G s s'->R (.ok (.ret (if bt=true then v1 else v0))) s'):fo (model prog w) A (.builtin "min.loop" ⟨[.ref I,.none,.ref S],[]⟩) R s:=by
 have hSw:S∉wr:=fun h=>hSf (W.sub _ h);have up:∀b∈wr,b∈S::wr:=fun b hb=>aM _ hb;have nm:(toString "min"++toString ".loop":String)="min.loop":=by decide
 have ns:∀{b:Addr},b∉S::wr->S≠b:=fun hb h=>hb (by rw[h];exact aG)
 --the last turn
 have last:∀(s1:Shared)(x:Value)(d:Nat),St 2 s1->s1.heap.get? S=some {cls:=.type "list",dict:=none,data:=.seq #[x,x] d,slots:= #[]}->Moved (S::wr) G s s1->x=(if bt=true then v1 else v0)->
   fo (model prog w) A (.builtin "min.loop" ⟨[.ref I,.none,.ref S],[]⟩) R s1:=by
  intro s1 x d st g mv ex;refine cC xh ?_;rw[bS fH _];show wpAny _ A.in1 (jj (.ref S)>>=_) _ _ s1;refine aa (da g rfl ?_);show wpAny _ A.in1 (tryCatch (pyNext (.ref I)) _>>=_) _ _ s1;refine aa (fM (W.done s1 _ _ st fun s' hm=>?_));have g':=hm.heap S _ hSw g;show wpAny _ A.in1 (kN S (fun _=> #[])>>=_) _ _ _;refine aa (dW g' rfl (aa (fk (ai ?_))));rw[ex];exact hR _ (ny W.gtrans mv ((hm.mono up).then_heap (tk:=s'.toks) (ax _) fun b o hb e=>(aE _ _ (ns hb)).trans e))
 --the second
 have second:∀(s1:Shared)(d:Nat),St 1 s1->s1.heap.get? S=some {cls:=.type "list",dict:=none,data:=.seq #[v0,v0] d,slots:= #[]}->Moved (S::wr) G s s1->
   fo (model prog w) A (.builtin "min.loop" ⟨[.ref I,.none,.ref S],[]⟩) R s1:=by
  intro s1 d st g mv;refine cC xh ?_;rw[bS fH _];show wpAny _ A.in1 (jj (.ref S)>>=_) _ _ s1;refine aa (da g rfl ?_);show wpAny _ A.in1 (tryCatch (pyNext (.ref I)) _>>=_) _ _ s1;refine aa (fM (W.item 1 s1 _ _ (by decide) st fun v s' hP st' hm=>?_));obtain rfl:=h1 v hP;have g':=hm.heap S _ hSw g;have mv':=ny W.gtrans mv (hm.mono up);show wpAny _ A.in1 (tryCatch (holding [v,v] (zl .Lt v v0>>=_)) _>>=_) _ _ _;refine aa (fM (bC (aa (hcmp _ _ _ mv' ?_))));refine aa (bC (cQ ?_));refine aa (fk (ai ?_));cases hb:bt with
  |true=>
   simp only[if_true];refine aa (dW g' rfl (aa (fk ?_)));rw[nm];refine ai ⟨dc fH _,last _ v _ (W.frame _ s' _ s'.toks st' (ax _) fun b hbf o e=>?_) (bA _ g' rfl) (mv'.then_heap (ax _) fun b o hb e=>(aE _ _ (ns hb)).trans e) (by rw[hb];rfl)⟩;exact(aE _ _ (fun h:S=b=>hSf (by rw[h];exact hbf))).trans e
  |false=>
   simp only[aJ,if_false];refine aa (fk ?_);rw[nm];exact ai ⟨dc fH _,last _ v0 _ st' g' mv' (by rw[hb];rfl)⟩
 refine cC xh ?_;rw[bS fH _];show wpAny _ A.in1 (jj (.ref S)>>=_) _ _ s;refine aa (da hS rfl ?_);show wpAny _ A.in1 (tryCatch (pyNext (.ref I)) _>>=_) _ _ s;refine aa (fM (W.item 0 s _ _ (by decide) hst fun v s' hP st' hm=>?_));obtain rfl:=h0 v hP;have g':=hm.heap S _ hSw hS;show wpAny _ A.in1 (kN S (fun _=> #[v,v])>>=_) _ _ _;refine aa (dW g' rfl ?_);rw[nm];refine ai ⟨dc fH _,second _ _ (W.frame _ s' _ s'.toks st' (ax _) fun b hbf o e=>?_) (bA _ g' rfl) ((hm.mono up).then_heap (ax _) fun b o hb e=>(aE _ _ (ns hb)).trans e)⟩;exact(aE _ _ (fun h:S=b=>hSf (by rw[h];exact hbf))).trans e
theorem CZ(W:WalksS prog w A.in1 I fp wr G 2 P St){S:Addr}(hSf:S∉fp){v0 v1:Value}(h0:∀v,P 0 v->v=v0)(h1:∀v,P 1 v->v=v1){s:Shared}{c:Nat}{bt:Bool}(hst:St 0 s)
  (hS:s.heap.get? S=some {cls:=.type "list",dict:=none,data:=.seq #[] c,slots:= #[]})
  (hcmp:∀(s':Shared)(Q:Value->Shared->Prop)(E:Value->Shared->Prop),Moved (S::wr) G s s'->Q (.bool bt) s'->wpAny (model prog w) A.in1 (zl .Gt v1 v0) Q E s')
  (hR:∀s',Moved (S::wr) G s s'->R (.ok (.ret (if bt=true then v1 else v0))) s'):fo (model prog w) A (.builtin "max.loop" ⟨[.ref I,.none,.ref S],[]⟩) R s:=by
 have hSw:S∉wr:=fun h=>hSf (W.sub _ h);have up:∀b∈wr,b∈S::wr:=fun b hb=>aM _ hb;have nm:(toString "max"++toString ".loop":String)="max.loop":=by decide
 have ns:∀{b:Addr},b∉S::wr->S≠b:=fun hb h=>hb (by rw[h];exact aG)
 --the last turn
 have last:∀(s1:Shared)(x:Value)(d:Nat),St 2 s1->s1.heap.get? S=some {cls:=.type "list",dict:=none,data:=.seq #[x,x] d,slots:= #[]}->Moved (S::wr) G s s1->x=(if bt=true then v1 else v0)->
   fo (model prog w) A (.builtin "max.loop" ⟨[.ref I,.none,.ref S],[]⟩) R s1:=by
  intro s1 x d st g mv ex;refine cC xi ?_;rw[bS fI _];show wpAny _ A.in1 (jj (.ref S)>>=_) _ _ s1;refine aa (da g rfl ?_);show wpAny _ A.in1 (tryCatch (pyNext (.ref I)) _>>=_) _ _ s1;refine aa (fM (W.done s1 _ _ st fun s' hm=>?_));have g':=hm.heap S _ hSw g;show wpAny _ A.in1 (kN S (fun _=> #[])>>=_) _ _ _;refine aa (dW g' rfl (aa (fk (ai ?_))));rw[ex];exact hR _ (ny W.gtrans mv ((hm.mono up).then_heap (tk:=s'.toks) (ax _) fun b o hb e=>(aE _ _ (ns hb)).trans e))
 --the second
 have second:∀(s1:Shared)(d:Nat),St 1 s1->s1.heap.get? S=some {cls:=.type "list",dict:=none,data:=.seq #[v0,v0] d,slots:= #[]}->Moved (S::wr) G s s1->
   fo (model prog w) A (.builtin "max.loop" ⟨[.ref I,.none,.ref S],[]⟩) R s1:=by
  intro s1 d st g mv;refine cC xi ?_;rw[bS fI _];show wpAny _ A.in1 (jj (.ref S)>>=_) _ _ s1;refine aa (da g rfl ?_);show wpAny _ A.in1 (tryCatch (pyNext (.ref I)) _>>=_) _ _ s1;refine aa (fM (W.item 1 s1 _ _ (by decide) st fun v s' hP st' hm=>?_));obtain rfl:=h1 v hP;have g':=hm.heap S _ hSw g;have mv':=ny W.gtrans mv (hm.mono up);show wpAny _ A.in1 (tryCatch (holding [v,v] (zl .Gt v v0>>=_)) _>>=_) _ _ _;refine aa (fM (bC (aa (hcmp _ _ _ mv' ?_))));refine aa (bC (cQ ?_));refine aa (fk (ai ?_));cases hb:bt with
  |true=>
   simp only[if_true];refine aa (dW g' rfl (aa (fk ?_)));rw[nm];refine ai ⟨dc fI _,last _ v _ (W.frame _ s' _ s'.toks st' (ax _) fun b hbf o e=>?_) (bA _ g' rfl) (mv'.then_heap (ax _) fun b o hb e=>(aE _ _ (ns hb)).trans e) (by rw[hb];rfl)⟩;exact(aE _ _ (fun h:S=b=>hSf (by rw[h];exact hbf))).trans e
  |false=>
   simp only[aJ,if_false];refine aa (fk ?_);rw[nm];exact ai ⟨dc fI _,last _ v0 _ st' g' mv' (by rw[hb];rfl)⟩
 refine cC xi ?_;rw[bS fI _];show wpAny _ A.in1 (jj (.ref S)>>=_) _ _ s;refine aa (da hS rfl ?_);show wpAny _ A.in1 (tryCatch (pyNext (.ref I)) _>>=_) _ _ s;refine aa (fM (W.item 0 s _ _ (by decide) hst fun v s' hP st' hm=>?_));obtain rfl:=h0 v hP;have g':=hm.heap S _ hSw hS;show wpAny _ A.in1 (kN S (fun _=> #[v,v])>>=_) _ _ _;refine aa (dW g' rfl ?_);rw[nm];refine ai ⟨dc fI _,second _ _ (W.frame _ s' _ s'.toks st' (ax _) fun b hbf o e=>?_) (bA _ g' rfl) ((hm.mono up).then_heap (ax _) fun b o hb e=>(aE _ _ (ns hb)).trans e)⟩;exact(aE _ _ (fun h:S=b=>hSf (by rw[h];exact hbf))).trans e
theorem pv{E:Value->Shared->Prop}{s:Shared}{p q:Addr}{us vs:List Value}{a b:List Int}{Q:Value->Shared->Prop}(hh:A.handled=none)(hu:A.units+1<cLine)(hx:IsTup s.heap p us.toArray)(hy:IsTup s.heap q vs.toArray)(ha:cb us a)(hb:cb vs b)(hl:a.length=b.length)
  (h:∀h' tk,(∀c o,s.heap.get? c=some o->h'.get? c=some o)->Q (if llt b a=true then .ref q else .ref p) {s with heap:=h',toks:=tk}):
  wpAny (model prog w) A (call (.builtin "min") [.ref p,.ref q]) Q E s:=by
 have hname:(toString "min"++toString ".loop":String)="min.loop":=by decide
 have hT:(s.heap.push {cls:=.type "tuple",data:=.seq #[.ref p,.ref q]}).IsTuple s.heap.objs.size #[.ref p,.ref q]:=⟨_,au _ rfl,rfl,0,rfl⟩;have hsz:(s.heap.push {cls:=.type "tuple",data:=.seq #[.ref p,.ref q]}).objs.size=s.heap.objs.size+1:=bT ..;refine call_function_tree F.kind_min F.plain_min F.entry_min (F.args_min2 _ _) ?_;show wpAny _ A.in1 (eY "min" ["key","default"] 0 ⟨[],[]⟩>>=_) _ _ s;refine aa (lX (show eY "min" ["key","default"] 0 ⟨[],[]⟩=pure [none,none]from rfl) ?_);show wpAny _ A.in1 (newTuple [.ref p,.ref q]>>=_) _ _ s;refine aa (b8 ?_);refine aa (fZ hT ?_);refine aa (b8 ?_);rw[hname];have hz2:∀o o':Obj,((s.heap.push o).push o').objs.size=s.heap.objs.size+2:=fun o o'=>by rw[bT,bT]
 refine ai ⟨dc fH _,CW (v0:=.ref p) (v1:=.ref q) (bt:=llt b a) ((Walks.tuple (A:=A.in1) hh _ s.heap.objs.size (by rw[hsz];exact aB (bE _)) #[.ref p,.ref q]).toS) ?_ (fun v e=>by simpa using e.symm) (fun v e=>by simpa using e.symm) ⟨⟨_,ag _ (au _ rfl),rfl,rfl⟩,(hT.push _).push _⟩ (au _ rfl) ?_ ?_⟩
 ·intro hm
  simp only[hz2,hsz]at hm;rcases ay.mp hm with e|hm
  ·exact absurd e (cz (bE _))
  ·exact absurd (aL.mp hm) (cz (bx (bE _)))
 ·intro s' Q' E' mv q'
  have old:∀c o,s.heap.get? c=some o->s'.heap.get? c=some o:=fun c o e=>by
   have hlt:=aw e;refine mv.heap c o (fun hm=>?_) (ag _ (ag _ (ag _ e)));rcases ay.mp hm with e|hm
   ·rw[e]at hlt;simp only[hz2]at hlt;exact absurd hlt (fO.mpr (bQ _ _))
   ·rw[aL.mp hm,hsz]at hlt;exact absurd hlt (fO.mpr (bQ _ _))
  have hx':IsTup s'.heap p us.toArray:=hx.keeps old;have hy':IsTup s'.heap q vs.toArray:=hy.keeps old;exact kA (op:=.Lt) hy'.typeIs hx'.typeIs nG (cm nG hy'.typeIs F.entry_tuple_lt (Bs hy' hx' hb ha hl.symm ⟨_,rfl,(fun e=>nomatch e),q'⟩) (F.args_tuple_lt_2 _ _)) hu
 ·intro s' mv
  have old:∀c o,s.heap.get? c=some o->s'.heap.get? c=some o:=fun c o e=>by
   have hlt:=aw e;refine mv.heap c o (fun hm=>?_) (ag _ (ag _ (ag _ e)));rcases ay.mp hm with e|hm
   ·rw[e]at hlt;simp only[hz2]at hlt;exact absurd hlt (fO.mpr (bQ _ _))
   ·rw[aL.mp hm,hsz]at hlt;exact absurd hlt (fO.mpr (bQ _ _))
  obtain⟨h',g',d',tk',os'⟩:=s';obtain rfl:g'=s.gens:=mv.gens;obtain rfl:d'=s.drawn:=mv.drawn;obtain rfl:os'=s.os:=mv.os;exact h h' tk' old
theorem Du{E:Value->Shared->Prop}{s:Shared}{p q:Addr}{us vs:List Value}{a b:List Int}{Q:Value->Shared->Prop}(hh:A.handled=none)(hu:A.units+1<cLine)(hx:IsTup s.heap p us.toArray)(hy:IsTup s.heap q vs.toArray)(ha:cb us a)(hb:cb vs b)(hl:a.length=b.length)
  (h:∀h' tk,(∀c o,s.heap.get? c=some o->h'.get? c=some o)->Q (if llt a b=true then .ref q else .ref p) {s with heap:=h',toks:=tk}):
  wpAny (model prog w) A (call (.builtin "max") [.ref p,.ref q]) Q E s:=by
 have hname:(toString "max"++toString ".loop":String)="max.loop":=by decide
 have hT:(s.heap.push {cls:=.type "tuple",data:=.seq #[.ref p,.ref q]}).IsTuple s.heap.objs.size #[.ref p,.ref q]:=⟨_,au _ rfl,rfl,0,rfl⟩;have hsz:(s.heap.push {cls:=.type "tuple",data:=.seq #[.ref p,.ref q]}).objs.size=s.heap.objs.size+1:=bT ..;refine call_function_tree F.kind_max F.plain_max F.entry_max (F.args_max2 _ _) ?_;show wpAny _ A.in1 (eY "max" ["key","default"] 0 ⟨[],[]⟩>>=_) _ _ s;refine aa (lX (show eY "max" ["key","default"] 0 ⟨[],[]⟩=pure [none,none]from rfl) ?_);show wpAny _ A.in1 (newTuple [.ref p,.ref q]>>=_) _ _ s;refine aa (b8 ?_);refine aa (fZ hT ?_);refine aa (b8 ?_);rw[hname];have hz2:∀o o':Obj,((s.heap.push o).push o').objs.size=s.heap.objs.size+2:=fun o o'=>by rw[bT,bT]
 refine ai ⟨dc fI _,CZ (v0:=.ref p) (v1:=.ref q) (bt:=llt a b) ((Walks.tuple (A:=A.in1) hh _ s.heap.objs.size (by rw[hsz];exact aB (bE _)) #[.ref p,.ref q]).toS) ?_ (fun v e=>by simpa using e.symm) (fun v e=>by simpa using e.symm) ⟨⟨_,ag _ (au _ rfl),rfl,rfl⟩,(hT.push _).push _⟩ (au _ rfl) ?_ ?_⟩
 ·intro hm
  simp only[hz2,hsz]at hm;rcases ay.mp hm with e|hm
  ·exact absurd e (cz (bE _))
  ·exact absurd (aL.mp hm) (cz (bx (bE _)))
 ·intro s' Q' E' mv q'
  have old:∀c o,s.heap.get? c=some o->s'.heap.get? c=some o:=fun c o e=>by
   have hlt:=aw e;refine mv.heap c o (fun hm=>?_) (ag _ (ag _ (ag _ e)));rcases ay.mp hm with e|hm
   ·rw[e]at hlt;simp only[hz2]at hlt;exact absurd hlt (fO.mpr (bQ _ _))
   ·rw[aL.mp hm,hsz]at hlt;exact absurd hlt (fO.mpr (bQ _ _))
  have hx':IsTup s'.heap p us.toArray:=hx.keeps old;have hy':IsTup s'.heap q vs.toArray:=hy.keeps old;exact kA (op:=.Gt) hy'.typeIs hx'.typeIs F.slot_tuple_gt (cm F.slot_tuple_gt hy'.typeIs F.entry_tuple_gt (gt_tree hy' hx' hb ha hl.symm ⟨_,rfl,(fun e=>nomatch e),q'⟩) (F.args_tuple_gt_2 _ _)) hu
 ·intro s' mv
  have old:∀c o,s.heap.get? c=some o->s'.heap.get? c=some o:=fun c o e=>by
   have hlt:=aw e;refine mv.heap c o (fun hm=>?_) (ag _ (ag _ (ag _ e)));rcases ay.mp hm with e|hm
   ·rw[e]at hlt;simp only[hz2]at hlt;exact absurd hlt (fO.mpr (bQ _ _))
   ·rw[aL.mp hm,hsz]at hlt;exact absurd hlt (fO.mpr (bQ _ _))
  obtain⟨h',g',d',tk',os'⟩:=s';obtain rfl:g'=s.gens:=mv.gens;obtain rfl:d'=s.drawn:=mv.drawn;obtain rfl:os'=s.os:=mv.os;exact h h' tk' old
end
noncomputable def rMinL(K:ae):List V->Hp->VK->Prop:=fun xs H Q=>∃(p q:Addr)(a b:List Int),xs=[V.ref p,V.ref q]/\SqT K H p (a.map V.int)/\SqT K H q (b.map V.int)/\a.length=b.length/\Q (if llt b a=true then .ref q else .ref p) H
noncomputable def rMaxL(K:ae):List V->Hp->VK->Prop:=fun xs H Q=>∃(p q:Addr)(a b:List Int),xs=[V.ref p,V.ref q]/\SqT K H p (a.map V.int)/\SqT K H q (b.map V.int)/\a.length=b.length/\Q (if llt a b=true then .ref q else .ref p) H
theorem Ds{X:Cx}(hc:X.calm=true)(hu:X.A.units+1<cLine):fL X (.builtin "min") (rMinL X.K):=by
 intro pins s σ H xs us Q I r h;obtain⟨p,q,a,b,rfl,h1,h2,hl,hq⟩:=h;obtain⟨u,w',rfl,r1,r2⟩:=vals2 r;cases r1;cases r2;obtain⟨its,ra,pl,_⟩:=I.tuple h1;obtain⟨its',rb,pl',_⟩:=I.tuple h2;refine _root_.Q.pv (I.ok.hd hc) hu pl pl' (intsAre_of ra) (intsAre_of rb) hl fun h' tk k=>⟨_,H,I.kept k,?_,hq⟩;split <;>rfl
theorem Dt{X:Cx}(hc:X.calm=true)(hu:X.A.units+1<cLine):fL X (.builtin "max") (rMaxL X.K):=by
 intro pins s σ H xs us Q I r h;obtain⟨p,q,a,b,rfl,h1,h2,hl,hq⟩:=h;obtain⟨u,w',rfl,r1,r2⟩:=vals2 r;cases r1;cases r2;obtain⟨its,ra,pl,_⟩:=I.tuple h1;obtain⟨its',rb,pl',_⟩:=I.tuple h2;refine _root_.Q.Du (I.ok.hd hc) hu pl pl' (intsAre_of ra) (intsAre_of rb) hl fun h' tk k=>⟨_,H,I.kept k,?_,hq⟩;split <;>rfl
noncomputable def kU(k:List Int×List Int):List Int:=k.1++k.2
theorem Bt:∀{a c:List Int}(b d:List Int),a.length=c.length->llt (a++b) (c++d)=(llt a c||(decide (a=c)&&llt b d))
 | [],[],b,d,_=>by simp[llt]
 |x::a,y::c,b,d,h=>by
  have ih:=Bt (a:=a) (c:=c) b d (by simpa using h);simp only[la,llt,ih];by_cases e1:x=y
  ·subst e1;simp
  ·simp[e1]
noncomputable def P2(h:Heap)(v:Value)(k:List Int×List Int):Prop:=∃a o its n x y rest us ws,v=.ref a/\h.get? a=some o/\o.cls=.type "tuple"/\o.data=.seq its n/\its.toList=.ref x::.ref y::rest/\IsTup h x (us:List Value).toArray/\IsTup h y (ws:List Value).toArray/\cb us k.1/\cb ws k.2
noncomputable def P2s(h:Heap)(vs:List Value)(ps:List (List Int×List Int)):Prop:=Paired (P2 h) vs ps
theorem p2_at{h:Heap}{vs:List Value}{ps:List (List Int×List Int)}(r:P2s h vs ps){i:Nat}(hi:i<vs.length):P2 h (vs.getD i .none) (ps.getD i ([],[])):=by
 unfold P2s at r
 induction r generalizing i with
 |nil=>exact absurd hi (fY _)
 |cons y t ih=>
  cases i with
  |zero=>exact y
  |succ i=>exact ih (by simpa using hi)
theorem p2_kat{h h1:Heap}(kp:∀b o,h.get? b=some o->h1.get? b=some o){vs:List Value}{ps:List (List Int×List Int)}(r:P2s h vs ps):∃fs,KatTups h1 vs fs/\fs.length=vs.length/\∀v∈fs,∃x o,v=bz x/\h1.get? x=some o/\o.cls=.type "tuple":=by
 unfold P2s at r
 induction r with
 |nil=>exact⟨[],.nil,rfl,fun v hv=>nomatch hv⟩
 | @cons v k vs ps y t ih=>
  obtain⟨fs,a1,a2,a3⟩:=ih;obtain⟨a,o,its,n,x,y,rest,us,ws,rfl,e2,e3,e4,e5,⟨ox,hx,cx,_⟩,_⟩:=y;refine⟨.ref x::fs,.cons (kp _ _ e2) e3 e4 (by rw[<-B4,e5];rfl) a1,by simp[a2],fun v hv=>?_⟩;rcases ay.mp hv with rfl|hv
  ·exact⟨x,ox,rfl,kp _ _ hx,cx⟩
  ·exact a3 v hv
section
variable {prog:Program}{w:World}{A:Around}{E:Value->Shared->Prop}{s:Shared}
theorem Aw{us:List Value}{k:List Int}(r:cb us k):ItemsAre (cy prog w) (k.map .inl) us:=by
 induction r with
 |nil=>exact .nil
 |cons n t r ih=>exact .cons (ly _ _ _ _) ih
theorem AQ{h:Heap}{x:Addr}{us:List Value}{k:List Int}(t:IsTup h x us.toArray)(r:cb us k):IsTupleKey (cy prog w) h (k.map .inl) x:=by
 obtain⟨o,ho,hc,n,hd⟩:=t;exact⟨o,us.toArray,n,ho,hc,hd,Aw r⟩
theorem inl_inj{a c:List Int}:decide (a.map (eV:Int->Key)=c.map eV)=decide (a=c):=by
 refine decide_eq_decide.mpr ⟨fun h=>?_,fun h=>by rw[h]⟩
 induction a generalizing c with
 |nil=>cases c with
  |nil=>rfl
  |cons=>cases h
 |cons x a ih=>cases c with
  |nil=>cases h
  |cons y c=>
   simp only[bK,List.cons.injEq,eV.injEq]at h;rw[h.1,ih h.2]
theorem BF{x y:Addr}{us ws:List Value}{a c:List Int}{Q:Bool->Shared->Prop}(hu:A.units<cLine)(hx:IsTup s.heap x us.toArray)(hy:IsTup s.heap y ws.toArray)(ha:cb us a)(hc:cb ws c)(h:Q (decide (a=c)) s):wpAny (model prog w) A (eqBool (.ref x) (.ref y)) Q E s:=by
 rw[<-inl_inj]at h;exact wpAny_eqBool_tuple (knd:=cy prog w) hu (AQ hx ha) (AQ hy hc) h
theorem Br{x y:Addr}{us ws:List Value}{a c:List Int}{Q:Bool->Shared->Prop}(hu:A.units<cLine)(hx:IsTup s.heap x us.toArray)(hy:IsTup s.heap y ws.toArray)(ha:cb us a)(hc:cb ws c)(hl:a.length=c.length)(h:Q (llt a c) s):wpAny (model prog w) A (oneLt' false (.ref x) (.ref y)) Q E s:=
 kat_one _ _ (kA (op:=.Lt) hx.typeIs hy.typeIs nG (cm nG hx.typeIs F.entry_tuple_lt (Bs hx hy ha hc hl ⟨_,rfl,(fun e=>nomatch e),h⟩) (F.args_tuple_lt_2 _ _)) hu)
end
theorem yN{ps:List (List Int×List Int)}(i:Nat):(ps.map kU).getD i []=kU (ps.getD i ([],[])):=by
 rw[ah,ah,aA];cases ps[i]? <;>rfl
theorem asks_p2{prog:Program}{w:World}{A:Around}{ps:List (List Int×List Int)}{vs:List Value}{h0:Heap}{m:Nat}(hu:A.units<cLine)(nd:(ps.map kU).Nodup)(hl:vs.length=ps.length)(r:P2s h0 vs ps)(h2:2<=vs.length)(hm:∀k∈ps,k.1.length=m/\k.2.length=m):DC prog w A (ltL (ps.map kU)) vs h0:=by
 intro s1 kp;refine⟨tuples' false,fun Q' E' q=>?_,fun i j C hi hj hij q=>?_⟩
 ·obtain⟨fs,a1,a2,a3⟩:=p2_kat kp r
  refine kat_kind (T:=.type "tuple") a1 (by omega) (fun v hv=>?_) rfl q;obtain⟨x,o,rfl,e1,e2⟩:=a3 v hv;intro A Q E s k q;exact wY ⟨o,k _ _ e1,e2⟩ q
 ·obtain⟨a,o,its,n,x,y,rest,us,ws,e1,e2,e3,e4,e5,e6,e7,e8,e9⟩:=p2_at r hi
  obtain⟨a',o',its',n',x',y',rest',us',ws',f1,f2,f3,f4,f5,f6,f7,f8,f9⟩:=p2_at r hj;have hne:=neL nd (i:=i) (j:=j) (by rw[ao];omega) (by rw[ao];omega) hij;have l1:(ps.getD i ([],[])).1.length=m/\(ps.getD i ([],[])).2.length=m:=by rw[ah,af (hl▸hi)];exact hm _ (bO _)
  have l2:(ps.getD j ([],[])).1.length=m/\(ps.getD j ([],[])).2.length=m:=by rw[ah,af (hl▸hj)];exact hm _ (bO _)
  unfold kas_ask;unfold ltL at q;rw[yN,yN]at q hne;rw[e1,f1];generalize ps.getD i ([],[])=k at *;generalize ps.getD j ([],[])=k' at *;obtain⟨b,c⟩:=k;obtain⟨b',c'⟩:=k';unfold kU at q hne;rw[Bt _ _ (l1.1.trans l2.1.symm)]at q;refine kat_lt (kp _ _ e2) e4 (kp _ _ f2) f4 ?_;rw[e5,f5];refine kat_cons (BF hu (e6.keeps kp) (f6.keeps kp) e8 f8 ?_);by_cases e:b=b'
  ·subst e
   rw[show decide (b=b)=true by simp];have hc:c≠c':=fun z=>hne (by rw[z]);refine kat_yes (kat_cons (BF hu (e7.keeps kp) (f7.keeps kp) e9 f9 ?_));dsimp only;rw[show decide (c=c')=false by simpa using hc];refine kat_no (Br hu (e7.keeps kp) (f7.keeps kp) e9 f9 (l1.2.trans l2.2.symm) ?_);simp[yn]at q;exact q
  ·rw[show decide (b=b')=false by simpa using e]
   refine kat_no (Br hu (e6.keeps kp) (f6.keeps kp) e8 f8 (l1.1.trans l2.1.symm) ?_);simp[e]at q;exact q
noncomputable def j4(H:Hp)(ys:List V)(ps:List (List Int×List Int)):Prop:=Paired (fun v k=>∃a x y rest,v=V.ref a/\H a=some (.tup (.ref x::.ref y::rest))/\H x=some (.tup (k.1.map V.int))/\H y=some (.tup (k.2.map V.int))) ys ps
theorem vo{H:Hp}{ys:List V}{ps:List (List Int×List Int)}(h:j4 H ys ps):ps.length=ys.length:=by
 unfold j4 at h
 induction h with
 |nil=>rfl
 |cons _ _ ih=>simp[ih]
theorem p2_of{P:Program}{w:World}{H:Hp}{h:Heap}(ok:HOk P w H h){ys:List V}{ps:List (List Int×List Int)}{vs:List Value}(k:j4 H ys ps):bL ys vs->P2s h vs ps:=by
 unfold j4 at k
 induction k generalizing vs with
 |nil=>intro z;cases z;exact .nil
 |cons y t ih=>
  intro z;cases z with
  |cons r q=>
   obtain⟨a,x,z,rest,rfl,e,ex,ez⟩:=y;cases r;obtain⟨_,its,rv,o,e1,e2,n,e3⟩:=ok a _ e;obtain⟨_,ux,rx,tx⟩:=ok x _ ex;obtain⟨_,uz,rz,tz⟩:=ok z _ ez;cases rv with
   |cons r1 rv=>cases rv with
    |cons r2 rv=>
     cases r1;cases r2;exact .cons ⟨a,o,_,n,x,z,_,ux,uz,rfl,e1,e2,e3,rfl,tx,tz,intsAre_of rx,intsAre_of rz⟩ (ih q)
noncomputable def EV(K:ae):List V->Hp->VK->Prop:=fun xs H Q=>∃(p:Addr)(ys:List V)(ps:List (List Int×List Int))(m:Nat),xs=[V.ref p]/\SqL K H p ys/\ps.length<64/\(ps.map kU).Nodup/\(∀k∈ps,k.1.length=m/\k.2.length=m)/\j4 H ys ps/\∀l,H l=none->Q (.ref l) (upd H l (.lst (dM .non (ps.map kU) ys)))
theorem wF{X:Cx}(hu:X.A.units+2<cLine):fL X (.builtin "sorted") (EV X.K):=by
 intro pins s σ H xs us Q I r h;obtain⟨p,ys,ps,m,rfl,hq,h64,nd,hm,hk,q⟩:=h;obtain⟨u,rfl,rx⟩:=vals1 r;cases rx;obtain⟨its,r',pl,hz⟩:=I.list hq;have hl0:ps.length=ys.length:=vo hk;have hl:(ps.map kU).length=ys.length:=by rw[ao];exact hl0
 have hlen:=r'.length;have hv:its.length=(ps.map kU).length:=by omega
 refine uc (lt:=ltL (ps.map kU)) (vs:=its) (by rw[hv];exact Ej nd) pl.isList (by omega) (fun h2=>asks_p2 hu nd (by omega) (p2_of I.hok hk r') h2 hm) ?_;obtain⟨c,hc⟩:=sortedAll_at s.heap its (gu (ltL (ps.map kU)) its).toArray;have hz2:(dM V.non (ps.map kU) ys).length<=sizeLine:=by
  unfold dM;rw[ao,(lP nd).length_eq,bI];omega
 exact⟨.ref (s.heap.objs.size+1),_,I.laid (t':=s.toks) (fun b o e=>sortedAll_old e) (eG _) (show dR X.prog X.w _ _ _ (.lst (dM .non (ps.map kU) ys))from⟨hz2,_,c,uu nd hl r',hc⟩),rfl,q _ (I.hok.fresh (eG _))⟩
end Q
namespace PySem
noncomputable abbrev eT1(h:Heap)(t:Addr):Heap:=h.push {cls:=.type "tuple_iterator",data:=.fields #[.ref t,.int 0 0]}
noncomputable abbrev eT2(h:Heap)(t:Addr):Heap:=(eT1 h t).push {cls:=.type "enumerate",data:=.fields #[.none,.bool false,.ref h.objs.size,rawInt 0,.none,.none]}
theorem yl(t:Addr)(xs:Array Value)(n:Nat)(dct:Option Addr)(sl:Array (Option Value)):
  Meets (Builtin.«enumerate.__new__» ⟨[.type "enumerate",.ref t],[]⟩) (fun _ R s=>s.heap.get? t=some {cls:=.type "tuple",dict:=dct,data:=.seq xs n,slots:=sl}/\R (.ok (.ret (.ref (eT1 s.heap t).objs.size))) {s with heap:=eT2 s.heap t}):=
 .of_wp fun prog w A R s h=>by
  obtain⟨hp,g,d,tk,os⟩:=s;obtain⟨h0,h⟩:=h;have hsub:=sub_enumerate;have e1:Heap.IsTuple (Shared.heap ⟨hp,g,d,tk,os⟩) t xs:=⟨_,h0,rfl,n,rfl⟩
  wp_walk using jW h0
  refine wpAny_stack_any fun st=>ai ?_;split
  ·rename_i cc _ _ _ _ _
   generalize(cc==eT "enumerate")=bb;cases bb<;>(wp_walk using jW h0,fZ e1;exact⟨_,rfl,h⟩)
  ·wp_walk using jW h0,fZ e1
   exact⟨_,rfl,h⟩
section
variable {prog:Program}{w:World}{A:Around}{E:Value->Shared->Prop}{s:Shared}
theorem AG{t:Addr}{xs:Array Value}{Q:Value->Shared->Prop}(ht:s.heap.IsTuple t xs)
  (q:∀h',IsEnum h' (s.heap.objs.size+1) s.heap.objs.size 0 .none->h'.IsTupleIter s.heap.objs.size t 0->(∀c o,s.heap.get? c=some o->h'.get? c=some o)->Q (.ref (s.heap.objs.size+1)) {s with heap:=h'}):
  wpAny (model prog w) A (call (.type "enumerate") [.ref t]) Q E s:=by
 obtain⟨⟨c,dct,dt,sl⟩,e1,e2,n,e3⟩:=ht;obtain rfl:c=eT "tuple":=e2;obtain rfl:dt=Data.seq xs n:=e3;have z1:(eT1 s.heap t).objs.size=s.heap.objs.size+1:=bT ..;have g2:(eT2 s.heap t).get? (eT1 s.heap t).objs.size=some _:=au _ rfl;have g1:(eT2 s.heap t).get? s.heap.objs.size=some _:=ag _ (au _ rfl);refine callType_new F.called_enumerate (by decide) (F.typeCall_enumerate_1 _) (F.newCall_enumerate_1 _) (fun obj=>F.args_object_init_2 obj _) F.entry_enumerate_new (yl t xs n dct sl) ⟨e1,?_⟩;show _/\_;rw[z1]at g2⊢;exact⟨⟨_,g2,rfl⟩,q _ g2 ⟨_,g1,rfl,rfl⟩ fun c o x=>ag _ (ag _ x)⟩
end
theorem drawsT{prog:Program}{w:World}{A:Around}(hh:A.handled=none)(j t:Addr)(hne:t≠j)(xs:Array Value):
  Draws prog w A j [j,t] xs.size (fun i v=>xs[i]? =some v) (fun i h=>h.IsTupleIter j t i/\h.IsTuple t xs) where
 live:=fun _ _ st=>by obtain⟨⟨o,ho,_⟩,_⟩:=st;exact⟨o,ho⟩
 frame:=fun _ _ _ st hk=>by
  obtain⟨⟨o,ho,r⟩,⟨o',ho',r'⟩⟩:=st;exact⟨⟨o,hk j (by simp) o ho,r⟩,⟨o',hk t (by simp) o' ho',r'⟩⟩
 item:=fun i s Q E hi st hQ=>Ft st.1 st.2 (v:=xs[i]) (by simp[hi]) fun h' hj hs=>hQ _ h' s.toks (by simp[hi]) ⟨hj,st.2.extBut hs.extBut hne⟩ hs
 done:=fun s Q E st hE=>Bj hh st.1 st.2 (by simp) hE
end PySem
namespace L2
open PySem PySem.Spec PyProof.Rows
noncomputable def Itet(K:ae)(a:Addr):It:=
 ⟨fun i H=>∃xs x,SqT K H a xs/\xs[i]? =some x,fun i H v H'=>∃p x,H p=none/\H'=upd H p (.tup [.int i,x])/\v=.ref p/\∀xs,SqT K H a xs->xs[i]? =some x,fun i H=>∃xs,SqT K H a xs/\xs.length<=i⟩
theorem zG{P:Program}{w:World}{K:ae}{es:List Expr}{kk:Nat}{pp:Pos}(a it e:Addr)(hne:e≠it):Turn P w K (.Tuple es kk pp) (Itet K a) [e,it] e (fun i h=>(∃old,IsEnum h e it i old)/\h.IsTupleIter it a i) where
 mem:=by simp
 obj:=fun i h st b hb=>by
  obtain⟨⟨old,he⟩,o,e1,c,d⟩:=st;have hb':b=e\/b=it:=by simpa using hb
  rcases hb' with rfl|rfl
  ·exact⟨_,he,fun v z=>by cases z⟩
  ·exact⟨o,e1,fun v z=>by rw[d]at z;cases z⟩
 keep:=fun i h h' st k=>by
  obtain⟨⟨old,he⟩,o,ho,r⟩:=st;exact⟨⟨old,k e (by simp) _ he⟩,o,k it (by simp) o ho,r⟩
 item:=by
  intro X hP hw hK hc i pins s σ H E I hf st hg;subst hP hw hK;obtain⟨xs,x,hq,hx⟩:=hg;obtain⟨its,rv,pl,hz⟩:=I.tuple hq;have pl:s.heap.IsTuple a its.toArray:=pl;obtain⟨u,hu,ru⟩:=rv.get hx;obtain⟨⟨old,he⟩,hl⟩:=st;obtain⟨f0,f1,f2,f3,f4,f5⟩:=hf e (by simp);obtain⟨g0,g1,g2,g3,g4,g5⟩:=hf it (by simp);have hilt:i<its.toArray.size:=by
   have :=(aF.mp hu).1
   simpa using this
  have hit:it<s.heap.objs.size:=by obtain⟨o,q,_⟩:=hl;exact aw q
  have haI:a≠it:=by
   obtain⟨o',q',qc',_⟩:=id hl;exact tup_ne pl q' (by rw[qc'];decide+kernel)
  have haE:e≠a:=bZ (tup_ne pl he (by show eT "enumerate"≠eT "tuple";decide+kernel));have D:=drawsT (prog:=X.prog) (w:=X.w) (A:=X.A.in1) (I.ok.hd hc) it a haI its.toArray;refine wpAny_pyNext_enum_itemD D he ⟨hl,pl⟩ hilt hne (by simp[hne,haE]) fun y h' tk hy ho hst ht hsz kp=>?_;have eyu:y=u:=by
   have :its[i]? =some y:=by simpa using hy
   rw[hu]at this;exact(aV this).symm
  subst eyu;have hp:H s.heap.objs.size=none:=I.hok.fresh (ax _);have nE:∀b v,H b=some v->b≠e:=fun b v q z=>by rw[z,f0]at q;cases q
  have nI:∀b v,H b=some v->b≠it:=fun b v q z=>by rw[z,g0]at q;cases q
  have kp':∀c o,c∉[e,it]->s.heap.get? c=some o->h'.get? c=some o:=fun c o hc q=>kp c o (fun z=>hc (by simp[z])) (fun z=>hc (by simp[z])) q;have I1:Inv X pins σ (upd H s.heap.objs.size (.tup [.int i,x])) {s with heap:=h',toks:=tk+1}:=by
   refine I.step (g':=s.gens) (d':=s.drawn) (ch:=[e,it]) (fun b hb=>?_) (fun b o _ _ hc' q _=>kp' b o hc' q)
    (fun b o _ _ hc' q _=>⟨o.slots,kp' b o hc' q⟩) (fun b o _ q n=>by rw[aY (aB (aw q))];exact n)
    (fun b o hc' q=>⟨o,kp' b o hc' q⟩) (fun b ys q=>by rw[aY (cf q hp)];exact q) (fun b o v q=>by rw[aY (cf q hp)];exact q)
    (fun b ps q=>⟨#[],by rw[aY (cf q hp),q];simp⟩) (fun m hm=>?_) (fun b v q=>?_) I.bare
   ·have hb':b=e\/b=it:=by simpa using hb
    rcases hb' with rfl|rfl
    ·exact⟨f3,f1,f4,f5⟩
    ·exact⟨g3,g1,g4,g5⟩
   ·obtain⟨o,es',ep,q,r⟩:=hm
    exact⟨o,es',ep,kp _ o (bZ f1) (bZ g1) q,r⟩
   ·by_cases hb:b=s.heap.objs.size
    ·subst hb
     rw[az]at q;cases q;exact⟨by show 2<=sizeLine;decide,[.int i tk,y],.cons ⟨tk,rfl⟩ (.cons ru .nil),⟨_,ht,rfl,_,rfl⟩⟩
    ·rw[aY hb]at q
     refine(I.hok b v q).qR (fun c o hc' q'=>kp c o ?_ ?_ q') (fun c q'=>by rw[aY (cf q' hp)];exact q') fun c ys q'=>by rw[aY (cf q' hp)];exact q'
     ·rcases hc' with z|z
      ·rw[z];exact nE b v q
      ·exact nE c _ z
     ·rcases hc' with z|z
      ·rw[z];exact nI b v q
      ·exact nI c _ z
  have fe:(upd H s.heap.objs.size (.tup [.int i,x])) e=none:=by rw[aY (aB (aw he))];exact f0
  refine⟨_,rfl,wpAny_letOwnedTupleGo_enum (s:={s with heap:=h',toks:=tk+1}) ho fun h'' he'' hs''=>?_⟩;have I2:Inv X pins σ (upd H s.heap.objs.size (.tup [.int i,x])) {s with heap:=h'',toks:=tk+1}:=I1.turned (t':=tk+1) (fun b o hb q=>hs''.extBut b o hb q) fe f1 f3 f4 f5;refine⟨.ref s.heap.objs.size,_,I2,rfl,⟨_,x,hp,rfl,rfl,fun ys hy'=>by rw[I.oR hy' hq];exact hx⟩,⟨⟨y,?_⟩,hst.1.extBut hs''.extBut (bZ hne)⟩,fun b hb=>?_⟩
  ·have :((i:Int)+1)=((i+1:Nat):Int):=by push_cast;rfl
   rw[<-this];exact he''
  ·have hb':b=e\/b=it:=by simpa using hb
   rcases hb' with rfl|rfl
   ·exact fe
   ·rw[aY (aB hit)];exact g0
 done:=by
  intro X hP hw hK hc i pins s σ H E I hf st hg;subst hP hw hK;obtain⟨xs,hq,hx⟩:=hg;obtain⟨its,rv,pl,hz⟩:=I.tuple hq;have pl:s.heap.IsTuple a its.toArray:=pl;obtain⟨⟨old,he⟩,hl⟩:=st;obtain⟨g0,g1,g2,g3,g4,g5⟩:=hf it (by simp);have hT:s.TypeIs (.ref e) "enumerate":=⟨_,he,rfl⟩;have hlen:=rv.length;unfold pyNext;refine aa (jA (cT (name:=bj "__next__") hT F.slot_enumerate_next (cm F.slot_enumerate_next hT F.entry_enumerate_next ?_ (F.args_enumerate_next_1 _))));show wpAny _ _ (field (.ref e) 2>>=_) _ _ _;refine aa (dz he rfl (x:=.ref it) rfl ?_);refine aa (Bj (A:=X.A.in1) (I.ok.hd hc) hl pl (by simp;omega) fun h' z he' hx'=>?_);obtain⟨o,ho,hcl⟩:=hx';refine aa (gZ (T:="StopIteration") (b:=true) ⟨o,ho,hcl⟩ DL ?_);exact ai ⟨rfl,I.turned (t':=s.toks) (fun b o hb q=>he' b o hb q) g0 g1 g3 g4 g5⟩
 self:=fun _ _ _ _ _ st h=>by
  obtain⟨⟨old,he⟩,_⟩:=st;exact wpAny_pyIter_enum he h
section
variable {X:Cx}{es:List Expr}{kk:Nat}{pp:Pos}
noncomputable def F8(K:ae)(t:TA):TI:=fun σ H R=>t σ H fun vs H1=>∃a,vs=[.ref a]/\(∃xs,SqT K H1 a xs)/\R (Itet K a) H1
theorem E9{l:Expr}{t:TA}{p pos:Pos}(hg:Gl X "enumerate")(hm:X.mg "enumerate"=none)(ha:PA X [l] t)(hs:bc [l] X.env=[(false,eval l X.env)]:=by rfl):
  PI X (.Tuple es kk pp) (.Call (.Name "enumerate" p) [l] [] pos) (F8 X.K t):=by
 intro pins s σ H R I h;refine Call_ (iu I hg hm boot_enumerate (bV (thn (ha pos pins s σ H _ I h) fun us s1 ⟨vs,H1,I1,r1,q1⟩=>?_) hs rfl));obtain⟨a,rfl,⟨xs,hq⟩,q⟩:=q1;obtain⟨u,rfl,ru⟩:=r1.one;cases ru;obtain⟨its,rv,pl,hz⟩:=I1.tuple hq;have pl:s1.heap.IsTuple a its.toArray:=pl;refine AG pl fun h' he hl' kp=>?_;refine wpAny_pyIter_enum (s:={s1 with heap:=h'}) he ?_;have I2:Inv X pins σ H1 {s1 with heap:=h',toks:=s1.toks}:=I1.kept kp;refine⟨_,[s1.heap.objs.size+1,s1.heap.objs.size],_,_,H1,rfl,I2,zG a s1.heap.objs.size (s1.heap.objs.size+1) (Nat.succ_ne_self _),⟨⟨_,he⟩,hl'⟩,fun b hb=>?_,q⟩;have hbs:s1.heap.objs.size<=b:=by
  simp only[ay,bJ,or_false]at hb;rcases hb with rfl|rfl
  ·exact eG _
  ·exact ax _
 exact I1.wz hbs (I1.hok.fresh hbs)
end
end L2
namespace L2
open PySem PySem.Spec PySem.W PyProof.Rows
noncomputable def exO(e C:Addr)(d:Option Addr):HO:=.ext fun h=>∃x0,h.get? e=some {cls:=.ref C,dict:=d,data:=.fields #[.ref x0,.none,.none,.none,.bool false,.none]}
noncomputable def xdO(d:Addr)(fs:List (Str×V)):HO:=.ext fun h=>∃mA,h.Ns1 d mA/\(∀f,md (fs.lookup f) (mA f))/\qm mA (fs.map (·.1))
noncomputable def Gu(K:ae)(C f:Addr)(bmB:List Value)(newId:String):Bool:=match K.lookup C with
 |some ⟨.type "type",_,.cls cd,sl⟩=>(match cd.mro,sl.toList with
  |.ref C'::bm,[_,_,_,_,some (.builtin n),_]=>C'==C&&n==newId&& !cd.hasDel&&tailIn K bmB bm&&nsOkIn K cd.ns&&nsIn K cd.ns "__init__"==some (some (.ref f))
  |_,_=>false)
 |_=>false
structure MkX(K:ae)(C f:Addr):Prop where
 ex:Gu K C f bmV "ValueError.__new__"=true
 fn:∃o,K.lookup f=some o/\o.cls=.type "function"
 kp:keepIn K (.ref C)=true
end L2
namespace L2
open PySem PySem.Spec PySem.W PyProof.Rows PySem.Builtin PySem.Builtin.ObjectAttr
noncomputable def overX:List Value->Bool
 |.ref _::r=>overX r
 |l=>l==bmV
section
variable {prog:Program}{w:World}{K:ae}{A:Around}{E:Value->Shared->Prop}{s:Shared}{e C:Addr}{name:Str}{v:Value}{vs:Array Value}{Q:Unit->Shared->Prop}
structure StX(K:ae)(C:Addr)(name:Str):Prop where
 hs:findIn K (.ref C) "__setattr__"=some (some (.builtin "object.__setattr__"))
 hp:(clsIn K C).any (fun cd=>overX cd.mro)=true
 ht:takerIn K C name=some none
 hd:(clsIn K C).any (·.hasDict)=true
noncomputable abbrev exObj(C:Addr)(d:Option Addr)(vs:Array Value):Obj:={cls:=.ref C,dict:=d,data:=.fields vs}
end
end L2
namespace L2
open PySem PySem.Spec PySem.W PyProof.Rows
noncomputable def sFldX(K:ae)(ta tv:TE)(f:Str):TS:=fun D σ H=>tv σ H fun y H1=>ta σ H1 fun x H2=>∃a C,x=.ref a/\StX K C f/\
 ((H2 a=some (exO a C none)/\∀dd,H2 dd=none->D.nx σ (upd (upd H2 dd (xdO dd [(f,y)])) a (exO a C (some dd))))\/
  ∃dd fs,H2 a=some (exO a C (some dd))/\H2 dd=some (xdO dd fs)/\fs.length<1000/\D.nx σ (upd H2 dd (xdO dd (ki f y fs))))
structure BsX(K:ae)(B:Addr):Prop where
 ga:specialIn K (.ref B) "__getattribute__"=some (some (.builtin "type.__getattribute__"))
 rd:readsIn K B (.type "type")=true
 fd:findCls K (.ref B) (.type "type") "__init__"=some (.val (.builtin "ValueError.__init__"))
noncomputable def tBase(K:ae)(B:Addr)(t:TA):TE:=fun σ H Q=>BsX K B/\t σ H fun vs H1=>∃a C f us,vs=.ref a::us/\H1 a=some (exO a C none)/\us.length<=sizeLine/\Gu K C f bmV "ValueError.__new__"=true/\Q .non H1
section
variable {X:Cx}{x:Str}{B:Addr}{e:Expr}{es:List Expr}{t:TA}{np apos pos:Pos}
theorem yi{prog:Program}{w:World}{A:Around}{E:Value->Shared->Prop}{env:Env}{o:Expr}{name:Str}{args:List Expr}{s:Shared}{Q:Value->Shared->Prop}
  (hbase:iw o name env (eval o env)=eval o env)
  (hfew:((backTo pos (bc args env)).all (fun x=> !x.1)&&(w8 pos (lY [] env)).all (fun x=>x.1.isSome)
   &&decide (args.length+([]:List Keyword).length+(if([]:List Keyword).isEmpty then 0 else 1)<30))=true)
  (hline:(apos.endLine==pos.line)=true)
  (h:wpAny (model prog w) A (eval o env) (fun ov s₁=>∀pl,wpAny (model prog w) A (getMethod ov name pl) (fun fx s₂=>wpAny (model prog w) A (callWith pos fx.1 fx.2 (backTo pos (bc args env)) (w8 pos (lY [] env))) Q E s₂) E s₁) E s):
  wpAny (model prog w) A (eval (.Call (.Attribute o name apos) args [] pos) env) Q E s:=by
 rw[arm_eval_Call,hbase];refine aa (eD h (fun ov s₁ h₁=>?_) fun _ _ e=>e);refine aa (jz ?_);have hform:methodCallForm (args.length+([]:List Keyword).length) (backTo pos (bc args env)) (w8 pos (lY [] env))=true:=hfew;have hpos:methodCallPos true o env apos pos=pure pos:=by unfold methodCallPos;simp[hline]
 unfold methodCall;rw[hform];refine aa (bC (eD (h₁ _) (fun fx s₂ h₂=>?_) fun _ _ e=>e));exact aa (lX hpos h₂)
end
noncomputable def del(H:Hp)(a:Addr):Hp:=fun b=>if b=a then none else H b
section
variable {X:Cx}{pins:List (Addr×Obj)}{σ:St}{H:Hp}{s:Shared}
structure NewX(X:Cx)(pins:List (Addr×Obj))(H:Hp)(s:Shared)(a C:Addr)(d:Option Addr):Prop where
 at_:∃x0,s.heap.get? a=some (exObj C d #[.ref x0,.none,.none,.none,.bool false,.none])
 new:X.s₀.heap.get? a=none
 un:H a=none
 pins:∀p∈X.pn++pins,p.1≠a
theorem CF{M:Model}{E:Value->Shared->Prop}{Q:Unit->Shared->Prop}{a C:Addr}{d:Option Addr}(I:Inv X pins σ H s)(stk:X.stack=X.env::X.outer)(hf:X.env.frame=some X.env.locals)(n:NewX X pins H s a C d)
  (h:∀s2,Inv X pins σ H s2->Fly X.s₀.heap s2.heap H (X.pn++pins) a (.ref C) d->Q () s2):
  wpAny M X.A (kO (.ref a) X.env) (fun _ s'=>wpAny M X.A (zb (.ref a) none) Q E s') E s:=by
 obtain⟨x0,ht⟩:=n.at_;unfold kO;simp only[hf];refine aa (dz (x:=.none) ht rfl (by rfl) ?_);rw[if_neg (show ¬(bo != bo)=true by simp)];exact enter I stk hf ht rfl (by simp) n.new n.un n.pins h
noncomputable def G1(X:Cx)(E:XS):Prop:=∀(pins:List (Addr×Obj))(σ:St)(H:Hp)(s:Shared)(a C:Addr)(d:Option Addr),Inv X pins σ H s->NewX X pins H s a C d->E σ (.ref C) d H->X.xe (.ref a) s
theorem sI{P:Program}{w:World}{K:ae}{mg:Str->Option Value}{base:Heap}{N:List Str}{qual:Str}{scope:Scope}{f:Addr}{cd:Value}{A:Around}{outer:List Env}{s:Shared}{H:Hp}{E:XK}:
  G1 (tJ (CXx P w) P w K mg base N qual scope f cd A outer s H E) (fun _=>E):=by
 intro pins σ H1 s1 a C d I n q;show wpAny _ _ (leaving _ _) _ _ _;unfold leaving;refine aa (CF I rfl rfl n fun s2 I2 F2=>?_);obtain⟨⟨T,oe,vs,oT,ts,h1,h2,h3,h4,h5,h6,h7,h8,h9,h10,h11,_⟩,b1,b2,_⟩:=F2;exact⟨a,.ref C,d,H1,rfl,I2.os,I2.bare,I2.base,I2.hok,⟨⟨T,oe,vs,oT,ts,h1,h2,h3,h4,h5,h6,h7,h8,h9,h10,h11,fun _ z=>nomatch z⟩,b1,b2,fun _ z=>nomatch z⟩,q⟩
noncomputable def sRaisX(C:Addr)(sp:Sp)(dvs:List V)(E:XS)(t:TA):TS:=fun _ σ H=>t σ H fun vs H1=>vs.length<=sizeLine/\∀a,H1 a=none->
 sp (.ref a::(vs++dvs)) (upd H1 a (exO a C none)) (fun v H2=>v=.non/\∃d,H2 a=some (exO a C d)/\E σ (.ref C) d (del H2 a)) (E σ)
end
noncomputable def fldOk(K:ae)(C:Addr)(f:Str):Bool:=
 excOk K C&&findIn K (.ref C) f==some none&&(match clsIn K C with |some cd=>cd.hasDict|none=>false)
noncomputable def rFld(K:ae)(f:Str):V->Hp->VK->Prop:=fun x H Q=>∃a C dd fs v,x=.ref a/\H a=some (Gq a (.ref C) (some dd))/\H dd=some (xdO dd fs)/\fldOk K C f=true/\fs.lookup f=some v/\Q v H
noncomputable def tRepl(ta tb:TE)(i:Nat)(c d:Str)(tr:TA):TA:=fun σ H Q=>ta σ H fun x H1=>tb σ H1 fun y H2=>∃u v z:Str,x=.str u/\y=.str v/\(1<=u.length/\1<=v.length/\u.length+v.length<=sizeLine/\z.length<=1000)/\σ[i]? =some (some (.str z))/\
 tr σ H2 fun xs H3=>Q (.str (u++v)::.str (Txt.replace z c d)::xs) H3
section
variable {X:Cx}{a b:Expr}{es:List Expr}{ta tb:TE}{tr:TA}{i:Nat}{x c d:Str}{p1 np apos cpos p2 p3:Pos}{j1 j2:Nat}
noncomputable def tMkf(K:ae)(C:Addr)(sp:Sp)(dvs:List V)(E:XS)(fl:Str)(t:TA):TE:=fun σ H Q=>t σ H fun vs H1=>vs.length<=sizeLine/\∀a,H1 a=none->
 sp (.ref a::(vs++dvs)) (upd H1 a (exO a C none)) (fun v H2=>v=.non/\∃b dd fs w,V.ref a=.ref b/\H2 b=some (exO b C (some dd))/\H2 dd=some (xdO dd fs)/\fldOk K C fl=true/\fs.lookup fl=some w/\Q w H2) (E σ)
end
noncomputable def rSlW(K:ae):V->Option Int->Option Int->Hp->VK->Prop:=fun x lo hi H Q=>∃a xs,x=.ref a/\SqT K H a xs/\HT.sIx xs.length 0 lo=0/\HT.sIx xs.length xs.length hi=xs.length/\Q (.ref a) H
noncomputable def zJ(C:Addr)(sp:Sp)(dvs:List V)(E:XS)(t:TA):TE:=fun σ H Q=>tMake C sp dvs (E σ) t σ H Q
noncomputable def kg(C:Addr)(m:Str)(sp:Sp)(dvs:List V)(E:XS)(ta:TE)(t:TA):TE:=fun σ H Q=>xC C m sp dvs (E σ) ta t σ H Q
section
variable {X:Cx}{CX:CXT}{k:Nat}{f C:Addr}{fd:eN}{ps:List Str}{sp:Sp}{dvs:List V}{ds:List Value}{E:XS}{x m:Str}{p pos apos:Pos}{e o:Expr}{es:List Expr}{ta:TE}{t:TA}
theorem Co{pins:List (Addr×Obj)}{σ:St}{H:Hp}{s:Shared}{Q:VK}{us:List Value}{vs:List V}(M:Mk X.K C f)(F:gY X.prog X.w X.K X.mg X.base CX k f fd ps sp)(hr:hZ (k+1) X.A)(hb:Binds X.K fd ps ds)(hd:bL dvs ds)
  (hx:oF CX X E)(I:Inv X pins σ H s)(r:bL vs us)
  (h:∀x dx,H x=none->H dx=none->dx≠x->sp (.ref x::(vs++dvs)) (upd (upd H dx (.own x)) x (.ins C dx [])) (fun v H2=>v=.non/\Q (.ref x) H2) (E σ)):
  wpAny (model X.prog X.w) X.A (call (.ref C) us) (EP X pins σ Q) X.xe s:=by
 have hq:=h (s.heap.objs.size+1) s.heap.objs.size (I.hok.fresh (eG _)) (I.hok.fresh (ax _)) (aB (bE _));have I2:=Inv.made (C:=C) I;have r2:bL (V.ref (s.heap.objs.size+1)::(vs++dvs)) (bz (s.heap.objs.size+1)::(us++ds)):=.cons rfl (r.append hd);have hl:(bz (s.heap.objs.size+1)::us++ds).length=ps.length:=by
  have e:=r2.length;rw[F.len _ _ _ _ hq]at e;exact e.symm
 refine DE (FK (f:=f) I.kIn M.makes M.init (beq_iff_eq.mp M.fn) (iY (F.run _ X.stack _ _ ⟨bz (s.heap.objs.size+1)::us,[]⟩ (bz (s.heap.objs.size+1)::(us++ds)) _ _ (E σ) (hr.make C us [])
  (I2.env0.make C us []) (hb _ (bz (s.heap.objs.size+1)::us) I2.kIn hl) r2 hq) fun r s' hq'=>?_))
 cases r with
 |error e=>exact hx pins σ _ _ e s' I2 hq'
 |ok fl=>
  cases fl with
  |ret u=>
   obtain⟨v,H',I3,rv,ev,q3⟩:=I2.after hq';subst ev;exact⟨rv,⟨V.ref (s.heap.objs.size+1),H',I3,rfl,q3⟩⟩
  |next =>exact gz hq'
  |brk=>exact gz hq'
  |cont=>exact gz hq'
theorem Cw(M:Mk X.K C f)(F:gY X.prog X.w X.K X.mg X.base CX k f fd ps sp)(hr:hZ (k+1) X.A)(hg:Gl X x)(hm:X.mg x=some (.ref C))(hb:Binds X.K fd ps ds)(hd:bL dvs ds)(hx:oF CX X E)
  (hdb:(x==("__debug__":Str))=false):PE X (.Call (.Name x p) [] [] pos) (zJ C sp dvs E jC):=by
 intro pins s σ H Q I h;refine eM (nW I hg hm ?_ hdb);exact nu I.kIn M.kp (Co (us:=[]) M F hr hb hd hx I .nil h)
theorem xO(he:PE X o ta)(c:Cls X.K C)(hm:DB X.K C m f)(F:gY X.prog X.w X.K X.mg X.base CX k f fd ps sp)(hr:hZ k X.A)(hb:Binds X.K fd ps ds)(hd:bL dvs ds)(hx:oF CX X E)(ha:PA X (e::es) t)
  (hbase:iw o m X.env (eval o X.env)=eval o X.env)(hst:bc (e::es) X.env=(false,eval e X.env)::bc es X.env)(hpl:(backTo pos (bc es X.env)).any (·.1)=false)
  (hfew:((backTo pos (bc (e::es) X.env)).all (fun x=> !x.1)&&(w8 pos (lY [] X.env)).all (fun x=>x.1.isSome)
   &&decide ((e::es).length+([]:List Keyword).length+(if([]:List Keyword).isEmpty then 0 else 1)<30))=true)
  (hline:(apos.endLine==pos.line)=true):
  PE X (.Call (.Attribute o m apos) (e::es) [] pos) (kg C m sp dvs E ta t):=by
 intro pins s σ H Q I h;refine yi hbase hfew hline (thn (he pins s σ H _ I h) fun u s1 ⟨x,H1,I1,rx,a,dx,fs,ex,ea,l,q⟩=>?_);subst ex;obtain rfl:u=bz a:=rx;intro pl;refine rS I1 ea c hm l ?_;refine oJ (first :=[.ref a]) (h₀:=X.base) I.ok.mod.kin hm.kp (thn (ha pos pins s1 σ H1 _ I1 q) fun us s2 ⟨vs,H2,I2,r,q2⟩=>⟨I2.kIn,?_⟩) hst hpl;exact qp (us:=.ref a::us) (vs:=.ref a::vs) F hr hb hd hx I2 (.cons rfl r) q2
theorem uo(he:PE X o ta)(c:Cls X.K C)(hm:DB X.K C m f)(F:gY X.prog X.w X.K X.mg X.base CX k f fd ps sp)(hr:hZ k X.A)(hb:Binds X.K fd ps ds)(hd:bL dvs ds)(hx:oF CX X E)
  (hbase:iw o m X.env (eval o X.env)=eval o X.env)(hline:(apos.endLine==pos.line)=true):
  PE X (.Call (.Attribute o m apos) [] [] pos) (kg C m sp dvs E ta jC):=by
 intro pins s σ H Q I h;refine yi hbase rfl hline (thn (he pins s σ H _ I h) fun u s1 ⟨x,H1,I1,rx,a,dx,fs,ex,ea,l,q⟩=>?_);subst ex;obtain rfl:u=bz a:=rx;intro pl;refine rS I1 ea c hm l ?_;exact nu (first :=[.ref a]) I1.kIn hm.kp (qp (us:=[.ref a]) (vs:=[.ref a]) F hr hb hd hx I1 (.cons rfl .nil) q)
end
end L2
namespace L2
open PySem PySem.Spec PyProof.Rows
section
variable {prog:Program}{w:World}{A:Around}{E:Value->Shared->Prop}{s:Shared}
theorem lia{a:Addr}{Q:Option Obj->Shared->Prop}(h:Q (s.heap.get? a) s):wpAny (model prog w) A (loadIfAlive a) Q E s:=fun _ _ _=>h
noncomputable abbrev IsZ(h:Heap)(z TI TO:Addr)(f0:Value)(b1:Bool):Prop:=h.get? z=some {cls:=.type "zip",dict:=none,data:=.fields #[f0,.bool b1,.bool false,.ref TI,.ref TO],slots:= #[]}
theorem yc{z TI TO q:Addr}{b1:Bool}{o:Obj}{Q:Bool->Shared->Prop}(hz:IsZ s.heap z TI TO (rawInt q) b1)(ho:s.heap.get? q=some o)
  (hQ:∀h',IsZ h' z TI TO (rawInt q) true->cY z s.heap h'->Q false {s with heap:=h'}):wpAny (model prog w) A (dU (.ref z)) Q E s:=by
 unfold dU;refine aa (dz hz rfl (x:=rawInt q) rfl ?_);show wpAny _ _ (loadIfAlive (q:Int).toNat>>=_) _ _ _;refine aa (lia ?_);rw[aX,ho];show wpAny _ _ (field (.ref z) 1>>=_) _ _ _;refine aa (dz hz rfl (x:=.bool b1) rfl ?_);cases b1 with
 |true=>exact ai (hQ s.heap hz (zh ..))
 |false=>
  show wpAny _ _ (nj (.ref z) 1 (.bool true)>>=_) _ _ _;exact aa (cZ hz (by simp) fun h' hz' hs'=>ai (hQ h' hz' hs'))
theorem B5{z TI TO i1 i2 l1 l2 q:Addr}{k1 k2:Nat}{xs ys:Array Value}{x y:Value}{b1:Bool}{o:Obj}{Q:Value->Shared->Prop}(D:w9 z TI TO i1 i2 l1 l2)
  (hz:IsZ s.heap z TI TO (rawInt q) b1)(hq:s.heap.get? q=some o)(hTI:IsPair s.heap TI (.ref i1) (.ref i2))
  (h1:s.heap.IsListIter i1 l1 k1)(h2:s.heap.IsListIter i2 l2 k2)(hl1:s.heap.IsList l1 xs)(hl2:s.heap.IsList l2 ys)(hx:xs[k1]? =some x)(hy:ys[k2]? =some y)
  (hQ:∀h',IsZ h' z TI TO (rawInt q) true->h'.IsListIter i1 l1 (k1+1)->h'.IsListIter i2 l2 (k2+1)->IsPair h' s.heap.objs.size x y->h'.objs.size=s.heap.objs.size+1->
   (∀c o,c≠z->c≠i1->c≠i2->s.heap.get? c=some o->h'.get? c=some o)->Q (.ref s.heap.objs.size) {s with heap:=h'}):
  wpAny (model prog w) A (Builtin.«zip.__next__» ⟨[.ref z],[]⟩) (fun fin s'=>∃v,fin=.done (.ret v)/\Q v s') E s:=by
 show wpAny _ _ (field (.ref z) 2>>=_) _ _ _;refine aa (dz hz rfl (x:=.bool false) rfl ?_);show wpAny _ _ (field (.ref z) 3>>=_) _ _ _;refine aa (dz hz rfl (x:=.ref TI) rfl ?_);refine aa (da hTI rfl ?_);show wpAny _ _ (dU (.ref z)>>=_) _ _ _;refine aa (yc hz hq fun h₁ hz₁ hs₁=>?_);simp only[aJ,if_false];rw[<-jP];simp only[mj,jS];refine aa (aa (aa (bC ?_)));show wpAny _ _ (cw (.ref i1)>>=_) _ _ _;refine aa (oH (h1.extBut hs₁.extBut D.i1z) (hl1.extBut hs₁.extBut D.l1z) hx fun h₂ h1₂ hs₂=>ai (ai ?_));refine aa (aa (bC ?_));show wpAny _ _ (cw (.ref i2)>>=_) _ _ _;refine aa (oH ((h2.extBut hs₁.extBut D.i2z).extBut hs₂.extBut D.i12.symm) ((hl2.extBut hs₁.extBut D.l2z).extBut hs₂.extBut D.l2i1) hy fun h₄ h2₄ hs₄=>ai (ai (ai ?_)));refine aa (DD (hsz:=(by show 2<=sizeLine;decide)) ?_);have hsz:h₄.objs.size=s.heap.objs.size:=by rw[hs₄.1,hs₂.1,hs₁.1]
 refine ai ⟨_,rfl,?_⟩;rw[hsz];have up:∀c o,h₄.get? c=some o->(h₄.push {cls:=.type "tuple",data:=.seq #[x,y]}).get? c=some o:=fun c o e=>ag _ e;refine hQ _ (up _ _ (hs₄.extBut _ _ D.i2z.symm (hs₂.extBut _ _ D.i1z.symm hz₁))) ((h1₂.extBut hs₄.extBut D.i12).at fun o e=>up _ o e) (h2₄.at fun o e=>up _ o e) ?_ (by rw[bT,hsz]) fun c o c1 c2 c3 e=>up _ _ (hs₄.extBut _ _ c3 (hs₂.extBut _ _ c2 (hs₁.extBut _ _ c1 e)));rw[<-hsz];exact au _ rfl
theorem D6{z TI TO i1 i2 l1 l2 q:Addr}{k1 k2:Nat}{xs ys:Array Value}{b1:Bool}{o:Obj}{Q:dS->Shared->Prop}(hh:A.handled=none)(D:w9 z TI TO i1 i2 l1 l2)
  (hz:IsZ s.heap z TI TO (rawInt q) b1)(hq:s.heap.get? q=some o)(hTI:IsPair s.heap TI (.ref i1) (.ref i2))
  (h1:s.heap.IsListIter i1 l1 k1)(h2:s.heap.IsListIter i2 l2 k2)(hl1:s.heap.IsList l1 xs)(hl2:s.heap.IsList l2 ys)(hend:xs[k1]? =none\/ys[k2]? =none)
  (hE:∀h' e,(∀c o,c≠z->c≠i1->c≠i2->s.heap.get? c=some o->h'.get? c=some o)->(∃o,h'.get? e=some o/\o.cls=.type "StopIteration")->E (.ref e) {s with heap:=h'}):
  wpAny (model prog w) A (Builtin.«zip.__next__» ⟨[.ref z],[]⟩) Q E s:=by
 show wpAny _ _ (field (.ref z) 2>>=_) _ _ _;refine aa (dz hz rfl (x:=.bool false) rfl ?_);show wpAny _ _ (field (.ref z) 3>>=_) _ _ _;refine aa (dz hz rfl (x:=.ref TI) rfl ?_);refine aa (da hTI rfl ?_);show wpAny _ _ (dU (.ref z)>>=_) _ _ _;refine aa (yc hz hq fun h₁ hz₁ hs₁=>?_);simp only[aJ,if_false];rw[<-jP];simp only[mj,jS];refine aa (aa (aa (bC ?_)));show wpAny _ _ (cw (.ref i1)>>=_) _ _ _;cases hx:xs[k1]? with
 |none=>exact aa (wpAny_nextOf_list_end hh (h1.extBut hs₁.extBut D.i1z) (hl1.extBut hs₁.extBut D.l1z) hx fun h₂ e hs₂ he=>hE h₂ e (fun c o c1 c3 _ x=>hs₂ _ _ c3 (hs₁.extBut _ _ c1 x)) he)
 |some x=>
  have hy:ys[k2]? =none:=by rcases hend with h|h;rw[hx]at h;cases h;exact h
  refine aa (oH (h1.extBut hs₁.extBut D.i1z) (hl1.extBut hs₁.extBut D.l1z) hx fun h₂ h1₂ hs₂=>ai (ai ?_));refine aa (aa (bC ?_));show wpAny _ _ (cw (.ref i2)>>=_) _ _ _;exact aa (wpAny_nextOf_list_end hh ((h2.extBut hs₁.extBut D.i2z).extBut hs₂.extBut D.i12.symm) ((hl2.extBut hs₁.extBut D.l2z).extBut hs₂.extBut D.l2i1) hy fun h₄ e hs₄ he=>hE h₄ e (fun c o c1 c3 c4 x=>hs₄ _ _ c4 (hs₂.extBut _ _ c3 (hs₁.extBut _ _ c1 x))) he)
theorem jE{n0 z:Nat}(h:z<n0)(j:Nat):n0+j≠z:=by omega
structure ZSt(z TI TO i1 i2 l1 l2:Addr)(xs ys:Array Value)(n0 i:Nat)(h:Heap):Prop where
 hz:(i=0/\IsZip h z TI TO .none/\∃u v,IsPair h TO u v)\/(0<i/\∃b,IsZ h z TI TO (rawInt n0) b)
 hTI:IsPair h TI (.ref i1) (.ref i2)
 h1:h.IsListIter i1 l1 i
 h2:h.IsListIter i2 l2 i
 hl1:h.IsList l1 xs
 hl2:h.IsList l2 ys
noncomputable def Prs(xs ys:Array Value)(n0 i:Nat)(h:Heap):Prop:=∀j,j<i->∀x y,xs[j]? =some x->ys[j]? =some y->IsPair h (n0+j) x y
theorem ZSt.move{z TI TO i1 i2 l1 l2:Addr}{xs ys:Array Value}{n0 i:Nat}{h h':Heap}(Z:ZSt z TI TO i1 i2 l1 l2 xs ys n0 i h)(k:∀c∈[z,TI,TO,i1,i2,l1,l2],∀o,h.get? c=some o->h'.get? c=some o):ZSt z TI TO i1 i2 l1 l2 xs ys n0 i h':=by
 refine⟨?_,k TI (by simp) _ Z.hTI,Z.h1.at fun o q=>k i1 (by simp) o q,Z.h2.at fun o q=>k i2 (by simp) o q,Z.hl1.at fun o q=>k l1 (by simp) o q,Z.hl2.at fun o q=>k l2 (by simp) o q⟩;rcases Z.hz with⟨a,b,u,v,c⟩ |⟨a,b,c⟩
 ·exact .inl ⟨a,k z (by simp) _ b,u,v,k TO (by simp) _ c⟩
 ·exact .inr ⟨a,b,k z (by simp) _ c⟩
theorem zloop{z TI TO i1 i2 l1 l2 S n0:Addr}{xs ys:Array Value}{res:Value}{R:Result->Shared->Prop}(hh:A.handled=none)(D:w9 z TI TO i1 i2 l1 l2)(hlt:∀c∈[z,TI,TO,i1,i2,l1,l2],c<n0)(hS0:S<n0)(hSf:S∉[z,TI,TO,i1,i2,l1,l2]){n:Nat}(hn:n=min xs.size ys.size)(hn2:n<=5000):
  ∀(k i:Nat)(s:Shared)(acc:Array Value)(c:Nat),n-i=k->i<=n->s.heap.objs.size=n0+i->ZSt z TI TO i1 i2 l1 l2 xs ys n0 i s.heap->s.heap.get? S=some {cls:=.type "list",dict:=none,data:=.seq acc c,slots:= #[]}->
  acc.toList=(aq i).map (fun j=>bz (n0+j))->Prs xs ys n0 i s.heap->
  (∀h' acc' c',(∀b o,b∉[S,z,TO,i1,i2]->s.heap.get? b=some o->h'.get? b=some o)->h'.get? S=some {cls:=.type "list",dict:=none,data:=.seq acc' c',slots:= #[]}->acc'.toList=(aq n).map (fun j=>bz (n0+j))->Prs xs ys n0 n h'->R (.ok (.ret res)) {s with heap:=h'})->
  fo (model prog w) A (.builtin "list.extend.loop" ⟨[.ref S,.ref z,res],[]⟩) R s:=by
 have ez:z<n0:=hlt z (by simp);have e1:i1<n0:=hlt i1 (by simp);have e2:i2<n0:=hlt i2 (by simp);have eO:TO<n0:=hlt TO (by simp);intro k
 induction k with
 |zero=>
  intro i s acc c hk hi hsz Z hS hacc hP hR;have hin:i=n:=by omega
  subst hin;refine cC F.entry_extend_loop ?_;rw[bS hV _];show wpAny _ A.in1 (pyNext (.ref z)>>=_) _ _ s;have hend:xs[i]? =none\/ys[i]? =none:=by
   rcases Nat.le_total xs.size ys.size with h|h
   ·exact .inl (by rw[lL];omega)
   ·exact .inr (by rw[lL];omega)
  have fin:∀h',(∀c o,c≠z->c≠TO->c≠i1->c≠i2->s.heap.get? c=some o->h'.get? c=some o)->R (.ok (.ret res)) {s with heap:=h'}:=fun h' kp=>by
   refine hR h' acc c (fun b o hb q=>?_) ?_ hacc fun j hj x y ex ey=>kp _ _ (jE ez j) (jE eO j) (jE e1 j) (jE e2 j) (hP j hj x y ex ey)
   ·simp only[ay,bJ,or_false,not_or]at hb
    exact kp b o hb.2.1 hb.2.2.1 hb.2.2.2.1 hb.2.2.2.2 q
   ·simp only[ay,bJ,or_false,not_or]at hSf
    exact kp S _ hSf.1 hSf.2.2.1 hSf.2.2.2.1 hSf.2.2.2.2.1 hS
  rcases Z.hz with⟨i0,hz,u,v,hTO⟩ |⟨i0,b,hz⟩
  ·refine aa (wpAny_pyNext_zip_end hh D hz Z.hTI hTO Z.h1 Z.h2 Z.hl1 Z.hl2 hend fun h' kp=>?_)
   exact ai (fin h' kp)
  ·have hT:s.TypeIs (.ref z) "zip":=⟨_,hz,rfl⟩
   have hx:xs[0]? =some (xs[0]'(by omega)):=dN _;have hy:ys[0]? =some (ys[0]'(by omega)):=dN _;refine aa ?_;unfold pyNext;refine aa (jA (cT (name:=bj "__next__") hT nF
    (cm nF hT F.entry_zip_next (D6 hh D hz (hP 0 i0 _ _ hx hy) Z.hTI Z.h1 Z.h2 Z.hl1 Z.hl2 hend fun h' e hk he=>?_) (F.args_zip_next_1 _))))
   obtain⟨o,ho,hc⟩:=he;refine aa (gZ (T:="StopIteration") (b:=true) ⟨o,ho,hc⟩ DL ?_);exact ai (ai (fin h' fun c o c1 _ c3 c4 q=>hk c o c1 c3 c4 q))
 |succ k ih=>
  intro i s acc c hk hi hsz Z hS hacc hP hR;have hlti:i<n:=by omega
  have hx:xs[i]? =some (xs[i]'(by omega)):=dN _;have hy:ys[i]? =some (ys[i]'(by omega)):=dN _;refine cC F.entry_extend_loop ?_;rw[bS hV _];show wpAny _ A.in1 (pyNext (.ref z)>>=_) _ _ s;simp only[ay,bJ,or_false,not_or]at hSf;have acl:acc.size=i:=by rw[<-bY,hacc];simp
  have go:∀h',(0<i+1/\∃b,IsZ h' z TI TO (rawInt n0) b)->h'.IsListIter i1 l1 (i+1)->h'.IsListIter i2 l2 (i+1)->IsPair h' s.heap.objs.size (xs[i]'(by omega)) (ys[i]'(by omega))->h'.objs.size=s.heap.objs.size+1->
    (∀c o,c≠z->c≠TO->c≠i1->c≠i2->s.heap.get? c=some o->h'.get? c=some o)->
    wpAny (model prog w) A.in1 (sU (.ref S) (·.push (.ref s.heap.objs.size))>>=fun _=>again (.builtin "list.extend.loop" ⟨[.ref S,.ref z,res],[]⟩)) (fun fin s'=>match fin with |.done f=>R (.ok f) s'|.again c'=>c'.quiet=true/\fo (model prog w) A c' R s') (fun e s'=>R (.error e) s') {s with heap:=h'}:=by
   intro h' hz' h1' h2' hp' hsz' kp;have hS':=kp S _ hSf.1 hSf.2.2.1 hSf.2.2.2.1 hSf.2.2.2.2.1 hS;show wpAny _ A.in1 (kN S (·.push (.ref s.heap.objs.size))>>=_) _ _ _;refine aa ?_;have up:∀b o,b≠S->h'.get? b=some o->(h'.update S (aS (·.push (.ref s.heap.objs.size)))).get? b=some o:=fun b o hb q=>(aE _ _ (bZ hb)).trans q;refine dW hS' rfl (ai ⟨dc hV _,ih (i+1) _ (acc.push (.ref s.heap.objs.size)) _ (by omega) hlti ?_ ?_ (bA _ hS' rfl) ?_ ?_ fun h'' acc' c' kp'' hS'' hacc' hP''=>?_⟩)
    (by rw[acl];exact aI (by omega:i<=5000) (by decide)) (by show(acc.push _).size<=sizeLine+1;rw[Array.size_push,acl];exact aI (by omega:i+1<=5001) (by decide))
   ·show(h'.update S _).objs.size=_
    rw[fu,hsz',hsz];omega
   ·have Z':ZSt z TI TO i1 i2 l1 l2 xs ys n0 (i+1) h':=⟨.inr hz',kp _ _ D.TIz D.TITO D.TIi1 D.TIi2 Z.hTI,h1',h2',Z.hl1.at fun o q=>kp l1 o D.l1z D.l1TO D.l1i1 D.l1i2 q,Z.hl2.at fun o q=>kp l2 o D.l2z D.l2TO D.l2i1 D.l2i2 q⟩
    refine Z'.move fun c hc o q=>up c o (fun e=>?_) q;subst e;simp only[ay,bJ,or_false]at hc;rcases hc with hc|hc|hc|hc|hc|hc|hc
    ·exact hSf.1 hc
    ·exact hSf.2.1 hc
    ·exact hSf.2.2.1 hc
    ·exact hSf.2.2.2.1 hc
    ·exact hSf.2.2.2.2.1 hc
    ·exact hSf.2.2.2.2.2.1 hc
    ·exact hSf.2.2.2.2.2.2 hc
   ·rw[ke,hacc,vd,du,hsz];rfl
   ·intro j hj x y ex ey
    by_cases hji:j=i
    ·subst hji
     rw[hx]at ex;rw[hy]at ey;cases ex;cases ey;rw[hsz]at hp';exact up _ _ (jE hS0 j) hp'
    ·exact up _ _ (jE hS0 j) (kp _ _ (jE ez j) (jE eO j) (jE e1 j) (jE e2 j) (hP j (by omega) x y ex ey))
   ·refine hR h'' acc' c' (fun b o hb q=>?_) hS'' hacc' hP''
    have hb':=hb;simp only[ay,bJ,or_false,not_or]at hb';exact kp'' b o hb (up b o hb'.1 (kp b o hb'.2.1 hb'.2.2.1 hb'.2.2.2.1 hb'.2.2.2.2 q))
  rcases Z.hz with⟨i0,hz,u,v,hTO⟩ |⟨i0,b,hz⟩
  ·refine aa (wpAny_pyNext_zip_item D hz Z.hTI hTO Z.h1 Z.h2 Z.hl1 Z.hl2 hx hy fun h' a1 a2 a3 a4 a5 a6 kp=>?_)
   exact go h' ⟨by omega,false,by rw[hsz,i0,Nat.add_zero]at a1;exact a1⟩ a3 a4 a5 a6 kp
  ·have hT:s.TypeIs (.ref z) "zip":=⟨_,hz,rfl⟩
   have hx0:xs[0]? =some (xs[0]'(by omega)):=dN _;have hy0:ys[0]? =some (ys[0]'(by omega)):=dN _;refine aa ?_;unfold pyNext;refine aa (jA (cT (name:=bj "__next__") hT nF (cm nF hT F.entry_zip_next (B5 D hz (hP 0 i0 _ _ hx0 hy0) Z.hTI Z.h1 Z.h2 Z.hl1 Z.hl2 hx hy fun h' a1 a3 a4 a5 a6 kp=>ai ?_) (F.args_zip_next_1 _))));exact go h' ⟨by omega,true,a1⟩ a3 a4 a5 a6 fun c o c1 _ c3 c4 q=>kp c o c1 c3 c4 q
theorem F9{z:Addr}{Q:Bool->Shared->Prop}(hT:s.TypeIs (.ref z) "zip")(h:Q true s):wpAny (model prog w) A (fE (.ref z)) Q E s:=by
 unfold fE;refine aa (oK (r:=none) hT (by rw[oM,je];kernel_rfl) ?_);show wpAny _ _ (specialOf (.ref z) "__length_hint__">>=_) _ _ _;refine aa (oK (r:=none) hT (by rw[oM,je];kernel_rfl) ?_);exact ai h
theorem AB{z TI TO i1 i2 l1 l2 S n0:Addr}{xs ys:Array Value}{res:Value}{c₀:Nat}{R:Result->Shared->Prop}(hh:A.handled=none)(D:w9 z TI TO i1 i2 l1 l2)(hlt:∀c∈[z,TI,TO,i1,i2,l1,l2],c<n0)(hS0:S<n0)(hSf:S∉[z,TI,TO,i1,i2,l1,l2]){n:Nat}(hn:n=min xs.size ys.size)(hn2:n<=5000)
  (hsz:s.heap.objs.size=n0)(Z:ZSt z TI TO i1 i2 l1 l2 xs ys n0 0 s.heap)(hz:IsZip s.heap z TI TO .none)(hS:s.heap.get? S=some {cls:=.type "list",data:=.seq #[] c₀})
  (hR:∀h' acc' c',(∀b o,b∉[S,z,TO,i1,i2]->s.heap.get? b=some o->h'.get? b=some o)->h'.get? S=some {cls:=.type "list",dict:=none,data:=.seq acc' c',slots:= #[]}->acc'.toList=(aq n).map (fun j=>bz (n0+j))->Prs xs ys n0 n h'->R (.ok (.ret res)) {s with heap:=h'}):
  wpAny (model prog w) A.in1 (dm (.ref S) (.ref z) res)
   (fun fin s'=>match fin with |.done f=>R (.ok f) s'|.again c'=>c'.quiet=true/\fo (model prog w) A c' R s') (fun e s'=>R (.error e) s') s:=by
 have hSf':=hSf;simp only[ay,bJ,or_false,not_or]at hSf';unfold dm;refine aa (wY (T:="zip") ⟨_,hz,rfl⟩ ?_);have h1:jg (.ref S) (.ref z)=false:=by simp[jg,hSf'.1]
 have h2:(eT "zip"==eT "list")=false:=by decide
 have h3:(eT "zip"==eT "tuple")=false:=by decide
 simp only[h1,h2,h3,zz,aJ,if_false];refine aa (wpAny_pyIter_zip hz ?_);refine aa (bC (F9 ⟨_,hz,rfl⟩ ?_));refine wpAny_ite_split (fun _=>?_) (fun hab=>absurd rfl hab);refine aa (fA ?_);refine aa ?_;show wpAny _ _ (kN S (·.push .none)>>=fun _=>kN S (·.pop)) _ _ _;refine aa (dW hS rfl ?_);have hS₂:=bA (aS (·.push bo)) hS rfl;refine dW (hz:=by seq_fits) hS₂ rfl ?_;have hS₃:=bA (aS (·.pop)) hS₂ rfl;have up:∀b o,b≠S->s.heap.get? b=some o->((s.heap.update S (aS (·.push bo))).update S (aS (·.pop))).get? b=some o:=fun b o hb q=>(aE _ _ (bZ hb)).trans ((aE _ _ (bZ hb)).trans q);refine ai ⟨dc hV _,zloop hh D hlt hS0 hSf hn hn2 n 0 _ _ _ rfl (bf _) ?_ (Z.move fun c hc o q=>up c o (fun e=>hSf (e▸hc)) q) hS₃ rfl (fun j hj=>absurd hj (fY _)) fun h' acc' c' kp hS' ha hP=>hR h' acc' c' (fun b o hb q=>kp b o hb (up b o (fun e=>hb (by rw[e];exact aG)) q)) hS' ha hP⟩;show((s.heap.update S _).update S _).objs.size=_;rw[fu,fu,hsz];rfl
theorem tM{z TI TO i1 i2 l1 l2:Addr}{xs ys:Array Value}{Q:Value->Shared->Prop}(hh:A.handled=none)(D:w9 z TI TO i1 i2 l1 l2){n:Nat}(hn:n=min xs.size ys.size)(hn2:n<=5000)(Z:∀n0,ZSt z TI TO i1 i2 l1 l2 xs ys n0 0 s.heap)(hz:IsZip s.heap z TI TO .none)(hlt:∀c∈[z,TI,TO,i1,i2,l1,l2],c<s.heap.objs.size)
  (hQ:∀h' acc' c',(∀b o,b∉[z,TO,i1,i2]->s.heap.get? b=some o->h'.get? b=some o)->h'.get? s.heap.objs.size=some {cls:=.type "list",dict:=none,data:=.seq acc' c',slots:= #[]}->acc'.toList=(aq n).map (fun j=>bz (s.heap.objs.size+1+j))->Prs xs ys (s.heap.objs.size+1) n h'->Q (.ref s.heap.objs.size) {s with heap:=h'}):
  wpAny (model prog w) A (call (.type "list") [.ref z]) Q E s:=by
 refine callType_codes (Q₁:=fun obj s₁=>obj=.ref s.heap.objs.size/\s₁={s with heap:=s.heap.push {cls:=.type "list",data:=.seq #[]}}) F.called_list (F.typeCall_list_1 _) F.entry_list_init
  (code_list_new _ ⟨rfl,rfl⟩) fun obj s₁ h₁=>?_
 obtain⟨rfl,rfl⟩:=h₁;have hS:(s.heap.push {cls:=.type "list",data:=.seq #[]}).get? s.heap.objs.size=some {cls:=.type "list",data:=.seq #[]}:=au _ rfl;refine⟨⟨_,hS,rfl⟩,F.args_list_init_2 _ _,?_⟩;have hSf:s.heap.objs.size∉[z,TI,TO,i1,i2,l1,l2]:=fun h=>d5 _ (hlt _ h);have hSz:s.heap.objs.size≠z:=fun e=>hSf (e▸aG);show wpAny _ _ (do let old<-sZ (.ref s.heap.objs.size);sU (.ref s.heap.objs.size) (fun _=> #[]);letGo old.toList.reverse;dm (.ref s.heap.objs.size) (.ref z) .none) _ _ _;refine aa ?_;unfold sZ;refine aa (da hS rfl (ai ?_));show wpAny _ _ (kN s.heap.objs.size (fun _=> #[])>>=fun _=>letGo (#[]:Array Value).toList.reverse>>=fun _=>dm (.ref s.heap.objs.size) (.ref z) .none) _ _ _;refine aa (dW hS rfl ?_);have hS₂:=bA (aS (fun _=>(#[]:Array Value))) hS rfl;have oth:∀b o,b≠s.heap.objs.size->s.heap.get? b=some o->((s.heap.push {cls:=.type "list",data:=.seq #[]}).update s.heap.objs.size (aS (fun _=>(#[]:Array Value)))).get? b=some o:=
  fun b o hb e=>(aE _ _ (bZ hb)).trans (ag _ e)
 refine aa (fk ?_);refine AB (A:=A.in1) (n0:=s.heap.objs.size+1) hh D (fun c hc=>bx (hlt c hc)) (bE _) hSf hn hn2 ?_ ((Z _).move fun c hc o q=>oth c o (fun e=>hSf (e▸hc)) q) (oth z _ (bZ hSz) hz) hS₂ fun h' acc' c' kp hS' ha hP=>⟨rfl,hQ h' acc' c' (fun b o hb q=>?_) hS' ha hP⟩
 ·show((s.heap.push _).update _ _).objs.size=_
  rw[fu,bT]
 ·have hbS:b≠s.heap.objs.size:=aB (aw q)
  refine kp b o (fun hm=>?_) (oth b o hbS q);rcases ay.mp hm with e|hm
  ·exact hbS e
  ·exact hb hm
end
noncomputable def ovr(N H:Hp):Hp:=fun b=>match N b with
 |some o=>some o
 |none=>H b
theorem vY{N H:Hp}{b:Addr}{o:HO}(h:N b=some o):ovr N H b=some o:=by unfold ovr;rw[h]
theorem qu{N H:Hp}{b:Addr}(h:N b=none):ovr N H b=H b:=by unfold ovr;rw[h]
section
variable {X:Cx}{pins:List (Addr×Obj)}{σ:St}{H N:Hp}{s:Shared}{h':Heap}
theorem Inv.lay{t':Nat}(I:Inv X pins σ H s)(k:∀b u,s.heap.get? b=some u->h'.get? b=some u)(hN:∀b o,N b=some o->s.heap.objs.size<=b/\dR X.prog X.w (ovr N H) h' b o):Inv X pins σ (ovr N H) {s with heap:=h',toks:=t'}:=by
 have old:∀{b:Addr}{o:HO},H b=some o->ovr N H b=some o:=fun{b o} q=>by
  cases e:N b with
  |none=>rw[qu e];exact q
  |some o'=>rw[I.hok.fresh (hN b o' e).1]at q;cases q
 refine I.un ⟨fun b o q _ _ _=>k b o q,fun b o q _ _ _=>⟨o.slots,k b o q⟩,fun b o q n _=>?_,fun b o q _=>⟨o,k b o q⟩,fun b xs q=>old q,fun b o u q=>old q,fun b ps q=>⟨#[],by rw[old q];simp⟩⟩ fun b o q=>?_
 ·cases e:N b with
  |none=>rw[qu e];exact n
  |some o'=>exact absurd (aw q) (fO.mpr (hN b o' e).1)
 ·cases e:N b with
  |none=>
   rw[qu e]at q;exact(I.hok b o q).qR (fun c v _ z=>k c v z) (fun c z=>old z) fun c xs z=>old z
  |some o'=>
   rw[vY e]at q;cases q;exact(hN b _ e).2
noncomputable def tLZip(K:ae)(t:TA):TE:=fun σ H Q=>t σ H fun vs H1=>∃a b xs ys,vs=[.ref a,.ref b]/\SqL K H1 a xs/\SqL K H1 b ys/\xs.length<=1000/\∀H' p ws,aP H1 H'->H1 p=none->H' p=some (.lst ws)->ws.length=min xs.length ys.length->
 (∀(j:Nat)(x y:V),xs[j]? =some x->ys[j]? =some y->∃q,ws[j]? =some (.ref q)/\H1 q=none/\H' q=some (.tup [x,y]))->Q (.ref p) H'
noncomputable def zN(S n0 n:Nat)(xs ys:List V):Hp:=fun b=>if b=S then some (.lst ((aq n).map fun j=>V.ref (n0+j)))else if n0<=b/\b-n0<n then some (.tup [xs.getD (b-n0) .non,ys.getD (b-n0) .non])else none
theorem tU:∀(l:List Nat)(n0:Nat),bL (l.map fun j=>V.ref (n0+j)) (l.map fun j=>bz (n0+j))
 | [],_=>.nil
 |_::l,n0=>.cons rfl (tU l n0)
theorem pe_lzip{l m:Expr}{t:TA}{p p' pos pos':Pos}(hc:X.calm=true)(hg:Gl X "zip")(hm:X.mg "zip"=none)(hg':Gl X "list")(hm':X.mg "list"=none)(ha:PA X [l,m] t)(hs:bc [l,m] X.env=(false,eval l X.env)::bc [m] X.env)(hpl:(backTo pos' (bc [m] X.env)).any (·.1)=false):
  PE X (.Call (.Name "list" p) [.Call (.Name "zip" p') [l,m] [] pos'] [] pos) (tLZip X.K t):=by
 intro pins s σ H Q I h;refine Call_ (iu I hg' hm' gR (bV (jO ?_) rfl rfl));refine Call_ (iu I hg hm boot_zip (bV (thn (ha pos' pins s σ H _ I h) fun us s1 ⟨vs,H1,I1,r1,q1⟩=>?_) hs hpl));obtain⟨a,b,xs,ys,rfl,hq1,hq2,hl,q⟩:=q1;obtain⟨u,v,rfl,ru,rv⟩:=r1.two;cases ru;cases rv;obtain⟨its,r2,pl,hz⟩:=I1.list hq1;obtain⟨its2,r3,pl2,hz2⟩:=I1.list hq2;have e1:=r2.length;have e2:=r3.length;refine call_zip_2 pl.isList pl2.isList fun h' z1 z2 z3 z4 z5 z6 kp=>?_;refine ai ?_;have ha1:a<s1.heap.objs.size:=by obtain⟨o,_,e,_⟩:=pl;exact aw e
 have hb1:b<s1.heap.objs.size:=by obtain⟨o,_,e,_⟩:=pl2;exact aw e
 have D:w9 (s1.heap.objs.size+4) (s1.heap.objs.size+2) (s1.heap.objs.size+3) s1.heap.objs.size (s1.heap.objs.size+1) a b:=by
  have lt:∀{c:Nat}(k:Nat),c<s1.heap.objs.size->c≠s1.heap.objs.size+k:=fun k h=>by omega
  have D5:=apart_n s1.heap.objs.size;exact⟨D5.a1,D5.a2,D5.a3,D5.a4,D5.a5,D5.a6,D5.a7,D5.a8,D5.a9,D5.a10,lt 4 ha1,lt 3 ha1,lt 0 ha1,lt 1 ha1,lt 4 hb1,lt 3 hb1,lt 0 hb1,lt 1 hb1⟩
 refine tM (s:={s1 with heap:=h'}) (n:=min its.toArray.size its2.toArray.size) (I1.ok.hd hc) D rfl ?_ (fun n0=>⟨.inl ⟨rfl,z1,_,_,z3⟩,z2,z4,z5,pl.isList.at fun o e=>kp a o e,pl2.isList.at fun o e=>kp b o e⟩) z1 ?_ fun h'' acc' c' kp2 hS ha hP=>?_
 ·rw[av,av];omega
 ·intro c hc'
  show c<h'.objs.size;rw[z6];simp only[ay,bJ,or_false]at hc';rcases hc' with rfl|rfl|rfl|rfl|rfl|rfl|rfl
  ·exact bE _
  ·exact iq (by decide) |> fun h:s1.heap.objs.size+2<s1.heap.objs.size+2+3=>h
  ·exact iq (by decide) |> fun h:s1.heap.objs.size+3<s1.heap.objs.size+3+2=>h
  ·exact iq (by decide)
  ·exact iq (by decide) |> fun h:s1.heap.objs.size+1<s1.heap.objs.size+1+4=>h
  ·exact tS _ ha1
  ·exact tS _ hb1
 ·have hsz:({s1 with heap:=h'}:Shared).heap.objs.size=s1.heap.objs.size+5:=z6
  rw[hsz]at hS ha hP⊢;have hmin:min its.toArray.size its2.toArray.size=min xs.length ys.length:=by rw[av,av,e1,e2]
  rw[hmin]at ha hP;have kall:∀b u,s1.heap.get? b=some u->h''.get? b=some u:=fun b u e=>kp2 b u (fun hm=>by
   have hlt:=aw e;simp only[ay,bJ,or_false]at hm;have ne:∀k:Nat,b≠s1.heap.objs.size+k:=fun k=>aB (tS k hlt);rcases hm with hm|hm|hm|hm
   ·exact ne 4 hm
   ·exact ne 3 hm
   ·exact ne 0 hm
   ·exact ne 1 hm) (kp b u e)
  have key:∀b o,zN (s1.heap.objs.size+5) (s1.heap.objs.size+5+1) (min xs.length ys.length) xs ys b=some o->s1.heap.objs.size<=b/\((b=s1.heap.objs.size+5/\o=.lst ((aq (min xs.length ys.length)).map fun j=>V.ref (s1.heap.objs.size+5+1+j)))\/
    ∃j,j<min xs.length ys.length/\b=s1.heap.objs.size+5+1+j/\o=.tup [xs.getD j .non,ys.getD j .non]):=fun b o hN=>by
   unfold zN at hN;split at hN
   ·rename_i hb
    cases hN;exact⟨by rw[hb];exact bQ _ _,.inl ⟨hb,rfl⟩⟩
   ·split at hN
    ·rename_i hb
     cases hN;exact⟨aI (aI (bQ _ 5) (eG _)) hb.1,.inr ⟨_,hb.2,(Nat.add_sub_cancel' hb.1).symm,rfl⟩⟩
    ·cases hN
  have at':∀{zs:List V}{j:Nat},j<zs.length->zs[j]? =some (zs.getD j .non):=fun h=>by rw[ah,af h];rfl
  refine⟨.ref _,ovr (zN (s1.heap.objs.size+5) (s1.heap.objs.size+5+1) (min xs.length ys.length) xs ys) H1,I1.lay (t':=s1.toks) kall fun b o hN=>⟨(key b o hN).1,?_⟩,rfl,q _ _ ((aq (min xs.length ys.length)).map fun j=>V.ref (s1.heap.objs.size+5+1+j)) (fun b o e=>?_) (I1.hok.fresh (bQ _ _)) (vY (by unfold zN;rw[if_pos rfl])) (by simp) fun j x y hx hy=>⟨s1.heap.objs.size+5+1+j,?_,I1.hok.fresh (aI (aI (bQ _ 5) (eG _)) (bQ _ _)),vY ?_⟩⟩
  ·rcases(key b o hN).2 with⟨rfl,rfl⟩ |⟨j,hj,rfl,rfl⟩
   ·refine⟨?_,acc'.toList,c',by rw[ha];exact tU _ _,hS⟩
    rw[ao,bI,iF];omega
   ·obtain⟨u,hu,ru⟩:=r2.get (at' (zs:=xs) (j:=j) (by omega))
    obtain⟨u2,hu2,ru2⟩:=r3.get (at' (zs:=ys) (j:=j) (by omega));exact⟨by show 2<=sizeLine;decide,[u,u2],.cons ru (.cons ru2 .nil),⟨_,hP j hj u u2 (by simpa using hu) (by simpa using hu2),rfl,_,rfl⟩⟩
  ·cases e2:zN (s1.heap.objs.size+5) (s1.heap.objs.size+5+1) (min xs.length ys.length) xs ys b with
   |none=>rw[qu e2];exact e
   |some o'=>rw[I1.hok.fresh (key b o' e2).1]at e;cases e
  ·have hj1:j<xs.length:=(aF.mp hx).1
   have hj2:j<ys.length:=(aF.mp hy).1;rw[aA,bR (by omega)];rfl
  ·have hj1:j<xs.length:=(aF.mp hx).1
   have hj2:j<ys.length:=(aF.mp hy).1;unfold zN;rw[if_neg (cz (bh (bE _) (bQ _ _))),Nat.add_sub_cancel_left,if_pos ⟨bQ _ _,Nat.lt_min.mpr ⟨hj1,hj2⟩⟩,ah,ah,hx,hy];rfl
end
end L2
namespace Q
open PySem
noncomputable def pz(xs:Array Nat):Prop:=xs.toList.Pairwise (·<·)
structure Parts(xs:Array Nat)(j p:Nat):Prop where
 le:p<=xs.size
 lo:∀i x,i<p->xs[i]? =some x->x<j
 hi:∀i x,p<=i->xs[i]? =some x->j<=x
theorem qr{xs:Array Nat}(h:pz xs){i k x y:Nat}(hik:i<k)(hx:xs[i]? =some x)(hy:xs[k]? =some y):x<y:=by
 have hx':xs.toList[i]? =some x:=by simpa using hx
 have hy':xs.toList[k]? =some y:=by simpa using hy
 obtain⟨h1,e1⟩:=aF.mp hx';obtain⟨h2,e2⟩:=aF.mp hy';have :=gO.mp h i k h1 h2 hik;rw[e1,e2]at this;exact this
theorem rR{xs:Array Nat}(h:pz xs)(j:Nat):∀(fuel lo hi:Nat),hi-lo<=fuel->lo<=hi->hi<=xs.size->(∀i x,i<lo->xs[i]? =some x->x<j)->(∀i x,hi<=i->xs[i]? =some x->j<=x)->Parts xs j (xb xs j fuel lo hi)
 | 0,lo,hi,hf,hl,hs,a,b=>by
  have e:lo=hi:=by omega
  subst e;exact⟨hs,a,b⟩
 |fuel+1,lo,hi,hf,hl,hs,a,b=>by
  unfold xb;by_cases c:lo<hi
  ·rw[if_pos c]
   have hm:(lo+hi)/2<xs.size:=by omega
   have em:xs[(lo+hi)/2]? =some xs[(lo+hi)/2]:=by simp[hm]
   have eg:xs.getD ((lo+hi)/2) j=xs[(lo+hi)/2]:=by simp[hm]
   simp only[eg];by_cases d:xs[(lo+hi)/2]<j
   ·rw[if_pos d]
    refine rR h j fuel _ hi (by omega) (by omega) hs (fun i x hi' e=>?_) b;by_cases k:i=(lo+hi)/2
    ·subst k
     rw[em]at e;cases e;exact d
    ·exact fP (qr h (by omega) e em) d
   ·rw[if_neg d]
    refine rR h j fuel lo _ (by omega) (by omega) (by omega) a fun i x hi' e=>?_;by_cases k:i=(lo+hi)/2
    ·subst k
     rw[em]at e;cases e;omega
    ·have :=qr h (by omega:(lo+hi)/2<i) em e
     omega
  ·rw[if_neg c]
   have e:lo=hi:=by omega
   subst e;exact⟨hs,a,b⟩
theorem jx{xs:Array Nat}(h:pz xs)(j:Nat):Parts xs j (cE xs j):=
 rR h j xs.size 0 xs.size (by omega) (bf _) (ax _) (fun i x hi _=>absurd hi (fY _)) fun i x hi e=>by
  have :=(dE.mp e).1
  omega
theorem yt{α:Type}(xs:Array α)(p:Nat)(x:α):(oP xs p x).toList=xs.toList.take p++x::xs.toList.drop p:=by
 unfold oP;simp;exact iz (by simp)
theorem xI{xs:Array Nat}{j:Nat}(h:pz xs)(hj:∀i:Nat,xs[i]? ≠some j):pz (oP xs (cE xs j) j):=by
 have P:=jx h j;unfold pz;rw[yt];have sub:=h;unfold pz at sub;rw[List.pairwise_append];refine⟨sub.sublist (qE _ _),List.pairwise_cons.mpr ⟨fun y hy=>?_,sub.sublist (List.drop_sublist _ _)⟩,fun x hx y hy=>?_⟩
 ·obtain⟨i,hi⟩:=iO.mp hy
  rw[jR]at hi;have e:xs[cE xs j+i]? =some y:=by simpa using hi
  have :=P.hi _ _ (bQ _ _) e
  have ne:y≠j:=fun z=>hj _ (z▸e);omega
 ·obtain⟨i,hi⟩:=iO.mp hx
  have hip:i<cE xs j:=by
   have :=(aF.mp hi).1
   rw[cJ]at this;omega
  rw[zu hip]at hi;have e:xs[i]? =some x:=by simpa using hi
  have lx:=P.lo _ _ hip e;rcases ay.mp hy with rfl|hy
  ·exact lx
  ·obtain⟨k,hk⟩:=iO.mp hy
   rw[jR]at hk;have e2:xs[cE xs j+k]? =some y:=by simpa using hk
   have :=P.hi _ _ (bQ _ _) e2
   omega
theorem AI{xs:Array Nat}(h:pz xs){i x:Nat}(e:xs[i]? =some x):cE xs (x+1)=i+1:=by
 have P:=jx h (x+1);have hi:=(dE.mp e).1;apply xf
 ·apply gN
  intro c;have hs:i+1<xs.size:=bh c P.le;have e2:xs[i+1]? =some xs[i+1]:=by simp[hs]
  have a:=P.lo _ _ c e2;have b:=qr h (bE i) e e2;omega
 ·apply gN
  intro c;have :=P.hi i x (by omega) e;omega
theorem AH{xs:Array Nat}(h:pz xs):cE xs 0=0:=by
 have P:=jx h 0;apply xf _ (bf _);apply gN;intro c;have hs:0<xs.size:=bh c P.le;have :=P.lo 0 xs[0] c (by simp[hs]);omega
theorem Dy{xs:Array Nat}(h:pz xs){i x:Nat}(e:xs[i]? =some x):cE xs x=i:=by
 have P:=jx h x;apply xf
 ·apply gN
  intro c;exact d5 _ (P.lo i x c e)
 ·apply gN
  intro c;have hs:cE xs x<xs.size:=fP c (dE.mp e).1;have e2:xs[cE xs x]? =some xs[cE xs x]:=by simp[hs]
  have a:=P.hi _ _ (ax _) e2;have b:=qr h c e2 e;omega
theorem zY(n:Nat):pz (Array.range n):=by
 unfold pz;rw[Array.toList_range];exact B1
structure jh(t:bM):Prop where
 up:pz t.place
 no:t.dummies= #[]
theorem slot_no{t:bM}(T:jh t)(j:Nat):t.slot j≠.dummy:=by
 unfold bM.slot;simp only[T.no];split
 ·simp
 ·split
  ·rename_i h
   exact absurd h (by simp[xk])
  ·simp
theorem Ce{t:bM}(T:jh t){j:Nat}(h:t.slot j=.empty):∀i:Nat,t.place[i]? ≠some j:=fun i e=>by
 have :=Dy T.up e
 unfold bM.slot at h;simp only[this,e,beq_self_eq_true,if_true]at h;cases h
theorem tO(t:bM)(p:bM.Probe):(t.advance p).dummy=p.dummy:=by
 unfold bM.advance;split <;>rfl
theorem rg{t:bM}(T:jh t){f:Nat->Int}{h:Int}{j:Nat}{d:Option Nat}:∀(fuel:Nat)(p:bM.Probe),p.dummy=none->l7 t f h fuel p=some (.empty j d)->t.slot j=.empty/\d=none
 | 0,p,_,e=>by simp[l7]at e
 |fuel+1,p,hp,e=>by
  unfold l7 at e;cases hs:t.slot p.j with
  |empty=>
   rw[hs]at e;simp only[cU,bM.Met.empty.injEq]at e;exact⟨by rw[<-e.1];exact hs,by rw[<-e.2];exact hp⟩
  |dummy=>exact absurd hs (slot_no T _)
  |live i=>
   rw[hs]at e;simp only at e;split at e
   ·cases e
   ·exact rg T fuel _ (by rw[tO];exact hp) e
theorem tH{t:bM}(T:jh t){h:Int}{j:Nat}{b:Bool}(e:t.freeSlot h=some (j,b)):(∀i:Nat,t.place[i]? ≠some j)/\b=false:=by
 unfold bM.freeSlot at e;split at e
 ·rename_i j' d hm
  unfold bM.probe at hm;obtain⟨h1,h2⟩:=rg T _ _ (by rfl) hm;subst h2;simp only[qD,DV,cU,Prod.mk.injEq]at e;obtain⟨rfl,rfl⟩:=e;exact⟨Ce T h1,rfl⟩
 ·cases e
theorem iR(t:bM)(n:Nat):jh (t.standIn n):=⟨zY n,rfl⟩
theorem E1{t:bM}(T:jh t){j:Nat}(hj:∀i:Nat,t.place[i]? ≠some j):jh (t.put j).1:=by
 refine⟨xI T.up hj,?_⟩;show(if xk t.dummies j=true then _ else t.dummies)= #[];rw[T.no];simp[xk]
theorem rp{t:bM}(T:jh t)(n:Nat):jh (t.orStandIn n):=by
 unfold BY;split
 ·exact T
 ·exact iR t n
theorem yq{t:bM}(T:jh t)(es:Array (Int×Value))(h:Int)(x:Value):jh (layNew t es h x).2.1/\(layNew t es h x).2.2.1=false:=by
 unfold layNew;split
 ·rename_i j b e
  obtain⟨h1,h2⟩:=tH T e;subst h2;exact⟨rp (E1 T h1) _,rfl⟩
 ·exact⟨iR t _,rfl⟩
theorem uC{mask finger moves:Nat}{led plain:Bool}{hashes:Array Int}{t:bM}{order:Array Nat}(h:bM.laid mask finger moves led plain hashes=some (t,order)):jh t/\t.led=led/\t.plain=plain:=by
 unfold bM.laid at h;cases e:bM.layClean mask hashes with
 |none=>rw[e]at h;cases h
 |some owner=>
  rw[e]at h;have h':some (({mask,place:=(((aq (mask+1)).filterMap fun j=>(owner.getD j none).map (j,·)).map (·.1)).toArray,dummies:= #[],finger,led,moves,plain}:bM),(((aq (mask+1)).filterMap fun j=>(owner.getD j none).map (j,·)).map (·.2)).toArray)=some (t,order):=h;have h2:=(Prod.mk.inj (aV h')).1;subst h2;refine⟨⟨?_,rfl⟩,rfl,rfl⟩;show((((aq (mask+1)).filterMap fun j=>(owner.getD j none).map (j,·)).map (·.1)).toArray).toList.Pairwise (·<·);rw[Hj,gf,List.pairwise_filterMap];refine B1.imp fun{a b} hab x hx y hy=>?_;cases ha:owner.getD a none with
  |none=>rw[ha]at hx;cases hx
  |some u=>
   cases hb:owner.getD b none with
   |none=>rw[hb]at hy;cases hy
   |some v=>
    rw[ha]at hx;rw[hb]at hy;cases hx;cases hy;exact hab
theorem tw(t:bM)(es:Array (Int×Value))(wanted:Nat):jh (nq t es wanted).2.1:=by
 unfold nq;split
 ·rename_i t' order e
  simp only;split
  ·unfold Hb at e
   exact(uC e).1
  ·exact iR t _
 ·exact iR t _
theorem put_led(t:bM)(j:Nat):(t.put j).1.led=t.led:=rfl
theorem tF(t:bM)(n:Nat):(t.orStandIn n).led=t.led:=by
 unfold BY;split <;>rfl
theorem As(t:bM)(es:Array (Int×Value))(h:Int)(x:Value):(layNew t es h x).2.1.led=t.led:=by
 unfold layNew;split
 ·exact(tF _ _).trans (put_led _ _)
 ·rfl
theorem vR(t:bM)(es:Array (Int×Value))(wanted:Nat):(nq t es wanted).2.1.led=t.led:=by
 unfold nq;split
 ·rename_i t' order e
  simp only;split
  ·unfold Hb at e
   exact(uC e).2.1
  ·rfl
 ·rfl
section
variable {prog:Program}{w:World}{K:Type}[DecidableEq K]{knd:KeyKind prog w K}{A:Around}{E:Value->Shared->Prop}{s:Shared}
noncomputable def oE(knd:KeyKind prog w K)(h:Heap)(a:Addr)(S:K->Bool)(n:Nat)(led:Bool):Prop:=
 ∃o es ep t,h.get? a=some o/\o.ExactSet/\o.data=.set es ep t/\ElemsOf knd es.toList/\(∀k,S k=true↔∃e∈es.toList,knd.is k e.2=true)/\es.size<fN/\t.fits es.size=true/\es.size=n/\jh t/\t.led=led
theorem oE.of{h:Heap}{a:Addr}{S:K->Bool}{n:Nat}{led:Bool}(x:oE knd h a S n led):h.SetOf knd a S n:=by
 obtain⟨o,es,ep,t,e1,e2,e3,e4,e5,e6,e7,e8,_⟩:=x;exact⟨o,es,ep,t,e1,e2,e3,e4,e5,e6,e7,e8⟩
theorem qX{h:Heap}{a:Addr}{o:Obj}{es:Array (Int×Value)}{ep:Nat}{t:bM}(ho:h.get? a=some o)(hx:o.ExactSet)(hd:o.data=.set es ep t){es':Array (Int×Value)}{t':bM}{S':K->Bool}(hl:ElemsOf knd es'.toList)(hm:∀k,S' k=true↔∃e∈es'.toList,knd.is k e.2=true)(hb:es'.size<fN)(hf:t'.fits es'.size=true)(ht:jh t'):
  oE knd (h.update a (Obj.putSet es' t')) a S' es'.size t'.led:=by
 have g:=(SetOf_store (knd:=knd) ho hx hd hl hm hb hf).1;exact⟨_,es',ep+1,t',g,hx,rfl,hl,hm,hb,hf,rfl,ht,rfl⟩
theorem y9{g:Bool->Sem Unit}(hg:∀(b:Bool)(s₁:Shared)(Q':Unit->Shared->Prop),Q' () s₁->wpAny (model prog w) A (g b) Q' E s₁){a:Addr}{o:Obj}{es:Array (Int×Value)}{ep:Nat}{t:bM}(ho:s.heap.get? a=some o)(hx:o.ExactSet)(hd:o.data=.set es ep t)
  {es1:Array (Int×Value)}{t2:bM}{S':K->Bool}(hl:ElemsOf knd es1.toList)(hm:∀k',S' k'=true↔∃e∈es1.toList,knd.is k' e.2=true)(hb:es1.size<fN)(hf:t2.fits es1.size=true)(ht:jh t2){wasDummy:Bool}{R:Option Bool->Shared->Prop}
  (h:∀h',cY a s.heap h'->oE knd h' a S' es1.size t2.led->R (some true) {s with heap:=h'}):
  wpAny (model prog w) A (do
    storeSet a es1 t2
    if(!wasDummy&&t2.tooFull)=true then do
      g (nq t2 es1 (eX es1.size)).2.2
      storeSet a (nq t2 es1 (eX es1.size)).1 (nq t2 es1 (eX es1.size)).2.1
      pure (some true)
     else pure (some true)) R E s:=by
 refine aa (wpAny_storeSet_of ho hd ?_ (lZ hb));have ho1:=(SetOf_store (knd:=knd) ho hx hd hl hm hb hf).1;have x1:=qX (knd:=knd) ho hx hd hl hm hb hf ht;have sb:=bU s.heap a (Obj.putSet es1 t2);split
 ·have hp:=relayAll_perm t2 es1 (eX es1.size)
  have hr:=relayAll_fits t2 es1 (eX es1.size);have hT:=tw t2 es1 (eX es1.size);have hL:=vR t2 es1 (eX es1.size);generalize nq t2 es1 (eX es1.size)=Rl at hp hr hT hL⊢;obtain⟨es2,t3,gave⟩:=Rl;dsimp only at hp hr hT hL⊢;have hz:es2.size=es1.size:=by rw[<-bY,hp.length_eq,bY]
  refine aa (hg _ _ _ (aa (wpAny_storeSet_of ho1 rfl ?_ (lZ (by rw[hz];exact hb)))));have x2:=qX (knd:=knd) ho1 hx rfl (hl.perm hp) (fun k'=>(hm k').trans ⟨fun⟨e,he,q⟩=>⟨e,hp.mem_iff.mpr he,q⟩,fun⟨e,he,q⟩=>⟨e,hp.mem_iff.mp he,q⟩⟩) (by rw[hz];exact hb) hr hT;rw[hz,hL]at x2;exact ai (h _ (sb.trans (bU _ a _)) x2)
 ·exact ai (h _ sb x1)
theorem z9{t:bM}(T:jh t):jh {t with plain:=false}:=⟨T.up,T.no⟩
theorem addX{a:Addr}{S:K->Bool}{n:Nat}{led:Bool}{k:K}{x:Value}{Q:Bool->Shared->Prop}(hk:knd.is k x=true)(hsc:x.scannable=true)(hS:oE knd s.heap a S n led)(hroom:n+1<fN)
  (h:∀h',cY a s.heap h'->oE knd h' a (fun k'=>S k'||decide (k'=k)) (if S k then n else n+1) led->Q (!S k) {s with heap:=h'}):
  wpAny (model prog w) A (setAddHashed a x (knd.hash k)) Q E s:=by
 obtain⟨o,es,ep,t,ho,hx,hd,hl,hm,hb,hf,hn,ht,he⟩:=hS;have hb1:es.size+1<fN:=by rw[hn];exact hroom
 unfold setAddHashed setAddHashedIn;refine bC (aa (dO ho hd hf ?_));dsimp only;rw[byScan_of hsc hb hl];simp only[↓reduceIte];unfold setAddByScan;refine aa ?_;refine aa (fA (aa (wpAny_setScan_of hk ho hd hf hl ?_)));cases hr:List.findIdx? (fun e=>knd.is k e.2) es.toList with
 |some j=>
  dsimp only;obtain⟨hj,hp,_⟩:=List.findIdx?_eq_some_iff_getElem.mp hr;have hSk:S k=true:=(hm k).mpr ⟨es.toList[j],bO hj,hp⟩;refine ai (ai ?_);have :=h s.heap (zh a s.heap) ⟨o,es,ep,t,ho,hx,hd,hl,fun k'=>by
   rw[cS,decide_eq_true_eq,<-hm k'];exact⟨fun q=>q.elim id (fun e=>e▸hSk),.inl⟩,hb,hf,by rw[hSk];exact hn,ht,he⟩
  rw[hSk]at this;exact this
 |none=>
  dsimp only;have hSk:S k=false:=by
   cases q:S k with
   |false=>rfl
   |true=>
    obtain⟨e,m1,m2⟩:=(hm k).mp q;have :=List.findIdx?_eq_none_iff.mp hr e m1;rw[m2]at this;cases this
  have hw:∀(b:Bool){s₁:Shared}{Q':Unit->Shared->Prop},Q' () s₁->wpAny (model prog w) A (match b with |true=>rule "set.scan.the-table-gave-way" |false=>pure ()) Q' E s₁:=fun b s₁ Q' q=>by cases b<;>first |exact ai q|exact fA q
  have hp:=layNew_perm t es (knd.hash k) x;have hfit:=layNew_fits t es (knd.hash k) x;have hT:=(yq ht es (knd.hash k) x).1;have hL:=As t es (knd.hash k) x;generalize layNew t es (knd.hash k) x=L at hp hfit hT hL⊢;obtain⟨es1,t1,wd,gave⟩:=L;dsimp only at hp hfit hT hL⊢;rw[ke]at hp;have l1:ElemsOf knd es1.toList:=(hl.push hk hsc).perm hp;have m1:∀k',(S k'||decide (k'=k))=true↔∃e∈es1.toList,knd.is k' e.2=true:=mem_push_iff hk hm hp;have z1:es1.size=n+1:=by rw[<-bY,hp.length_eq,cu,bY,hn];rfl
  have b1:es1.size<fN:=by rw[z1];exact hroom
  refine aa (hw _ ?_);have fin:∀h',cY a s.heap h'->oE knd h' a (fun k'=>S k'||decide (k'=k)) es1.size led->Q true {s with heap:=h'}:=fun h' sb x=>by
   have :=h h' sb
   rw[hSk]at this;rw[z1]at x;exact this x
  split
  ·refine aa ?_
   rw[hashByValue_scannable 8 hsc];refine ai (y9 ?_ ho hx hd l1 m1 b1 ?_ ?_ ?_)
   ·intro b s₁ Q' q;cases b<;>first |exact ai q|exact fA q
   ·split
    ·exact hfit
    ·exact bM.fits_plain_off hfit
   ·split
    ·exact hT
    ·exact z9 hT
   ·intro h' sb x
    refine ai (fin h' sb ?_);split at x
    ·rw[hL,he]at x;exact x
    ·have e2:({t1 with plain:=false}:bM).led=led:=hL.trans he
     rw[e2]at x;exact x
  ·refine aa (ai ?_)
   simp only[↓reduceIte];refine y9 ?_ ho hx hd l1 m1 b1 hfit hT ?_
   ·intro b s₁ Q' q;cases b<;>first |exact ai q|exact fA q
   ·intro h' sb x
    rw[hL,he]at x;exact ai (fin h' sb x)
end
end Q
set_option maxHeartbeats 3200000
namespace Q
open PySem PySem.Spec PySem.W PyProof.Rows L2
section
variable {prog:Program}{w:World}{A:Around}{R:Result->Shared->Prop}{I:Addr}{fp wr:List Addr}{G:Array xg->Array xg->Prop}{n:Nat}{P:Nat->Value->Prop}{St:Nat->Shared->Prop}
theorem ug{led:Bool}(W:WalksS prog w A.in1 I fp wr G n P St)(S:Addr)(hSf:S∉fp)(ks:List Key)(hn:ks.length=n)(hv:∀i v,P i v->∃k,ks[i]? =some k/\RelV (kV k) v)(hb:n+1<fN):
  ∀(m i:Nat)(s:Shared),n-i=m->i<=n->St i s->oE (cy prog w) s.heap S (has (met (ks.take i))) (met (ks.take i)).length led->
   (∀s',Moved (S::wr) G s s'->oE (cy prog w) s'.heap S (has (met ks)) (met ks).length led->R (.ok (.ret .none)) s')->
   fo (model prog w) A (.builtin "set.update.loop" ⟨[.ref S,.ref I],[]⟩) R s
 | 0,i,s,hm,hi,st,hS,hR=>by
  obtain rfl:i=n:=by omega
  rw[<-hn,dv]at hS;refine cC kP ?_;rw[bS fS _];show wpAny _ A.in1 (pyNext (.ref I)>>=_) _ _ s;refine aa (W.done s _ _ st fun s' mv=>?_);obtain⟨o,es,ep,t,ho,rest⟩:=hS;exact ai (hR s' (mv.mono fun b hb=>aM _ hb) ⟨o,es,ep,t,mv.heap S _ (fun z=>hSf (W.sub _ z)) ho,rest⟩)
 |m+1,i,s,hm,hi,st,hS,hR=>by
  have hlt:i<n:=by omega
  refine cC kP ?_;rw[bS fS _];show wpAny _ A.in1 (pyNext (.ref I)>>=_) _ _ s;refine aa (W.item i s _ _ hlt st fun v s' hP st' mv=>?_);obtain⟨k,hk,rv⟩:=hv i v hP;have hS1:oE (cy prog w) s'.heap S (has (met (ks.take i))) (met (ks.take i)).length led:=by
   obtain⟨o,es,ep,t,ho,rest⟩:=hS;exact⟨o,es,ep,t,mv.heap S _ (fun z=>hSf (W.sub _ z)) ho,rest⟩
  have hsc:v.scannable=true:=by
   cases k with
   |inl j=>obtain⟨t,rfl⟩:=rv;rfl
   |inr x=>obtain⟨t,rfl⟩:=rv;rfl
  show wpAny _ A.in1 (holding [v] (setAdd S v)>>=_) _ _ s';refine aa (bC ?_);unfold setAdd;refine bC (aa ((cy prog w).pyHash (k:=k) (FW rv) ?_));have hle:=FI (ks.take i);rw[cJ]at hle;refine addX (knd:=cy prog w) (led:=led) (s:={s' with toks:=s'.toks+1}) (FW rv) hsc hS1 (by omega) fun h' hsb hS2=>?_;have et:ks.take (i+1)=ks.take i++[k]:=by rw[dj,hk];rfl
  have hS3:oE (cy prog w) h' S (has (met (ks.take (i+1)))) (met (ks.take (i+1))).length led:=by
   rw[et,FG];obtain⟨o,es,ep,t,ho,hex,hd,hel,hmem,hbb,hf,hnn,htt⟩:=hS2;refine⟨o,es,ep,t,ho,hex,hd,hel,fun j=>?_,hbb,hf,by rw[nV];exact hnn,htt⟩;rw[<-hmem j,gI,yj,cS,gI,decide_eq_true_eq]
  refine ai ⟨dc fS _,ug W S hSf ks hn hv hb m (i+1) _ (by omega) hlt (W.frame _ s' _ _ st' (eG _) fun b hq o e=>?_) hS3 fun s'' mv2 hS4=>?_⟩
  ·rw[hsb.2 b (fun z:b=S=>hSf (by rw[<-z];exact hq))]
   exact e
  ·refine hR s'' (ny W.gtrans ((mv.mono fun b hb=>aM _ hb).then_heap (eG _) fun b o hq e=>?_) mv2) hS4
   rw[hsb.2 b (fun z:b=S=>hq (by rw[z];exact aG))];exact e
end
section
variable {prog:Program}{w:World}{A:Around}{E:Value->Shared->Prop}{s:Shared}
theorem Dl(a:Value){Q₁:Value->Shared->Prop}(h:Q₁ (.ref s.heap.objs.size) {s with heap:=s.heap.push (o4 (!w.params.followText "set-order"))}):fo (model prog w) A (.call (.builtin "set.__new__") ⟨[.type "set",a],[]⟩) (wants Q₁ E) s:=by
 refine codeAny_of_tree ?_;show wpAny _ A.in1 (do checkBuiltinCall "set.__new__" ⟨[.type "set",a],[]⟩;again (.builtin "set.__new__" ⟨[.type "set",a],[]⟩)) _ _ s;refine aa (lX (F.newCall_set_1 a) (ai ⟨dc F.plain_set_new _,cC F.entry_set_new ?_⟩));rw[bS F.plain_set_new _];unfold Builtin.«set.__new__» Builtin.Frozenset.newClass;have hsub:=sub_set_self;obtain⟨hp,g,d,tk,os⟩:=s;dsimp only;wp_walk;refine dA (ai ?_);dsimp only;simp only[newObj];exact aa (wpAny_alloc (ai (ai h)))
theorem ui{l:Addr}{items:Array Value}{ks:List Key}{Q:Value->Shared->Prop}(hh:A.handled=none)(hl:s.heap.IsList l items)(hk:ks.length=items.size)
  (hv:∀(i:Nat)(v:Value),items[i]? =some v->∃k,ks[i]? =some k/\RelV (kV k) v)(hb:items.size+1<fN)
  (h:∀(h':Heap)(tk:Nat),oE (cy prog w) h' s.heap.objs.size (has (met ks)) (met ks).length (!w.params.followText "set-order")->(∀b o,b<s.heap.objs.size->s.heap.get? b=some o->h'.get? b=some o)->Q (.ref s.heap.objs.size) {s with heap:=h',toks:=tk}):
  wpAny (model prog w) A (call (.type "set") [.ref l]) Q E s:=by
 have c0:=F.called_set;obtain⟨c,tl,hmro⟩:=c0.mro;have f1:=c0.made;have f2:=c0.sub;have f3:=c0.notType;have f4:=c0.canCreate;have f5:=F.typeCall_set_1 (.ref l);refine DE (codeAny_of_tree ?_);show wpAny _ _ (callAny (.type "set") _) _ _ _;refine ai ⟨Code.quiet_builtin _ (by decide+kernel),cC F.entry_type_call ?_⟩;rw[Around.under_plain (weight_type_call_type "set" [.ref l] []) rfl];repeat(any_goals (first |assumption|wp_step))
 refine iY (Dl (.ref l) (E:=E) (Q₁:=fun obj s1=>∃led:Bool,led=(!w.params.followText "set-order")/\obj=.ref s.heap.objs.size/\s1={s with heap:=s.heap.push (o4 led)}) ⟨_,rfl,rfl,rfl⟩) fun r s1 hr=>?_;rcases r with e|fl
 ·exact hr
 rcases fl with _|_|_|obj
 ·exact hr.elim
 ·exact hr.elim
 ·exact hr.elim
 obtain⟨led,hled,rfl,rfl⟩:=hr;rw[<-hled]at h;have hS:(s.heap.push (o4 led)).get? s.heap.objs.size=some (o4 led):=au _ rfl;have hT:Shared.TypeIs {s with heap:=s.heap.push (o4 led)} (.ref s.heap.objs.size) "set":=⟨_,hS,rfl⟩;have f6:=c0.init.lookup;have f7:=c0.init.bind (.ref s.heap.objs.size);repeat(any_goals (first |assumption|wp_step))
 refine iY (codeAny_call_builtin (R:=wants (fun r s2=>r=.none/\∃h' tk,s2={s with heap:=h',toks:=tk}/\oE (cy prog w) h' s.heap.objs.size (has (met ks)) (met ks).length led/\
  (∀b o,b<s.heap.objs.size->s.heap.get? b=some o->h'.get? b=some o)) E) c0.init.plain F.entry_set_init (check_set_init_1 hT ?_)) fun r2 s2 hr2=>?_
 ·obtain⟨ol,hol,hcl,nl,hdl⟩:=hl
  obtain⟨oc,od,odt,osl⟩:=ol;obtain rfl:oc=.type "list":=hcl;obtain rfl:odt=.seq items nl:=hdl;have hol':(s.heap.push (o4 led)).get? l=some {cls:=.type "list",dict:=od,data:=.seq items nl,slots:=osl}:=ag _ hol;have g1:=F.sub_list_set;have g2:=F.sub_list_frozenset;have g3:(eT "list"==eT "dict")=false:=by decide
  have hl1:(s.heap.push (o4 led)).IsList l items:=⟨_,hol',rfl,nl,rfl⟩;unfold Builtin.«set.__init__» noKeywords Builtin.Frozenset.updateFrom;generalize hPI:pyIter=PI
  wp_walk
  subst hPI;refine iU hl1 (aa (wpAny_runValue ?_));have hlt:l<s.heap.objs.size:=aw hol;have h3:A.in1.in1.in1.handled=none:=by simp[hh]
  have hz:(s.heap.push (o4 led)).objs.size=s.heap.objs.size+1:=bT _ _;have hne:l≠(s.heap.push (o4 led)).objs.size:=by rw[hz];exact aB (bx hlt)
  have hnf:s.heap.objs.size∉[(s.heap.push (o4 led)).objs.size,l]:=by
   rw[hz];intro z;rcases ay.mp z with z|z
   ·exact aB (bE _) z
   ·exact cz hlt (aL.mp z)
  refine ug (led:=led) ((Ha h3 _ l hne items).toS) s.heap.objs.size hnf ks hk hv hb (items.size-0) 0 _ (by omega) (bf _) ⟨⟨_,au _ rfl,rfl,rfl⟩,hl1.push _⟩ ?_ fun s' mv hS'=>?_
  ·have hg:((s.heap.push (o4 led)).push {cls:=.type "list_iterator",data:=.fields #[.ref l,.int 0 0]}).get? s.heap.objs.size=some (o4 led):=ag _ hS
   exact⟨o4 led,#[],0,_,hg,⟨rfl,rfl,rfl⟩,rfl,fun e he=>by simp at he,fun k=>by simp[met,has],by decide,by rfl,rfl,⟨mn,rfl⟩,rfl⟩
  ·obtain⟨h',g',d',tk',os'⟩:=s'
   obtain rfl:g'=s.gens:=mv.gens;obtain rfl:d'=s.drawn:=mv.drawn;obtain rfl:os'=s.os:=mv.os;show wpAny _ _ _ _ _ _;refine ai ?_;show wpAny _ _ (ret bo) _ _ _;refine ai ⟨rfl,h',tk',rfl,hS',fun b o hq e=>mv.heap b o (fun z=>?_) (ag _ (ag _ e))⟩;rcases ay.mp z with z|z
   ·exact aB hq z
   ·exact aB (bx hq) ((aL.mp z).trans hz)
 ·rcases r2 with e|fl2
  ·exact hr2
  rcases fl2 with _|_|_|v
  ·exact hr2.elim
  ·exact hr2.elim
  ·exact hr2.elim
  obtain⟨rfl,h',tk,rfl,hS',hk'⟩:=hr2;repeat(any_goals (first |assumption|wp_step))
  exact h _ _ hS' hk'
end
theorem Dq{X:Cx}(hc:X.calm=true):fL X (.type "set") (rSet X.K):=by
 intro pins s σ H xs us Q I r h;obtain⟨p,ks,rfl,hq,hz,q⟩:=h;obtain⟨u,rfl,rx⟩:=vals1 r;cases rx;obtain⟨its,r',pl,_⟩:=I.list hq;have hlen:=r'.length;rw[ao]at hlen;refine ui (ks:=ks) (I.ok.hd hc) pl.isList (by rw[av];exact hlen) (fun i v e=>wu r' i v (by simpa using e)) (by rw[av,<-hlen];unfold fN;omega) fun h' tk hS kp=>?_;refine⟨.ref s.heap.objs.size,_,I.laid (t':=tk) (fun b o e=>kp b o (aw e) e) (ax _) (show dR X.prog X.w _ _ _ (zU _ (met ks).length)from ?_),rfl,q _ (I.hok.fresh (ax _))⟩;obtain⟨o,es,ep,t,ho,hex,hd,hel,hmem,hbb,hf,hn⟩:=hS.of;refine⟨⟨o,es,ep,t,ho,hex,hd,hbb,hf,hn⟩,⟨o,ho⟩,fun h1 h2 z k=>?_⟩;obtain⟨o,es,ep,t,ho,rest⟩:=z;exact⟨o,es,ep,t,k o ho,rest⟩
end Q
set_option maxHeartbeats 1000000
namespace Q
open PySem
theorem mY{α:Type}:∀{l:List α}{i:Nat}(h:i<l.length),(l[i]::l.eraseIdx i).Perm l
 |a::l,0,_=>eW _
 |a::l,i+1,h=>by
  have hi:i<l.length:=by simpa using h
  have ih:=mY hi;show(l[i]::a::l.eraseIdx i).Perm (a::l);exact(Hk _ _ _).trans (ih.cons a)
theorem Be{α:Type}(next :Nat->Nat):∀(fuel k:Nat)(left:List α)(out:Array α),left.length<=fuel->(w4 next fuel k left out).toList.Perm (out.toList++left)
 | 0,k,left,out,h=>by
  have e:left=[]:=cg.mp (by omega);subst e;simp[w4]
 |fuel+1,k,left,out,h=>by
  unfold w4;cases left with
  |nil=>simp
  |cons a l=>
   have hi:next k%(a::l).length<(a::l).length:=Nat.mod_lt _ (by simp)
   rw[af hi];dsimp only;refine(Be next fuel (k+1) _ _ (by rw[xm hi];simp at h⊢;omega)).trans ?_;rw[ke,gp];exact List.Perm.append_left _ (mY hi)
theorem lO{α:Type}(next :Nat->Nat)(xs:Array α):(hJ next xs).toList.Perm xs.toList:=by
 unfold hJ;exact(Be next xs.size 0 xs.toList #[] (by simp)).trans (by simp)
section
variable {M:Model}{A:Around}{E:Value->Shared->Prop}
theorem tm{s:Shared}{src:Source}{n:Nat}{Q:Nat->Shared->Prop}(h:n≠0)(q:∀i d,i<n->Q i {s with drawn:=d}):wpAny M A (choose src n) Q E s:=fun Γ p hΓ=>by
 unfold choose;rw[Sem.wp_choose];exact⟨h,q _ _ (Nat.mod_lt _ (Nat.pos_of_ne_zero h))⟩
theorem uL{α:Type}:∀(n:Nat)(xs:List α)(s:Shared)(Q:List α->Shared->Prop),xs.length<=n->(∀ys d,ys.Perm xs->Q ys {s with drawn:=d})->wpAny M A (drawOrder n xs) Q E s
 | 0,xs,s,Q,h,q=>by
  have e:xs=[]:=cg.mp (by omega);subst e;unfold drawOrder;exact ai (q [] s.drawn (eW _))
 |n+1,[],s,Q,h,q=>by
  unfold drawOrder;exact ai (q [] s.drawn (eW _))
 |n+1,a::l,s,Q,h,q=>by
  unfold drawOrder;refine aa (tm (by simp) fun i d hi=>?_);rw[af hi];dsimp only;refine aa (uL n _ _ _ (by rw[xm hi];simp at h⊢;omega) fun ys d' hy=>ai ?_);exact q _ d' ((hy.cons _).trans (mY hi))
end
end Q
set_option maxHeartbeats 3200000
namespace Q
open PySem PySem.Spec PySem.W PyProof.Rows L2
theorem eZ:Slot "set_iterator" "__next__" "set_iterator.__next__":=
 .of (owner:="set_iterator") (n:="__next__") (by rw[oM,je];kernel_rfl) (by decide+kernel) (by decide+kernel) (by decide+kernel) (by first |exact .inl (by decide+kernel) |exact .inr (by decide+kernel)) (by rw[DK];kernel_rfl)
theorem mx:entryFor table "set_iterator.__next__"=some Builtin.«set_iterator.__next__»:=entryFor_of_tree (by kernel_rfl)
theorem oA(a:Value):argsOk "set_iterator.__next__" ⟨[a],[]⟩:=by unfold argsOk;kernel_rfl
theorem qi:entryFor table "set.__iter__"=some Builtin.«frozenset.__iter__»:=entryFor_alias (id':="frozenset.__iter__") (by kernel_rfl) rfl (by decide+kernel) (by kernel_rfl)
noncomputable abbrev siO(S:Addr)(first :Value)(i n ep:Nat):Obj:={cls:=.type "set_iterator",dict:=none,data:=.fields #[first,.int i 0,.ref S,.int n 0,.int ep 0],slots:= #[]}
section
variable {prog:Program}{w:World}{A:Around}{E:Value->Shared->Prop}{s:Shared}
noncomputable def ix(es:Array (Int×Value))(t:bM):Bool:= !t.plain&&es.size>1
theorem nH{a:Addr}{o:Obj}{es:Array (Int×Value)}{ep:Nat}{t:bM}{Q:Bool->Shared->Prop}(ho:s.heap.get? a=some o)(hd:o.data=.set es ep t)(hf:t.fits es.size=true)(h:Q (!w.params.followText "set-order"&&ix es t) s):
  wpAny (model prog w) A (setDrawn a) Q E s:=by
 unfold setDrawn kX;refine aa (dO ho hd hf ?_);dsimp only;refine aa (aa (dA (ai (ai ?_))));exact h
theorem FZ{S:Addr}{o:Obj}{es:Array (Int×Value)}{ep:Nat}{t:bM}{Q:Value->Shared->Prop}(ho:s.heap.get? S=some o)(hc:o.cls=.type "set")(hd:o.data=.set es ep t)(hf:t.fits es.size=true)(hsb:es.size<fN)
  (h1:(!w.params.followText "set-order"&&ix es t)=false->Q (.ref s.heap.objs.size) {s with heap:=s.heap.push (siO S (.int 0 0) 0 es.size ep)})
  (h2:(!w.params.followText "set-order"&&ix es t)=true->∀(ps:List Nat)(d:Drawn),ps.Perm (aq es.size)->Q (.ref (s.heap.objs.size+1)) {s with drawn:=d,heap:=(s.heap.push {cls:=.type "tuple",data:=.seq (ps.map fun(i:Nat)=>rawInt i).toArray}).push (siO S (.ref s.heap.objs.size) 0 es.size ep)}):
  wpAny (model prog w) A (pyIter (.ref S)) Q E s:=by
 have hT:s.TypeIs (.ref S) "set":=⟨o,ho,hc⟩;refine wpAny_pyIter_slot hT F.slot_set_iter (cm F.slot_set_iter hT qi ?_ (F.args_set_iter_1 _));unfold Builtin.«frozenset.__iter__» Builtin.Frozenset.slot0 Builtin.Frozenset.sizeOf
 wp_walk
 have hfc:(t.place.size != es.size||decide (t.fill>t.mask))=false:=by
  simp only[bM.fits,aj,beq_iff_eq,decide_eq_true_eq]at hf;simp[hf.1,fO.mpr hf.2]
 rw[hd];dsimp only;rw[if_neg (by rw[hfc];decide)];refine ai (ai (ai ?_));refine aa (nH ho hd hf ?_);dsimp only;cases hb:(!w.params.followText "set-order"&&ix es t)with
 |false=>
  rw[if_neg (by decide)];refine aa (ai (aa (wpAny_setEpoch_of ho hd hf ?_)));refine aa (b8 (ai ⟨_,rfl,"set_iterator",_,⟨_,au _ rfl,rfl⟩,eZ.lookup,h1 hb⟩))
 |true=>
  rw[if_pos rfl];refine aa (uL _ _ _ _ (by simp) fun ps d hp=>?_);refine aa (b8 ?_ (by show(ps.map fun(i:Nat)=>rawInt i).toArray.size<=sizeLine;rw[av,ao,hp.length_eq,bI];exact lZ hsb));have ho1:(s.heap.push {cls:=.type "tuple",data:=.seq (ps.map fun(i:Nat)=>rawInt i).toArray}).get? S=some o:=ag _ ho;refine aa (wpAny_setEpoch_of (s:={s with drawn:=d,heap:=s.heap.push {cls:=.type "tuple",data:=.seq (ps.map fun(i:Nat)=>rawInt i).toArray}}) ho1 hd hf ?_);have hz:(s.heap.push {cls:=.type "tuple",data:=.seq (ps.map fun(i:Nat)=>rawInt i).toArray}).objs.size=s.heap.objs.size+1:=bT ..;refine aa (b8 (ai ⟨_,rfl,"set_iterator",_,⟨_,au _ rfl,rfl⟩,eZ.lookup,?_⟩));have :=h2 hb ps d hp;rw[<-hz]at this;exact this
end
section
variable {prog:Program}{w:World}{A:Around}{E:Value->Shared->Prop}{s:Shared}
structure jy(h:Heap)(S:Addr)(es:Array (Int×Value))(ep:Nat)(t:bM):Prop where
 ob:∃o,h.get? S=some o/\o.cls=.type "set"/\o.data=.set es ep t
 fit:t.fits es.size=true
theorem i4{I S:Addr}{first :Value}{i ep:Nat}{es:Array (Int×Value)}{t:bM}{Q:dS->Shared->Prop}(hi:s.heap.get? I=some (siO S first i es.size ep))(hs:jy s.heap S es ep t)
  (h:wpAny (model prog w) A (match first with
   |.int slot _=>do
    match<-setNext S slot.toNat i ep with
    |some (x,next)=>do
     nj (.ref I) 0 (rawInt next)
     nj (.ref I) 1 (rawInt ((i:Int)+1))
     ret x
    |none=>do
     nj (.ref I) 2 .none
     DJ (<-newExc (.type "StopIteration") [])
   |_=>do
    let some places<-jj first |unsupported "internal:set_iterator"
    match places[i]? with
    |some (.int place _)=>do
     let x<-setNextDrawn S place.toNat ep
     nj (.ref I) 1 (rawInt ((i:Int)+1))
     ret x
    |some _=>unsupported "internal:set_iterator"
    |none=>do
     nj (.ref I) 0 (rawInt 0)
     nj (.ref I) 2 .none
     DJ (<-newExc (.type "StopIteration") [])) Q E s):
  wpAny (model prog w) A (Builtin.«set_iterator.__next__» ⟨[.ref I],[]⟩) Q E s:=by
 obtain⟨⟨o,ho,hc,hd⟩,hf⟩:=hs;unfold Builtin.«set_iterator.__next__»;show wpAny _ _ (fieldsOf (.ref I)>>=_) _ _ _;refine aa (wpAny_fieldsOf hi rfl ?_);dsimp only;refine aa (wpAny_setEntries_of ho hd hf ?_);rw[if_neg (by simp)];exact h
theorem nextA{I S:Addr}{k i ep:Nat}{es:Array (Int×Value)}{t:bM}{x:Int×Value}{Q:dS->Shared->Prop}(hw:w.params.followText "set-order"=true)(hi:s.heap.get? I=some (siO S (.int k 0) i es.size ep))(hs:jy s.heap S es ep t)
  (hx:(hJ (w.params.setOrder S ep) es)[i]? =some x)(h:∀h',h'.get? I=some (siO S (.int k 0) (i+1) es.size ep)->cY I s.heap h'->Q (.done (.ret x.2)) {s with heap:=h'}):
  wpAny (model prog w) A (Builtin.«set_iterator.__next__» ⟨[.ref I],[]⟩) Q E s:=by
 refine i4 hi hs ?_;obtain⟨⟨o,ho,hc,hd⟩,hf⟩:=hs;dsimp only;refine aa ?_;unfold setNext kX;refine aa (dO ho hd hf ?_);dsimp only;refine aa (aa (dA (ai ?_)));dsimp only;rw[show(model prog w).w.params.followText "set-order"=true from hw];simp only[if_true,bne_self_eq_false,aJ,if_false];refine aa ?_;unfold setWalk kX;refine aa (dO ho hd hf ?_);dsimp only;refine aa (aa (dA (ai ?_)));dsimp only;rw[show(model prog w).w.params.followText "set-order"=true from hw];simp only[if_true];refine aa (dA (ai (ai ?_)));rw[show(hJ ({program:=(model prog w).prog,params:=(model prog w).w.params:Setting}.params.setOrder S ep) es)[i]? =some x from hx];simp only[i5,aX];refine aa (cZ hi (by simp) fun h1 e1 s1=>?_);have e1:h1.get? I=some (siO S (.int k 0) i es.size ep):=e1;refine aa (cZ e1 (by simp) fun h2 e2 s2=>?_);have e2:h2.get? I=some (siO S (.int k 0) (i+1) es.size ep):=e2;exact ai (h h2 e2 (s1.trans s2))
theorem nextB{I S:Addr}{k i ep:Nat}{es:Array (Int×Value)}{t:bM}{x:Int×Value}{Q:dS->Shared->Prop}(hw:w.params.followText "set-order"=false)(hdr:ix es t=false)(hled:t.led=true)(hi:s.heap.get? I=some (siO S (.int k 0) i es.size ep))(hs:jy s.heap S es ep t)
  (hk:cE t.place k=i)(hx:es[i]? =some x)(h:∀h' j,t.place[i]? =some j->h'.get? I=some (siO S (.int (j+1:Nat) 0) (i+1) es.size ep)->cY I s.heap h'->Q (.done (.ret x.2)) {s with heap:=h'}):
  wpAny (model prog w) A (Builtin.«set_iterator.__next__» ⟨[.ref I],[]⟩) Q E s:=by
 refine i4 hi hs ?_;obtain⟨⟨o,ho,hc,hd⟩,hf⟩:=hs;dsimp only;refine aa ?_;unfold setNext kX;refine aa (dO ho hd hf ?_);dsimp only;refine aa (aa (dA (ai ?_)));dsimp only;rw[show(model prog w).w.params.followText "set-order"=false from hw];simp only[aJ,if_false];have hsz:t.place.size=es.size:=by
  simp only[bM.fits,aj,beq_iff_eq]at hf;exact hf.1
 have hil:i<es.size:=(dE.mp hx).1;have hj:t.place[i]? =some (t.place[i]'(by omega)):=by simp[show i<t.place.size by omega]
 rw[if_neg (fun z=>by have z':ix es t=true:=z;rw[hdr]at z';cases z')];refine aa (show wpAny _ _ (if(!t.led&& !es.isEmpty)=true then unsupported "set:maker-not-led" else pure ()) _ _ _ from ?_);rw[if_neg (by rw[hled];simp)];refine ai (ai ?_);simp only[aX,hk,hx,hj];refine aa (cZ hi (by simp) fun h1 e1 s1=>?_);have e1:h1.get? I=some (siO S (.int (t.place[i]'(by omega)+1:Nat) 0) i es.size ep):=e1;refine aa (cZ e1 (by simp) fun h2 e2 s2=>?_);have e2:h2.get? I=some (siO S (.int (t.place[i]'(by omega)+1:Nat) 0) (i+1) es.size ep):=e2;exact ai (h h2 _ hj e2 (s1.trans s2))
theorem nextC{I S T:Addr}{i ep p:Nat}{tk:Tok}{es:Array (Int×Value)}{t:bM}{ps:Array Value}{m:Nat}{oT:Obj}{x:Int×Value}{Q:dS->Shared->Prop}(hi:s.heap.get? I=some (siO S (.ref T) i es.size ep))(hs:jy s.heap S es ep t)
  (hT:s.heap.get? T=some oT)(hTd:oT.data=.seq ps m)(hp:ps[i]? =some (.int p tk))(hx:es[p]? =some x)(h:∀h',h'.get? I=some (siO S (.ref T) (i+1) es.size ep)->cY I s.heap h'->Q (.done (.ret x.2)) {s with heap:=h'}):
  wpAny (model prog w) A (Builtin.«set_iterator.__next__» ⟨[.ref I],[]⟩) Q E s:=by
 refine i4 hi hs ?_;obtain⟨⟨o,ho,hc,hd⟩,hf⟩:=hs;dsimp only;refine aa (da hT hTd ?_);simp only[hp,aX];refine aa ?_;unfold setNextDrawn;refine aa (dO ho hd hf ?_);simp only[bne_self_eq_false,aJ,if_false,hx];refine ai ?_;refine aa (cZ hi (by simp) fun h2 e2 s2=>?_);have e2:h2.get? I=some (siO S (.ref T) (i+1) es.size ep):=e2;exact ai (h h2 e2 s2)
end
section
variable {prog:Program}{w:World}{A:Around}{E:Value->Shared->Prop}{s:Shared}
theorem mR{α:Type}{Q:α->Shared->Prop}(hh:A.handled=none)(h:∀h' e,(∀c o,s.heap.get? c=some o->h'.get? c=some o)->(∃o,h'.get? e=some o/\o.cls=.type "StopIteration")->E (.ref e) {s with heap:=h'}):
  wpAny (model prog w) A (newExc (.type "StopIteration") []>>=fun x=>DJ x) Q E s:=by
 refine aa ?_;simp only[newExc,newTuple];refine aa (b8 ?_ (by size_fits));refine aa (m:=ql _ _) (lX (a:=bo) (by first |rfl| (simp only[ql];rfl)) ?_);refine b8 ?_ (by size_fits);simp only[DJ];refine aa (wpAny_handled ?_);rw[hh];refine aa (ai (wpAny_throw ?_));exact h _ _ (fun c o e=>ag _ (ag _ e)) ⟨_,au _ rfl,rfl⟩
noncomputable def Ends(E:Value->Shared->Prop)(I:Addr)(s:Shared):Prop:=∀h' e,(∀c o,c≠I->s.heap.get? c=some o->h'.get? c=some o)->(∃o,h'.get? e=some o/\o.cls=.type "StopIteration")->E (.ref e) {s with heap:=h'}
theorem endA{I S:Addr}{k ep:Nat}{es:Array (Int×Value)}{t:bM}{Q:dS->Shared->Prop}(hh:A.handled=none)(hw:w.params.followText "set-order"=true)(hi:s.heap.get? I=some (siO S (.int k 0) es.size es.size ep))(hs:jy s.heap S es ep t)(h:Ends E I s):
  wpAny (model prog w) A (Builtin.«set_iterator.__next__» ⟨[.ref I],[]⟩) Q E s:=by
 have hx:(hJ (w.params.setOrder S ep) es)[es.size]? =none:=by
  have :=(lO (w.params.setOrder S ep) es).length_eq
  simp at this⊢;omega
 refine i4 hi hs ?_;obtain⟨⟨o,ho,hc,hd⟩,hf⟩:=hs;dsimp only;refine aa ?_;unfold setNext kX;refine aa (dO ho hd hf ?_);dsimp only;refine aa (aa (dA (ai ?_)));dsimp only;rw[show(model prog w).w.params.followText "set-order"=true from hw];simp only[if_true,bne_self_eq_false,aJ,if_false];refine aa ?_;unfold setWalk kX;refine aa (dO ho hd hf ?_);dsimp only;refine aa (aa (dA (ai ?_)));dsimp only;rw[show(model prog w).w.params.followText "set-order"=true from hw];simp only[if_true];refine aa (dA (ai (ai ?_)));rw[show(hJ ({program:=(model prog w).prog,params:=(model prog w).w.params:Setting}.params.setOrder S ep) es)[es.size]? =none from hx];simp only[Option.map_none];refine aa (cZ hi (by simp) fun h1 e1 s1=>?_);exact mR (s:={s with heap:=h1}) hh fun h' e kp he=>h h' e (fun c o c1 q=>kp c o (s1.extBut c o c1 q)) he
theorem endB{I S:Addr}{k ep:Nat}{es:Array (Int×Value)}{t:bM}{Q:dS->Shared->Prop}(hh:A.handled=none)(hw:w.params.followText "set-order"=false)(hdr:ix es t=false)(hled:t.led=true)(hi:s.heap.get? I=some (siO S (.int k 0) es.size es.size ep))(hs:jy s.heap S es ep t)
  (hk:cE t.place k=es.size)(h:Ends E I s):wpAny (model prog w) A (Builtin.«set_iterator.__next__» ⟨[.ref I],[]⟩) Q E s:=by
 refine i4 hi hs ?_;obtain⟨⟨o,ho,hc,hd⟩,hf⟩:=hs;dsimp only;refine aa ?_;unfold setNext kX;refine aa (dO ho hd hf ?_);dsimp only;refine aa (aa (dA (ai ?_)));dsimp only;rw[show(model prog w).w.params.followText "set-order"=false from hw];simp only[aJ,if_false];rw[if_neg (fun z=>by have z':ix es t=true:=z;rw[hdr]at z';cases z')];refine aa (show wpAny _ _ (if(!t.led&& !es.isEmpty)=true then unsupported "set:maker-not-led" else pure ()) _ _ _ from ?_);rw[if_neg (by rw[hled];simp)];refine ai (ai ?_);have hn:es[es.size]? =none:=by simp
 simp only[aX,hk,hn];refine aa (cZ hi (by simp) fun h1 e1 s1=>?_);exact mR (s:={s with heap:=h1}) hh fun h' e kp he=>h h' e (fun c o c1 q=>kp c o (s1.extBut c o c1 q)) he
theorem endC{I S T:Addr}{ep:Nat}{es:Array (Int×Value)}{t:bM}{ps:Array Value}{m:Nat}{oT:Obj}{Q:dS->Shared->Prop}(hh:A.handled=none)(hi:s.heap.get? I=some (siO S (.ref T) es.size es.size ep))(hs:jy s.heap S es ep t)(hT:s.heap.get? T=some oT)(hTd:oT.data=.seq ps m)(hp:ps.size=es.size)(h:Ends E I s):
  wpAny (model prog w) A (Builtin.«set_iterator.__next__» ⟨[.ref I],[]⟩) Q E s:=by
 refine i4 hi hs ?_;dsimp only;refine aa (da hT hTd ?_);have hn:ps[es.size]? =none:=by simp;omega
 simp only[hn];refine aa (cZ hi (by simp) fun h1 e1 s1=>?_);have e1:h1.get? I=some (siO S (.int 0 0) es.size es.size ep):=e1;refine aa (cZ e1 (by simp) fun h2 e2 s2=>?_);exact mR (s:={s with heap:=h2}) hh fun h' e kp he=>h h' e (fun c o c1 q=>kp c o (s2.extBut c o c1 (s1.extBut c o c1 q))) he
end
theorem nK:Slot "set_iterator" "__iter__" "set_iterator.__iter__":=
 .of (owner:="set_iterator") (n:="__iter__") (by rw[oM,je];kernel_rfl) (by decide+kernel) (by decide+kernel) (by decide+kernel) (by first |exact .inl (by decide+kernel) |exact .inr (by decide+kernel)) (by rw[DK];kernel_rfl)
theorem tI:entryFor table "set_iterator.__iter__"=some Builtin.«dict_keyiterator.__iter__»:=
 entryFor_alias (id':="dict_keyiterator.__iter__") (by kernel_rfl) (by first |rfl|decide+kernel) (by decide+kernel) (by kernel_rfl)
theorem wR(a:Value):argsOk "set_iterator.__iter__" ⟨[a],[]⟩:=by unfold argsOk;kernel_rfl
section
variable {prog:Program}{w:World}{A:Around}{E:Value->Shared->Prop}{s:Shared}
theorem vI{I:Addr}{Q:Option Value->Shared->Prop}(hT:s.TypeIs (.ref I) "set_iterator")(h:∀(Q':dS->Shared->Prop)(E':Value->Shared->Prop),(∀v h',Q (some v) {s with heap:=h'}->Q' (.done (.ret v)) {s with heap:=h'})->wpAny (model prog w) A.in1 (Builtin.«set_iterator.__next__» ⟨[.ref I],[]⟩) Q' E' s):
  wpAny (model prog w) A (pyNext (.ref I)) Q E s:=by
 unfold pyNext;exact aa (jA (cT (name:=bj "__next__") hT eZ (cm eZ hT mx (h _ _ fun v h' q=>⟨_,rfl,ai q⟩) (oA _))))
theorem vJ{I:Addr}{Q:Option Value->Shared->Prop}(hT:s.TypeIs (.ref I) "set_iterator")(h:∀(Q':dS->Shared->Prop)(E':Value->Shared->Prop),(∀h' e,(∀c o,c≠I->s.heap.get? c=some o->h'.get? c=some o)->(∃o,h'.get? e=some o/\o.cls=.type "StopIteration")->E' (.ref e) {s with heap:=h'})->wpAny (model prog w) A.in1 (Builtin.«set_iterator.__next__» ⟨[.ref I],[]⟩) Q' E' s)
  (q:∀h',(∀c o,c≠I->s.heap.get? c=some o->h'.get? c=some o)->Q none {s with heap:=h'}):wpAny (model prog w) A (pyNext (.ref I)) Q E s:=by
 unfold pyNext;refine aa (jA (cT (name:=bj "__next__") hT eZ (cm eZ hT mx (h _ _ fun h' e kp he=>?_) (oA _))));obtain⟨o,e1,e2⟩:=he;exact aa (gZ (T:="StopIteration") (b:=true) ⟨o,e1,e2⟩ DL (ai (q _ kp)))
theorem vH{I:Addr}{Q:Value->Shared->Prop}(hT:s.TypeIs (.ref I) "set_iterator")(h:Q (.ref I) s):wpAny (model prog w) A (pyIter (.ref I)) Q E s:=by
 refine wpAny_pyIter_slot hT nK (cm nK hT tI ?_ (wR _));show wpAny _ _ (ret (.ref I)) _ _ s;exact ai ⟨_,rfl,"set_iterator",_,hT,eZ.lookup,h⟩
end
theorem jy.at{h h':Heap}{S:Addr}{es:Array (Int×Value)}{ep:Nat}{t:bM}(x:jy h S es ep t)(k:∀o,h.get? S=some o->h'.get? S=some o):jy h' S es ep t:=let⟨⟨o,a,b,c⟩,f⟩:=x;⟨⟨o,k o a,b,c⟩,f⟩
variable {prog:Program}{w:World}{A:Around}
theorem walkA(hh:A.handled=none)(hw:w.params.followText "set-order"=true){I S:Addr}(ne:S≠I)(es:Array (Int×Value))(ep:Nat)(t:bM):
  Walks prog w A I [I,S] [I] es.size (fun i v=>((hJ (w.params.setOrder S ep) es).toList.map (·.2))[i]? =some v) (fun i h=>jy h S es ep t/\∃k:Nat,h.get? I=some (siO S (.int k 0) i es.size ep)) where
 sub:=fun b hb=>by simp at hb⊢;exact .inl hb
 frame:=fun i h h' ⟨x,k,e⟩ kp=>⟨x.at fun o q=>kp S (by simp) o q,k,kp I (by simp) _ e⟩
 item:=fun i s Q E hi ⟨x,k,e⟩ hQ=>by
  have hl:=(lO (w.params.setOrder S ep) es).length_eq;simp only[bY]at hl;have hx:(hJ (w.params.setOrder S ep) es)[i]? =some ((hJ (w.params.setOrder S ep) es)[i]'(by omega)):=by simp[show i<(hJ (w.params.setOrder S ep) es).size by omega]
  refine vI ⟨_,e,rfl⟩ fun Q' E' q=>nextA hw e x hx fun h' e' sb=>q _ h' ?_;exact hQ _ h' s.toks (by simp[hx]) ⟨x.at fun o z=>sb.extBut S o ne z,k,e'⟩ fun b o hb z=>sb.extBut b o (by simpa using hb) z
 done:=fun s Q E ⟨x,k,e⟩ hQ=>vJ ⟨_,e,rfl⟩ (fun Q' E' q=>endA (by simp[hh]) hw e x q) fun h' kp=>hQ h' s.toks fun b o hb z=>kp b o (by simpa using hb) z
 self:=fun i s Q E ⟨x,k,e⟩ q=>vH ⟨_,e,rfl⟩ q
theorem walkB(hh:A.handled=none)(hw:w.params.followText "set-order"=false){I S:Addr}(ne:S≠I)(es:Array (Int×Value))(ep:Nat)(t:bM)(hd:ix es t=false)(hl:t.led=true)(hT:jh t):
  Walks prog w A I [I,S] [I] es.size (fun i v=>(es.toList.map (·.2))[i]? =some v) (fun i h=>jy h S es ep t/\∃k:Nat,cE t.place k=i/\h.get? I=some (siO S (.int k 0) i es.size ep)) where
 sub:=fun b hb=>by simp at hb⊢;exact .inl hb
 frame:=fun i h h' ⟨x,k,hk,e⟩ kp=>⟨x.at fun o q=>kp S (by simp) o q,k,hk,kp I (by simp) _ e⟩
 item:=fun i s Q E hi ⟨x,k,hk,e⟩ hQ=>by
  have hx:es[i]? =some es[i]:=by simp[hi]
  refine vI ⟨_,e,rfl⟩ fun Q' E' q=>nextB hw hd hl e x hk hx fun h' j hj e' sb=>q _ h' ?_;exact hQ _ h' s.toks (by simp[hx]) ⟨x.at fun o z=>sb.extBut S o ne z,j+1,AI hT.up hj,e'⟩ fun b o hb z=>sb.extBut b o (by simpa using hb) z
 done:=fun s Q E ⟨x,k,hk,e⟩ hQ=>vJ ⟨_,e,rfl⟩ (fun Q' E' q=>endB (by simp[hh]) hw hd hl e x hk q) fun h' kp=>hQ h' s.toks fun b o hb z=>kp b o (by simpa using hb) z
 self:=fun i s Q E ⟨x,k,hk,e⟩ q=>vH ⟨_,e,rfl⟩ q
theorem walkC(hh:A.handled=none){I S T:Addr}(ne:S≠I)(neT:T≠I)(es:Array (Int×Value))(ep:Nat)(t:bM)(ps:List Nat)(hp:ps.Perm (aq es.size)):
  Walks prog w A I [I,S,T] [I] es.size (fun i v=>(ps.map fun p=>(es.getD p (0,.none)).2)[i]? =some v) (fun i h=>jy h S es ep t/\h.get? T=some {cls:=.type "tuple",data:=.seq (ps.map fun(i:Nat)=>rawInt i).toArray}/\h.get? I=some (siO S (.ref T) i es.size ep)) where
 sub:=fun b hb=>by simp at hb⊢;exact .inl hb
 frame:=fun i h h' ⟨x,z,e⟩ kp=>⟨x.at fun o q=>kp S (by simp) o q,kp T (by simp) _ z,kp I (by simp) _ e⟩
 item:=fun i s Q E hi ⟨x,z,e⟩ hQ=>by
  have hl:ps.length=es.size:=by rw[hp.length_eq,bI]
  have hil:i<ps.length:=by omega
  have hm:ps[i]<es.size:=aQ.mp (hp.mem_iff.mp (bO hil));have hx:es[ps[i]]? =some es[ps[i]]:=by simp[hm]
  refine vI ⟨_,e,rfl⟩ fun Q' E' q=>nextC (p:=ps[i]) (tk:=0) e x z rfl (by simp[hil,rawInt]) hx fun h' e' sb=>q _ h' ?_;exact hQ _ h' s.toks (by simp[hil,hm]) ⟨x.at fun o y=>sb.extBut S o ne y,sb.extBut T _ neT z,e'⟩ fun b o hb y=>sb.extBut b o (by simpa using hb) y
 done:=fun s Q E ⟨x,z,e⟩ hQ=>vJ ⟨_,e,rfl⟩ (fun Q' E' q=>endC (by simp[hh]) e x z rfl (by simp[hp.length_eq]) q) fun h' kp=>hQ h' s.toks fun b o hb y=>kp b o (by simpa using hb) y
 self:=fun i s Q E ⟨x,z,e⟩ q=>vH ⟨_,e,rfl⟩ q
end Q
namespace Q
open PySem PySem.Spec PySem.W PyProof.Rows L2
section
variable {prog:Program}{w:World}{A:Around}{E:Value->Shared->Prop}{s:Shared}
theorem ite_yes{α:Type}{M:Model}{b:Bool}{x y:Sem α}{Q:α->Shared->Prop}(hb:b=true)(h:wpAny M A x Q E s):wpAny M A (if b=true then x else y) Q E s:=by rw[if_pos hb];exact h
theorem yu{S:Addr}{Q:Bool->Shared->Prop}(hT:s.TypeIs (.ref S) "set")(h:Q false s):wpAny (model prog w) A (fE (.ref S)) Q E s:=by
 unfold fE;refine aa (oK hT F.slot_set_len.lookup ?_);generalize hid:("set.__len__":String)=id0
 (fail_if_success (clear hid id0))
 wp_delta
 rw[show splitId id0=some ("set","__len__")from by subst hid;decide+kernel];subst hid;refine aa (gZ (b:=true) hT (by rw[DK];kernel_rfl) ?_);rw[if_neg (by decide)];refine ite_yes (by decide+kernel) (aa (wY hT ?_));exact ai h
noncomputable abbrev iI(acc:Array Value)(c:Nat):Obj:={cls:=.type "list",dict:=none,data:=.seq acc c,slots:= #[]}
theorem touch{L:Addr}{acc:Array Value}{c:Nat}{Q:Unit->Shared->Prop}(hL:s.heap.get? L=some (iI acc c))(hz:acc.size<=5000)(h:∀h' c',h'.get? L=some (iI acc c')->cY L s.heap h'->Q () {s with heap:=h'}):wpAny (model prog w) A (jU (.ref L)) Q E s:=by
 have hz1:acc.size<=sizeLine:=aI hz (by decide);unfold jU;refine aa (fB hL rfl ?_ hz1 (by simp;omega));have e1:∃c1,(s.heap.update L (aS fun x=>x.push bo)).get? L=some (iI (acc.push .none) c1):=⟨_,by rw[bA _ hL rfl];rfl⟩;obtain⟨c1,e1⟩:=e1;refine fB (s:={s with heap:=s.heap.update L (aS fun x=>x.push bo)}) e1 rfl ?_ (by simp;exact aI (by omega:acc.size+1<=5001) (by decide)) (by simp;omega);have e2:∃c2,((s.heap.update L (aS fun x=>x.push bo)).update L (aS fun x=>x.pop)).get? L=some (iI acc c2):=⟨_,by rw[bA _ e1 rfl];simp[aS];rfl⟩;obtain⟨c2,e2⟩:=e2;exact h _ c2 e2 ((bU ..).trans (bU ..))
theorem rL{L I:Addr}{fp wr:List Addr}{n:Nat}{P:Nat->Value->Prop}{St:Nat->Heap->Prop}{res:Value}{c:Nat}{R:Result->Shared->Prop}{Qf:dS->Shared->Prop}(hq:∀c' s',c'.quiet=true/\fo (model prog w) A c' R s'->Qf (.again c') s')(W:Walks prog w A.in1 I fp wr n P St)(hn:n<=sizeLine)(hLf:L∉fp)(hL:s.heap.get? L=some (iI #[] c))(st:St 0 s.heap)
  (h:∀s' acc c',(∀b o,b∉L::wr->s.heap.get? b=some o->s'.heap.get? b=some o)->s'.gens=s.gens->s'.drawn=s.drawn->s'.os=s.os->s'.heap.get? L=some (iI acc c')->ItemsOf P acc n->R (.ok (.ret res)) s'):
  wpAny (model prog w) A.in1 (do
   rule "list.extend.makes-room"
   let __r<-jU (.ref L)
   (fun(__r:Unit)=>again (Code.builtin "list.extend.loop" {pos:=[bz L,bz I,res]})) __r) Qf E s:=by
 refine aa (fA (aa (touch hL (by simp) fun h1 c1 e1 sb=>?_)));have st1:=W.frame 0 s.heap h1 st fun b hb o e=>sb.extBut b o (fun z=>hLf (z▸hb)) e;refine ai (hq _ _ ⟨dc hV _,codeAny_extend_loopS W.toS hn _ hLf _ n 0 _ _ _ rfl (bf _) st1 e1 (ItemsOf.nil P) fun s' acc' c' hm hS' hacc=>?_⟩);exact h s' acc' c' (fun b o hb e=>hm.heap b o hb (sb.extBut b o (fun z=>hb (by rw[z];exact aG)) e)) hm.gens hm.drawn hm.os hS' hacc
end
theorem Av{vs:List Value}{acc:Array Value}(h:ItemsOf (fun i v=>vs[i]? =some v) acc vs.length):acc.toList=vs:=by
 obtain⟨h1,h2⟩:=h;apply cX
 ·simpa using h1
 ·intro i a b
  have :vs[i]? =some acc[i]:=h2 i acc[i] (by simp);rw[af b]at this;simpa using(aV this).symm
theorem es_map(es:Array (Int×Value)):((aq es.size).map fun p=>(es.getD p (0,.none)).2)=es.toList.map (·.2):=by
 apply cX
 ·simp
 ·intro i a b
  have hi:i<es.size:=by simpa using a
  simp[hi]
section
variable {prog:Program}{w:World}{A:Around}{E:Value->Shared->Prop}{s:Shared}
theorem yJ{S:Addr}{o:Obj}{es:Array (Int×Value)}{ep:Nat}{t:bM}{Q:List Value->Shared->Prop}(hh:A.handled=none)(ho:s.heap.get? S=some o)(hc:o.cls=.type "set")(hd:o.data=.set es ep t)(hf:t.fits es.size=true)(hsb:es.size<fN)(hT:jh t)(hled:w.params.followText "set-order"=false->t.led=true)
  (hQ:∀(vs:List Value) s',vs.Perm (es.toList.map (·.2))->(∀b o,s.heap.get? b=some o->s'.heap.get? b=some o)->s'.gens=s.gens->s'.os=s.os->s.heap.objs.size<s'.heap.objs.size->Q vs s'):wpAny (model prog w) A (collect (.ref S)) Q E s:=by
 have hSl:S<s.heap.objs.size:=aw ho;have hn:es.size<=sizeLine:=lZ hsb;unfold collect;refine aa (wpAny_runValue (cC F.entry_proto_collect ?_));rw[bS F.plain_proto_collect _];show wpAny _ A.in1 (newList []>>=fun l=>again (.builtin "list.__iadd__" ⟨[l,.ref S],[]⟩)) _ _ s;refine aa (b8 ?_);refine ai ⟨dc F.plain_list_iadd _,cC F.entry_list_iadd ?_⟩;rw[bS F.plain_list_iadd _];have hL:(s.heap.push (iI #[] 0)).get? s.heap.objs.size=some (iI #[] 0):=au _ rfl;have ho1:(s.heap.push (iI #[] 0)).get? S=some o:=ag _ ho;have hz:(s.heap.push (iI #[] 0)).objs.size=s.heap.objs.size+1:=bT ..;have hT1:Shared.TypeIs {s with heap:=s.heap.push (iI #[] 0)} (.ref S) "set":=⟨o,ho1,hc⟩;show wpAny _ A.in1 (dm (.ref s.heap.objs.size) (.ref S) (.ref s.heap.objs.size)) _ _ {s with heap:=s.heap.push (iI #[] 0)};unfold dm;refine aa (wY hT1 ?_);rw[if_neg (by simp[jg];exact cz hSl)];have fin:∀(vs:List Value)(s':Shared)(acc:Array Value)(c':Nat),vs.length=es.size->vs.Perm (es.toList.map (·.2))->(∀b o,s.heap.get? b=some o->s'.heap.get? b=some o)->s'.gens=s.gens->s'.os=s.os->s'.heap.get? s.heap.objs.size=some (iI acc c')->ItemsOf (fun i v=>vs[i]? =some v) acc es.size->
   wpAny (model prog w) A (load s.heap.objs.size>>=fun x=>match x.data with |.seq xs _=>pure xs.toList|_=>unsupported "internal:collect") Q E s':=fun vs s' acc c' hl hp k1 k2 k3 e it=>by
  refine aa (wpAny_load e ?_);rw[<-hl]at it;have :=Av it;exact ai (by rw[this];exact hQ vs s' hp k1 k2 k3 (aw e))
 refine aa (FZ ho1 hc hd hf hsb (fun hm=>?_) fun hm ps d hp=>?_)
 ·rw[hz]
  refine aa (bC (yu ⟨o,ag _ ho1,hc⟩ ?_));refine ite_yes (by decide+kernel) ?_;have hI:((s.heap.push (iI #[] 0)).push (siO S (.int 0 0) 0 es.size ep)).get? (s.heap.objs.size+1)=some (siO S (.int 0 0) 0 es.size ep):=by rw[<-hz];exact au _ rfl
  have hSA:jy ((s.heap.push (iI #[] 0)).push (siO S (.int 0 0) 0 es.size ep)) S es ep t:=⟨⟨o,ag _ ho1,hc,hd⟩,hf⟩;have nfp:s.heap.objs.size∉[s.heap.objs.size+1,S]:=by
   simp only[ay,bJ,or_false,not_or];exact⟨aB (bE _),cz hSl⟩
  have kp:∀(s':Shared),(∀b o,b∉s.heap.objs.size::[s.heap.objs.size+1]->((s.heap.push (iI #[] 0)).push (siO S (.int 0 0) 0 es.size ep)).get? b=some o->s'.heap.get? b=some o)->∀b o,s.heap.get? b=some o->s'.heap.get? b=some o:=fun s' k b o e=>by
   have hb:=aw e;refine k b o ?_ (ag _ (ag _ e));simp only[ay,bJ,or_false,not_or];exact⟨aB hb,aB (bx hb)⟩
  cases hw:w.params.followText "set-order" with
  |true=>
   have hl:((hJ (w.params.setOrder S ep) es).toList.map (·.2)).length=es.size:=by
    have :=(lO (w.params.setOrder S ep) es).length_eq
    simpa using this
   refine rL (s:={s with heap:=(s.heap.push (iI #[] 0)).push (siO S (.int 0 0) 0 es.size ep)}) (fun c' s' h=>h) (walkA (A:=A.in1) (by simp[hh]) hw (aB (bx hSl)) es ep t) hn nfp (ag _ hL) ⟨hSA,0,hI⟩ fun s' acc c' k1 k2 k3 k4 e it=>?_;exact fin _ s' acc c' hl ((lO (w.params.setOrder S ep) es).map _) (kp s' k1) k2 k4 e it
  |false=>
   have hdr:ix es t=false:=by rw[hw]at hm;simpa using hm
   refine rL (s:={s with heap:=(s.heap.push (iI #[] 0)).push (siO S (.int 0 0) 0 es.size ep)}) (fun c' s' h=>h) (walkB (A:=A.in1) (by simp[hh]) hw (aB (bx hSl)) es ep t hdr (hled hw) hT) hn nfp (ag _ hL) ⟨hSA,0,AH hT.up,hI⟩ fun s' acc c' k1 k2 k3 k4 e it=>?_;exact fin _ s' acc c' (by simp) (eW _) (kp s' k1) k2 k4 e it
 ·rw[hz]
  have hz2:((s.heap.push (iI #[] 0)).push {cls:=.type "tuple",data:=.seq (ps.map fun(i:Nat)=>rawInt i).toArray}).objs.size=s.heap.objs.size+1+1:=by rw[bT,hz]
  have hT2:((s.heap.push (iI #[] 0)).push {cls:=.type "tuple",data:=.seq (ps.map fun(i:Nat)=>rawInt i).toArray}).get? (s.heap.objs.size+1)=some {cls:=.type "tuple",data:=.seq (ps.map fun(i:Nat)=>rawInt i).toArray}:=by rw[<-hz];exact au _ rfl
  have ho2:((s.heap.push (iI #[] 0)).push {cls:=.type "tuple",data:=.seq (ps.map fun(i:Nat)=>rawInt i).toArray}).get? S=some o:=ag _ ho1;have hL2:((s.heap.push (iI #[] 0)).push {cls:=.type "tuple",data:=.seq (ps.map fun(i:Nat)=>rawInt i).toArray}).get? s.heap.objs.size=some (iI #[] 0):=ag _ hL;have kp2:∀b o,s.heap.get? b=some o->((s.heap.push (iI #[] 0)).push {cls:=.type "tuple",data:=.seq (ps.map fun(i:Nat)=>rawInt i).toArray}).get? b=some o:=fun b o e=>ag _ (ag _ e);generalize(s.heap.push (iI #[] 0)).push {cls:=.type "tuple",data:=.seq (ps.map fun(i:Nat)=>rawInt i).toArray}=h2 at *;refine aa (bC (yu ⟨o,ag _ ho2,hc⟩ ?_));refine ite_yes (by decide+kernel) ?_;have hI:(h2.push (siO S (.ref (s.heap.objs.size+1)) 0 es.size ep)).get? (s.heap.objs.size+1+1)=some (siO S (.ref (s.heap.objs.size+1)) 0 es.size ep):=by rw[<-hz2];exact au _ rfl
  have nfp:s.heap.objs.size∉[s.heap.objs.size+1+1,S,s.heap.objs.size+1]:=by
   simp only[ay,bJ,or_false,not_or];exact⟨aB (bx (bE _)),cz hSl,aB (bE _)⟩
  have hl:(ps.map fun p=>(es.getD p (0,.none)).2).length=es.size:=by rw[ao,hp.length_eq,bI]
  refine rL (s:={s with drawn:=d,heap:=h2.push (siO S (.ref (s.heap.objs.size+1)) 0 es.size ep)}) (fun c' s' h=>h) (walkC (A:=A.in1) (by simp[hh]) (aB (bx (bx hSl))) (aB (bE _)) es ep t ps hp) hn nfp (ag _ hL2)
   ⟨⟨⟨o,ag _ ho2,hc,hd⟩,hf⟩,ag _ hT2,hI⟩ fun s' acc c' k1 k2 k3 k4 e it=>?_
  refine fin _ s' acc c' hl ((hp.map _).trans (by rw[es_map])) (fun b o q=>?_) k2 k4 e it;have hb:=aw q;refine k1 b o ?_ (ag _ (kp2 b o q));simp only[ay,bJ,or_false,not_or];exact⟨aB hb,aB (bx (bx hb))⟩
end
theorem C8{vs xs:List Value}(p:vs.Perm xs):∀{ks:List Int},cb xs ks->∃ms:List Int,ms.Perm ks/\cb vs ms:=by
 induction p with
 |nil=>intro ks h;exact⟨ks,eW _,h⟩
 |cons x p ih=>
  intro ks h;cases h with
  |cons k t h=>
   obtain⟨ms,a,b⟩:=ih h;exact⟨k::ms,a.cons k,.cons k t b⟩
 |swap x y l=>
  intro ks h;cases h with
  |cons k t h=>cases h with
   |cons k' t' h=>exact⟨k'::k::_,Hk _ _ _,.cons k' t' (.cons k t h)⟩
 |trans p q ih1 ih2=>
  intro ks h;obtain⟨ms,a,b⟩:=ih2 h;obtain⟨ms',a',b'⟩:=ih1 b;exact⟨ms',a'.trans a,b'⟩
section
variable {prog:Program}{w:World}{A:Around}{E:Value->Shared->Prop}{s:Shared}
theorem zR{S:Addr}{o:Obj}{es:Array (Int×Value)}{ep:Nat}{t:bM}{ks:List Int}{Q:Value->Shared->Prop}(hh:A.handled=none)(ho:s.heap.get? S=some o)(hc:o.cls=.type "set")(hd:o.data=.set es ep t)(hf:t.fits es.size=true)(h64:es.size<64)(hT:jh t)(hled:w.params.followText "set-order"=false->t.led=true)
  (hk:cb (es.toList.map (·.2)) ks)(nd:ks.Nodup)
  (h:∀(ms:List Int)(vs:List Value)(s':Shared)(l:Addr)(c:Nat),ms.Perm ks->cb vs ms->(∀b o,s.heap.get? b=some o->s'.heap.get? b=some o)->s'.gens=s.gens->s'.os=s.os->s.heap.objs.size<=l->s'.heap.get? l=some (seqObj "list" (gu (ltI ms) vs).toArray c)->Q (.ref l) s'):
  wpAny (model prog w) A (call (.builtin "sorted") [.ref S]) Q E s:=by
 refine j9 kind_sorted plain_sorted entry_sorted (args_sorted1 _) ?_;unfold Builtin.«sorted»;refine aa (m:=checkCount "sorted" 1 1 _) (ai (aa (yJ (by simp[hh]) ho hc hd hf (fP h64 (by decide)) hT hled fun vs s' hp kp k2 k3 k4=>aa (me ?_ ?_))))
 ·obtain⟨ms,m1,m2⟩:=C8 hp hk
  have hl:vs.length=ms.length:=m2.length;have hv:vs.length<64:=by
   have :=hp.length_eq
   simp at this;omega
  have hg:(s'.heap.push (seqObj "list" vs.toArray 0)).get? s'.heap.objs.size=some (seqObj "list" vs.toArray 0):=au _ rfl;have ndm:ms.Nodup:=m1.nodup_iff.mpr nd;show wpAny _ _ _ _ _ {s' with heap:=s'.heap.push (seqObj "list" vs.toArray 0)};refine aa (bC (cm DG ⟨_,hg,rfl⟩ AN (AV (lt:=ltI ms) (h0:=s'.heap) (by rw[hl];exact totI ndm) hg (fun b o e=>⟨ag _ e,aB (aw e)⟩) hv (fun h2=>DA m2 h2) ⟨_,rfl,?_⟩) (args_list_sort _)));refine ai ⟨_,rfl,?_⟩;obtain⟨c,hc'⟩:=sortedHeap_at (out:=(gu (ltI ms) vs).toArray) hg;refine h ms vs _ _ c m1 m2 (fun b o e=>?_) k2 k3 (jN k4) hc';have e':=kp b o e;have hb:=aw e';show(sortedHeap (s'.heap.push (seqObj "list" vs.toArray 0)) s'.heap.objs.size vs (gu (ltI ms) vs).toArray).get? b=some o;rw[sortedHeap_old (aB hb) (by rw[DI];exact bx hb)];exact ag _ e'
 ·have :=hp.length_eq
  simp at this;exact aI (by omega:vs.length<=64) (by decide)
end
theorem FH(ks:List Key):(met ks).Nodup:=by
 unfold met;have g:∀(l acc:List Key),acc.Nodup->(l.foldl more acc).Nodup:=by
  intro l
  induction l with
  |nil=>exact fun _ h=>h
  |cons k l ih=>
   intro acc h;refine ih _ ?_;unfold more;split
   ·exact h
   ·rename_i c
    refine eQ.mpr ⟨h,by simp,fun a ha b hb=>?_⟩;rw[aL]at hb;subst hb;intro z;subst z;exact c (gI.mpr ha)
 exact g ks [] iA
theorem um{α:Type}[DecidableEq α]:∀{m l:List α},m.Nodup->(∀x∈m,x∈l)->l.length=m.length->l.Perm m
 | [],l,_,_,h=>by
  rw[mi]at h;rw[List.eq_nil_of_length_eq_zero h]
 |a::m,l,nd,hs,h=>by
  have ha:a∈l:=hs a aG;have p:=DW ha;rw[cA]at nd;have hl:=p.length_eq;rw[ba]at hl h;have q:=um (m:=m) (l:=l.erase a) nd.2 (fun x hx=>(DX (fun z:x=a=>nd.1 (by rw[<-z];exact hx))).mpr (hs x (aM _ hx))) (by omega);exact p.trans (q.cons a)
section
variable {prog:Program}{w:World}
theorem Bv{k:Int}{v:Value}(h:(cy prog w).is (.inl k) v=true):∃t,v=.int k t:=by
 rw[An]at h;exact Value.isInt_shape (k:=k) (v:=v) h
theorem qz{l:List (Int×Value)}(h:ElemsOf (cy prog w) l)(hi:∀e∈l,∀k,(cy prog w).is k e.2=true->∃n:Int,k=.inl n):∃ms:List Int,cb (l.map (·.2)) ms:=by
 induction l with
 |nil=>exact⟨[],.nil⟩
 |cons e l ih=>
  obtain⟨ms,r⟩:=ih h.tail fun e' he'=>hi e' (aM _ he');obtain⟨⟨k,hk,_⟩,_⟩:=h.head;obtain⟨n,rfl⟩:=hi e aG k hk;obtain⟨t,e2⟩:=Bv hk;refine⟨n::ms,?_⟩;rw[bK,e2];exact .cons n t r
theorem F1:∀{vs:List Value}{ms:List Int},cb vs ms->∀n,n∈ms↔∃v∈vs,(cy prog w).is (.inl n) v=true:=by
 intro vs ms r
 induction r with
 |nil=>simp
 |cons k t r ih=>
  intro n;rw[ay,ih n];constructor
  ·rintro(rfl|⟨v,hv,e⟩)
   ·exact⟨_,aG,ly _ _ _ _⟩
   ·exact⟨v,aM _ hv,e⟩
  ·rintro⟨v,hv,e⟩
   rcases ay.mp hv with rfl|hv
   ·obtain⟨t',e'⟩:=Bv e
    cases e';exact .inl rfl
   ·exact .inr ⟨v,hv,e⟩
theorem Ci{h:Heap}{a:Addr}{ns:List Int}{led:Bool}(x:oE (cy prog w) h a (has (met (ns.map .inl))) (met (ns.map .inl)).length led):
  ∃o es ep t ms,h.get? a=some o/\o.cls=.type "set"/\o.data=.set es ep t/\t.fits es.size=true/\es.size<=ns.length/\jh t/\t.led=led/\cb (es.toList.map (·.2)) ms/\ms.Nodup/\∀n,n∈ms↔n∈ns:=by
 obtain⟨o,es,ep,t,ho,hx,hd,hl,hm,hb,hf,hn,hT,hL⟩:=x;have hle:=FI (ns.map (eV:Int->Key));rw[ao]at hle;have inl:∀e∈es.toList,∀k,(cy prog w).is k e.2=true->∃n:Int,n∈ns/\k=.inl n:=fun e he k hk=>by
  have :=kj.mp (gI.mp ((hm k).mpr ⟨e,he,hk⟩))
  obtain⟨n,hn,rfl⟩:=aO.mp this;exact⟨n,hn,rfl⟩
 obtain⟨ms,r⟩:=qz hl fun e he k hk=>let⟨n,_,e⟩:=inl e he k hk;⟨n,e⟩;have mem:∀n,n∈ms↔n∈ns:=fun n=>by
  rw[F1 (prog:=prog) (w:=w) r n];constructor
  ·rintro⟨v,hv,e⟩
   obtain⟨e',he',rfl⟩:=aO.mp hv;obtain⟨n',hn',z⟩:=inl e' he' _ e;cases z;exact hn'
  ·intro h
   obtain⟨e,he,hk⟩:=(hm (.inl n)).mp (gI.mpr (kj.mpr (eB h)));exact⟨e.2,eB he,hk⟩
 have len:ms.length=es.size:=by
  have :=r.length
  simp at this;omega
 have p:(ms.map (eV:Int->Key)).Perm (met (ns.map .inl)):=um (FH _) (fun x hx=>by
  obtain⟨n,hn,rfl⟩:=aO.mp (kj.mp hx);exact eB ((mem n).mpr hn)) (by rw[ao];omega)
 have nd:(ms.map (eV:Int->Key)).Nodup:=p.nodup_iff.mpr (FH _);exact⟨o,es,ep,t,ms,ho,hx.1,hd,hf,by omega,hT,hL,r,(gf.mp nd).imp fun h z=>h (congrArg _ z),mem⟩
end
end Q
namespace L2
open PySem PySem.Spec PyProof.Rows Q
section
variable {X:Cx}
theorem Inv.same{pins:List (Addr×Obj)}{σ:List (Option V)}{H:Hp}{s s':Shared}(I:Inv X pins σ H s)(h1:s'.heap=s.heap)(h2:s'.gens=s.gens)(h3:s'.os=s.os):Inv X pins σ H s':=by
 obtain⟨h,g,d,t,o⟩:=s;obtain⟨h',g',d',t',o'⟩:=s';obtain rfl:h'=h:=h1;obtain rfl:g'=g:=h2;obtain rfl:o'=o:=h3;exact⟨I.ok,I.os,I.bare,I.base,I.loc,I.cell,I.free,I.freeC,I.pin,I.hok,I.len⟩
noncomputable def xA(K:ae)(ta:TA):TE:=fun σ H Q=>ta σ H fun vs H1=>∃(p:Addr)(ns:List Int),vs=[V.ref p]/\SqL K H1 p (ns.map V.int)/\ns.length<64/\
 ∀(ms:List Int) l,ms.Nodup->(∀x,x∈ms↔x∈ns)->H1 l=none->Q (.ref l) (upd H1 l (.lst (sortI ms)))
theorem wM:eK "sorted"=some (.builtin "sorted"):=by decide+kernel
theorem Dx:eK "set"=some (.type "set"):=by decide+kernel
theorem Aa{a:Expr}{ta:TA}{p p' pos pos':Pos}(hc:X.calm=true)(hg:Gl X "sorted")(hm:X.mg "sorted"=none)(hg':Gl X "set")(hm':X.mg "set"=none)(ha:PA X [a] ta)(hs:bc [a] X.env=[(false,eval a X.env)]:=by rfl):
  PE X (.Call (.Name "sorted" p) [.Call (.Name "set" p') [a] [] pos'] [] pos) (xA X.K ta):=by
 intro pins s σ H Q I h;refine Call_ (iu I hg hm wM (nz (jO ?_) rfl rfl));refine Call_ (iu I hg' hm' Dx (bV (thn (ha pos' pins s σ H _ I h) fun us s1 ⟨vs,H1,I1,r1,q1⟩=>?_) hs rfl));obtain⟨pl,ns,e,hq,h64,q⟩:=q1;subst e;obtain⟨u,rfl,rx⟩:=vals1 r1;cases rx;obtain⟨its,r',plist,_⟩:=I1.list hq;have hlen:=r'.length;rw[ao]at hlen;have r2:bL ((ns.map (eV:Int->Key)).map kV) its:=by
  rw[b9];exact r'
 refine ui (ks:=ns.map .inl) (I1.ok.hd hc) plist.isList (by rw[av,ao];exact hlen) (fun i v e=>wu r2 i v (by simpa using e)) (by rw[av,<-hlen];unfold fN;omega) fun h' tk hS kp=>?_;obtain⟨o,es,ep,t,ms,ho,hx,hd,hf,hsz,hT,hL,r,nd,mem⟩:=Ci hS;refine ai ?_;refine zR (s:={s1 with heap:=h',toks:=tk}) (I1.ok.hd hc) ho hx hd hf (by omega) hT (fun z=>by rw[hL,z];rfl) r nd fun ms' vs s' l c hp hv kp' k2 k3 k4 k5=>?_;have nd':ms'.Nodup:=hp.nodup_iff.mpr nd;have hlm:ms'.length=es.size:=by
  have a1:=hp.length_eq;have a2:=r.length;simp at a2;omega
 have kk:∀b o,s1.heap.get? b=some o->s'.heap.get? b=some o:=fun b o e=>kp' b o (kp b o (aw e) e);have hlt:s1.heap.objs.size<h'.objs.size:=aw ho;have hle:s1.heap.objs.size<=l:=aI (jN hlt) k4;have hz2:(sortI ms').length<=sizeLine:=by
  unfold sortI;rw[ao,Fs nd'];exact fJ (by omega)
 exact⟨.ref l,_,(I1.laid (h':=s'.heap) (t':=s1.toks) kk hle (show dR X.prog X.w _ _ _ (.lst (sortI ms'))from⟨hz2,_,c,outI nd' (oQ hv),k5⟩)).same rfl k2 k3,rfl,q _ _ nd' (fun x=>(hp.mem_iff).trans (mem x)) (I1.hok.fresh hle)⟩
end
end L2
set_option genInjectivity false
set_option genSizeOf false
namespace R
open PySem PySem.Spec PyProof.Rows L2
inductive Bf where
 |len|isinstance|all|any|list|tuple|set|min|int|lend|sortl|minl|maxl|sortt
 deriving DecidableEq
noncomputable def Bf.name:Bf->Str
 |.len=>"len" |.isinstance=>"isinstance" |.all=>"all" |.any=>"any" |.list=>"list" |.tuple=>"tuple" |.set=>"set" |.min=>"min" |.int=>"int" |.lend=>"len" |.sortl=>"sorted" |.minl=>"min" |.maxl=>"max" |.sortt=>"sorted"
noncomputable def Bf.val:Bf->Value
 |.len=>.builtin "len" |.isinstance=>.builtin "isinstance" |.all=>.builtin "all" |.any=>.builtin "any" |.list=>.type "list" |.tuple=>.type "tuple" |.set=>.type "set" |.min=>.builtin "min" |.int=>.type "int" |.lend=>.builtin "len" |.sortl=>.builtin "sorted" |.minl=>.builtin "min" |.maxl=>.builtin "max" |.sortt=>.builtin "sorted"
theorem Bf.boot:∀b:Bf,eK b.name=some b.val
 |.len=>PySem.boot_len|.isinstance=>boot_isinstance|.all=>boot_all|.any=>boot_any|.list=>gR|.tuple=>sQ
 |.set=>by decide+kernel|.min=>by decide+kernel|.int=>tR|.lend=>PySem.boot_len|.sortl=>by decide+kernel|.minl=>by decide+kernel|.maxl=>by decide+kernel|.sortt=>by decide+kernel
theorem Bf.plain:∀b:Bf,b.name≠"__name__"/\(b.name==("__debug__":Str))=false:=by
 intro b;cases b<;>exact⟨by decide+kernel,by decide+kernel⟩
inductive Ty where
 |int|bool|str|list|tuple|dict|valueError
 deriving DecidableEq
noncomputable def Ty.name:Ty->Str
 |.int=>"int" |.bool=>"bool" |.str=>"str" |.list=>"list" |.tuple=>"tuple" |.dict=>"dict" |.valueError=>"ValueError"
noncomputable def Ty.t:Ty->String
 |.int=>"int" |.bool=>"bool" |.str=>"str" |.list=>"list" |.tuple=>"tuple" |.dict=>"dict" |.valueError=>"ValueError"
theorem Ty.boot:∀b:Ty,eK b.name=some (.type b.t)
 |.int=>tR|.bool=>PyProof.Rows.boot_bool|.str=>PyProof.Rows.boot_str|.list=>gR|.tuple=>sQ|.dict=>PyProof.Rows.boot_dict|.valueError=>by decide+kernel
theorem Ty.plain:∀b:Ty,b.name≠"__name__"/\(b.name==("__debug__":Str))=false:=by
 intro b;cases b<;>exact⟨by decide+kernel,by decide+kernel⟩
noncomputable def i8(K:ae):Operator->R2
 |.Add=>fun x y H Q=>(rI0 fun i j=>.int (i+j)) x y H Q\/(∃i j,x=.str i/\y=.str j/\i.length+j.length<=sizeLine/\Q (.str (i++j)) H)\/rCat x y H Q\/A8 K x y H Q\/A9 K x y H Q
 |.Sub=>rI0 fun i j=>.int (i-j)
 |.Mult=>fun x y H Q=>(rI wX fun i j=>.int (i*j)) x y H Q\/rRep x y H Q\/EX x y H Q
 |.Mod=>rI (fun _ j=>0<j) fun i j=>.int (i%j)
 |.FloorDiv=>rI CDiv fun i j=>.int (i/j)
 |.Pow=>rI G4 fun i j=>.int (i^j.toNat)
 |.RShift=>rI (fun _ j=>0<=j) fun i j=>.int (i/2^j.toNat)
 |.LShift=>rI G4 fun i j=>.int (i*2^j.toNat)
 |.BitAnd=>rI0 fun i j=>.int (ip i j)
 |.BitXor=>rI0 fun i j=>.int (jo i j)
 |_=>fun _ _ _ _=>False
noncomputable def gv(K:ae):CmpOp->R2
 |.Eq=>rEqD K
 |.NotEq=>rNeD K
 |.Lt=>rI0 fun i j=>.bl (decide (i<j))
 |.LtE=>rI0 fun i j=>.bl (decide (i<=j))
 |.Gt=>rI0 fun i j=>.bl (decide (j<i))
 |.GtE=>rI0 fun i j=>.bl (decide (j<=i))
 |.Is=>fun x y H Q=>y=.non/\Q (.bl (decide (x=.non))) H
 |.IsNot=>fun x y H Q=>y=.non/\Q (.bl (!decide (x=.non))) H
 |.In=>fun x y H Q=>((∃i j,x=.str i/\y=.str j/\Q (.bl (!(gK j i 0 j.length 1).isEmpty)) H))\/rIn K false x y H Q
 |.NotIn=>fun x y H Q=>((∃i j,x=.str i/\y=.str j/\Q (.bl (!(!(gK j i 0 j.length 1).isEmpty))) H))\/rIn K true x y H Q
noncomputable def rUn(K:ae):BX->V->Hp->VK->Prop
 |.USub=>rU fun i=>.int (-i)
 |_=>fun _ _ _=>False
noncomputable def rSlc(K:ae):V->Option Int->Option Int->Hp->VK->Prop:=fun x lo hi H Q=>rSlL K x lo hi H Q\/rSlS x lo hi H Q
noncomputable def rBf(K:ae):Bf->List V->Hp->VK->Prop
 |.len=>fun xs H Q=>(∃p ys,xs=[.ref p]/\(SqL K H p ys\/SqT K H p ys)/\Q (.int ys.length) H)\/(∃z:Str,xs=[.str z]/\z.length<=sizeLine/\Q (.int z.length) H)\/(∃a n,xs=[V.ref a]/\H a=some (_root_.Q.zU a n)/\Q (.int n) H)
 |.isinstance=>fun xs H Q=>(∃x T t b,xs=[x,.ty T]/\kW K H x t/\ic K t (.type T)=some b/\Q (.bl b) H)\/(∃x C t b,xs=[x,.ref C]/\kW K H x t/\ic K t (.ref C)=some b/\Q (.bl b) H)
 |.all=>fun xs H Q=>∃(p:Addr)(bs:List Bool),xs=[.ref p]/\SqL K H p (bs.map V.bl)/\Q (.bl (bs.all id)) H
 |.any=>fun xs H Q=>∃(p:Addr)(bs:List Bool),xs=[.ref p]/\SqL K H p (bs.map V.bl)/\Q (.bl (bs.any id)) H
 |.list=>fun xs H Q=>∃p ys,xs=[.ref p]/\(SqL K H p ys\/SqT K H p ys)/\∀l,H l=none->Q (.ref l) (upd H l (.lst ys))
 |.tuple=>fun xs H Q=>∃p ys,xs=[.ref p]/\((SqL K H p ys/\∀l,H l=none->Q (.ref l) (upd H l (.tup ys)))\/(SqT K H p ys/\Q (.ref p) H))
 |.set=>Q.rSet K
 |.min=>fun xs H Q=>∃i j,xs=[.int i,.int j]/\Q (.int (if j<i then j else i)) H
 |.int=>fun xs H Q=>(∃i,xs=[.int i]/\Q (.int i) H)\/∃k,xs=[.bl k]/\Q (.int (if k then 1 else 0)) H
 |.lend=>fun xs H Q=>∃a kvs,xs=[V.ref a]/\H a=some (.dT kvs)/\Q (.int kvs.length) H
 |.sortl=>Q.EW K
 |.sortt=>Q.EV K
 |.minl=>Q.rMinL K
 |.maxl=>Q.rMaxL K
inductive Mm where
 |append|clear|reverse|pop|index
 deriving DecidableEq
noncomputable def Mm.name:Mm->Str
 |.append=>"append" |.clear=>"clear" |.reverse=>"reverse" |.pop=>"pop" |.index=>"index"
noncomputable def Mm.id:Mm->String
 |.append=>"list.append" |.clear=>"list.clear" |.reverse=>"list.reverse" |.pop=>"list.pop" |.index=>"list.index"
noncomputable def rMm:Mm->V->List V->Hp->VK->Prop
 |.append=>Ba
 |.clear=>fun _ _ _ _=>False
 |.reverse=>fun _ _ _ _=>False
 |.pop=>fun _ _ _ _=>False
 |.index=>fun _ _ _ _=>False
noncomputable def baseOk:Expr->Bool
 |.Name .. =>true|.Subscript .. =>true
 |_=>false
mutual
inductive CE where
 |var (i:Nat)
 |con (c:Const)
 |glo (x:Str)
 |ty (t:Ty)
 |bin (op:Operator) (a b:CE)
 |un (op:BX) (a:CE)
 |cmp (op:CmpOp) (a b:CE)
 |chain (op op':CmpOp) (a b c:CE)
 |not (a:CE)
 |and (a b:CE)
 |or (a b:CE)
 |ite (c a b:CE)
 |idx (a i:CE)
 |cut (a:CE) (lo hi:CO)
 |tup (es:CL)
 |lst (es:CL)
 |call (f:Str) (es:CL)
 |bfn (b:Bf) (es:CL)
 |meth1 (m:Mm) (o a:CE)
 |idxd (a i:CE)
 |dicT
 |setd (o a b:CE)
 |ins (o a b:CE)
 |divb (a b:CE)
 |rev (a:CE)
 |lrng (a:CE)
 |sortset (a:CE)
 |lzip (a b:CE)
 |mak (x:Str)
 |mth (o:CE) (m:Str) (es:CL)
 |fldI (a:CE) (f:Str)
 |comp (own:List Str) (fr:List Nat) (tg:CG) (it:CI) (cond:CO) (elt:CE)
inductive CL where
 |nil
 |cons (e:CE) (es:CL)
inductive CP where
 |nil
 |cons (k v:CE) (r:CP)
inductive CO where
 |no
 |yes (e:CE)
inductive CG where
 |name (i:Nat)
 |tup (gs:CGs)
 |sub (o i:CE)
inductive CGs where
 |nil
 |cons (g:CG) (gs:CGs)
inductive CI where
 |seq (e:CE)
 |lseq (e:CE)
 |tseq (e:CE)
 |range1 (e:CE)
 |range2 (a b:CE)
 |enumt (e:CE)
end
noncomputable def CL.len:CL->Nat
 |.nil=>0
 |.cons _ r=>r.len+1
noncomputable def CGs.len:CGs->Nat
 |.nil=>0
 |.cons _ r=>r.len+1
mutual
inductive CS where
 |asg (g:CG) (e:CE)
 |asgc (i:Nat) (e:CE)
 |expr (e:CE)
 |iff (c:CE) (a b:CB)
 |forr (g:CG) (it:CI) (b:CB)
 |ret (e:CE)
 |retN
 |pass|brk|cont
 |rais (x:Str) (es:CL)
 |fldI (o:CE) (f:Str) (e:CE)
inductive CB where
 |nil
 |hole
 |cons (s:CS) (r:CB)
end
noncomputable def F0(sc:Scope)(x:Str):Bool:=sc.names.lookup x==some .local||sc.names.lookup x==some .cell||sc.names.lookup x==some .free
noncomputable def km(sc:Scope)(x:Str):Bool:=sc.names.lookup x==some .globalImplicit
noncomputable def rq(x:Str):Bool:=(x==("__debug__":Str))==false&&(x==("__classdict__":Str))==false
noncomputable def okCon:Const->Bool
 |.none=>true|.bool _=>true|.int _=>true|.str _=>true|_=>false
noncomputable def cv:Const->V
 |.none=>.non|.bool b=>.bl b|.int i=>.int i|.str x=>.str x|_=>.non
noncomputable def namesOf(N own:List Str)(fr:List Nat):List Str:=own++fr.map fun j=>N.getD j ""
noncomputable def lM(own:List Str)(fr:List Nat)(σ:L2.St):L2.St:=own.map (fun _=>none)++fr.map fun j=>(σ[j]?).getD none
noncomputable def lS:Expr->Bool
 |.Slice .. =>true
 |_=>false
noncomputable def isSet:Expr->Bool
 |.Set .. =>true
 |_=>false
noncomputable def pd:Expr->Bool
 |.ListComp .. =>true|.SetComp .. =>true|.DictComp .. =>true
 |_=>false
noncomputable def mW:Expr->Bool
 |.Tuple .. =>true
 |_=>false
noncomputable def wb(sc sc':Scope)(N own:List Str)(fr:List Nat):Bool:=
 decide (sc'.kind=.function)&&sc'.names.all (fun y=>decide (y.2=.cell->sc'.names.lookup y.1=some .cell))&&sc'.names.all (fun y=>decide (y.2=.local->sc'.names.lookup y.1=some .local))&&
 sc'.names.all (fun y=>decide (y.2=.free->sc.names.lookup y.1=some .cell\/sc.names.lookup y.1=some .free))&&decide ((namesOf N own fr).Nodup)&&
 fr.all (fun j=>decide (j<N.length)&&sc'.names.lookup (N.getD j "")==some .free)&&own.all (fun x=>sc'.names.lookup x==some .local||sc'.names.lookup x==some .cell)
noncomputable def isStr(x:Str):Expr->Bool
 |.Constant (.str y) _ _=>decide (y=x)
 |_=>false
mutual
noncomputable def aZ(sc:Scope)(N:List Str):CE->Expr->Bool
 |.var i,e=>match e with
  |.Name x _=>N[i]? ==some x&&F0 sc x&&rq x
  |_=>false
 |.con c,e=>match e with
  |.Constant c' _ _=>okCon c&&decide (c=c')
  |_=>false
 |.glo x,e=>match e with
  |.Name y _=>decide (x=y)&&km sc x&&rq x
  |_=>false
 |.ty t,e=>match e with
  |.Name y _=>decide (t.name=y)&&km sc y
  |_=>false
 |.bin op a b,e=>match e with
  |.BinOp a' op' b' _=>decide (op=op')&&aZ sc N a a'&&aZ sc N b b'
  |_=>false
 |.un op a,e=>match e with
  |.UnaryOp op' a' _=>decide (op=op')&&aZ sc N a a'
  |_=>false
 |.cmp op a b,e=>match e with
  |.Compare a' [op'] [b'] _=>decide (op=op')&& !isSet b'&&aZ sc N a a'&&aZ sc N b b'
  |_=>false
 |.chain o1 o2 a b c,e=>match e with
  |.Compare a' [o1',o2'] [b',c'] _=>decide (o1=o1')&&decide (o2=o2')&& !isSet c'&&aZ sc N a a'&&aZ sc N b b'&&aZ sc N c c'
  |_=>false
 |.not a,e=>match e with
  |.UnaryOp .Not a' _=>aZ sc N a a'
  |_=>false
 |.and a b,e=>match e with
  |.BoolOp .And [a',b'] _=>aZ sc N a a'&&aZ sc N b b'
  |.BoolOp .And (a'::b'::c'::r') p=>aZ sc N a a'&&aZ sc N b (.BoolOp .And (b'::c'::r') p)
  |_=>false
 |.or a b,e=>match e with
  |.BoolOp .Or [a',b'] _=>aZ sc N a a'&&aZ sc N b b'
  |.BoolOp .Or (a'::b'::c'::r') p=>aZ sc N a a'&&aZ sc N b (.BoolOp .Or (b'::c'::r') p)
  |_=>false
 |.ite c a b,e=>match e with
  |.IfExp c' a' b' _=>aZ sc N c c'&&aZ sc N a a'&&aZ sc N b b'
  |_=>false
 |.idx a i,e=>match e with
  |.Subscript a' i' _=> !lS i'&&aZ sc N a a'&&aZ sc N i i'
  |_=>false
 |.cut a lo hi,e=>match e with
  |.Subscript a' (.Slice lo' hi' none _) _=>aZ sc N a a'&&GI sc N lo lo'&&GI sc N hi hi'
  |_=>false
 |.tup es,e=>match e with
  |.Tuple es' _ _=>ku sc N es es'
  |_=>false
 |.lst es,e=>match e with
  |.List es' _=>ku sc N es es'
  |_=>false
 |.call f es,e=>match e with
  |.Call (.Name f' _) es' [] _=>decide (f=f')&&km sc f&&rq f&&ku sc N es es'
  |_=>false
 |.bfn b es,e=>match e with
  |.Call (.Name f' _) (e1::es') [] _=>decide (b.name=f')&&km sc f'&&ku sc N es (e1::es')
  |_=>false
 |.meth1 m o a,e=>match e with
  |.Call (.Attribute o' nm ap) [a'] [] cp=>decide (m.name=nm)&&(ap.endLine==cp.line)&&baseOk o'&&aZ sc N o o'&&aZ sc N a a'
  |_=>false
 |.idxd a i,e=>match e with
  |.Subscript a' i' _=> !lS i'&&aZ sc N a a'&&aZ sc N i i'
  |_=>false
 |.dicT,e=>match e with
  |.Dict [] [] _=>true
  |_=>false
 |.setd o a b,e=>match e with
  |.Call (.Attribute o' nm ap) [a',b'] [] cp=>decide (nm=bj "setdefault")&&(ap.endLine==cp.line)&&baseOk o'&&aZ sc N o o'&&aZ sc N a a'&&aZ sc N b b'
  |_=>false
 |.ins o a b,e=>match e with
  |.Call (.Attribute o' nm ap) [a',b'] [] cp=>decide (nm=bj "insert")&&(ap.endLine==cp.line)&&baseOk o'&&aZ sc N o o'&&aZ sc N a a'&&aZ sc N b b'
  |_=>false
 |.divb a b,e=>match e with
  |.BinOp a' .FloorDiv b' _=>aZ sc N a a'&&aZ sc N b b'
  |_=>false
 |.rev a,e=>match e with
  |.Subscript a' (.Slice none none (some (.UnaryOp .USub (.Constant (.int 1) _ _) _)) _) _=>aZ sc N a a'
  |_=>false
 |.mak x,e=>match e with
  |.Call (.Name x' _) [] [] _=>decide (x=x')&&km sc x&&rq x
  |_=>false
 |.mth a m es,e=>match e with
  |.Call (.Attribute (.Name n np) m' ap) es' [] cp=>decide (m=m')&&(ap.endLine==cp.line)&&decide (es.len<29)&&aZ sc N a (.Name n np)&&ku sc N es es'
  |.Call (.Attribute (.Call (.Name n np) (a1::as) [] p2) m' ap) es' [] cp=>decide (m=m')&&(ap.endLine==cp.line)&&decide (es.len<29)&&aZ sc N a (.Call (.Name n np) (a1::as) [] p2)&&ku sc N es es'
  |_=>false
 |.fldI a f,e=>match e with
  |.Attribute (.Name n np) f' _=>decide (f=f')&&aZ sc N a (.Name n np)
  |_=>false
 |.lzip a b,e=>match e with
  |.Call (.Name f _) [.Call (.Name g _) [a',b'] [] _] [] _=>decide (f="list")&&decide (g="zip")&&km sc f&&km sc g&&aZ sc N a a'&&aZ sc N b b'
  |_=>false
 |.sortset a,e=>match e with
  |.Call (.Name f _) [.Call (.Name g _) [a'] [] _] [] _=>decide (f="sorted")&&decide (g="set")&&km sc f&&km sc g&&aZ sc N a a'
  |_=>false
 |.lrng a,e=>match e with
  |.Call (.Name f _) [.Call (.Name g _) [a'] [] _] [] _=>decide (f="list")&&decide (g="range")&&km sc f&&km sc g&&aZ sc N a a'
  |_=>false
 |.comp own fr tg it cond elt,e=>match e with
  |.ListComp elt' [⟨tg',it',ifs',0⟩] sc' _=>wb sc sc' N own fr&& !isSet it'&&wD sc N it it' tg'&&
   ma sc' (namesOf N own fr) false tg tg'&&chkC sc' (namesOf N own fr) cond ifs'&&aZ sc' (namesOf N own fr) elt elt'
  |_=>false
noncomputable def ku(sc:Scope)(N:List Str):CL->List Expr->Bool
 |.nil,es=>match es with
  | []=>true
  |_=>false
 |.cons e r,es=>match es with
  |e'::r'=>aZ sc N e e'&&ku sc N r r'
  |_=>false
noncomputable def GH(sc:Scope)(N:List Str):CP->List (Option Expr)->List Expr->Bool
 |.nil,ks,vs=>match ks,vs with
  | [],[]=>true
  |_,_=>false
 |.cons k v r,ks,vs=>match ks,vs with
  |some k'::ks',v'::vs'=>aZ sc N k k'&&aZ sc N v v'&&GH sc N r ks' vs'
  |_,_=>false
noncomputable def GI(sc:Scope)(N:List Str):CO->Option Expr->Bool
 |.no,o=>match o with
  |none=>true
  |_=>false
 |.yes e,o=>match o with
  |some e'=>aZ sc N e e'
  |_=>false
noncomputable def chkC(sc:Scope)(N:List Str):CO->List Expr->Bool
 |.no,o=>match o with
  | []=>true
  |_=>false
 |.yes e,o=>match o with
  | [e']=>aZ sc N e e'
  |_=>false
noncomputable def ma(sc:Scope)(N:List Str)(all:Bool):CG->Expr->Bool
 |.name i,e=>match e with
  |.Name x _=>N[i]? ==some x&&(sc.names.lookup x==some .local||sc.names.lookup x==some .cell)
  |_=>false
 |.tup gs,e=>match e with
  |.Tuple es' _ _=>my sc N all gs es'
  |_=>false
 |.sub o i,e=>match e with
  |.Subscript o' i' _=> !lS i'&&aZ sc N o o'&&aZ sc N i i'
  |_=>false
noncomputable def my(sc:Scope)(N:List Str)(all:Bool):CGs->List Expr->Bool
 |.nil,es=>match es with
  | []=>true
  |_=>false
 |.cons g gs,es=>match es with
  |e'::es'=>ma sc N all g e'&&my sc N all gs es'
  |_=>false
noncomputable def wD(sc:Scope)(N:List Str):CI->Expr->Expr->Bool
 |.seq e,e',_=>aZ sc N e e'
 |.lseq e,e',_=>aZ sc N e e'
 |.tseq e,e',_=>aZ sc N e e'
 |.range1 e,x,_=>match x with
  |.Call (.Name f' _) [e'] [] _=>decide (f'="range")&&km sc f'&&aZ sc N e e'
  |_=>false
 |.range2 a b,x,_=>match x with
  |.Call (.Name f' _) [a',b'] [] _=>decide (f'="range")&&km sc f'&&aZ sc N a a'&&aZ sc N b b'
  |_=>false
 |.enumt e,x,tg'=>match x with
  |.Call (.Name f' _) [e'] [] _=>decide (f'="enumerate")&&km sc f'&&aZ sc N e e'&&mW tg'
  |_=>false
end
mutual
noncomputable def m5(sc:Scope)(N:List Str):CS->Stmt->Bool
 |.asg g e,s=>match s with
  |.Assign [g'] e' _=>ma sc N true g g'&&aZ sc N e e'&& !pd e'&& !(mW g'&&mW e')
  |_=>false
 |.asgc i e,s=>match s with
  |.Assign [.Name x p] (.ListComp a b c d) sp=>N[i]? ==some x&&(sc.names.lookup x==some .local||sc.names.lookup x==some .cell)&&aZ sc N e (.ListComp a b c d)&&
   (sc.names.lookup x==some .cell||(decide (p.line=d.line)&& !(c.names.any fun y=>decide (y.1=x)&&(decide (y.2=.local)||decide (y.2=.cell)))))
  |_=>false
 |.expr e,s=>match s with
  |.Expr e' _=>aZ sc N e e'&& !pd e'
  |_=>false
 |.iff c a b,s=>match s with
  |.If c' a' b' _=>aZ sc N c c'&&m6 sc N a a'&&m6 sc N b b'
  |_=>false
 |.forr g it b,s=>match s with
  |.For g' it' b' [] _=>ma sc N true g g'&&wD sc N it it' g'&& !isSet it'&&m6 sc N b b'
  |_=>false
 |.ret e,s=>match s with
  |.Return (some e') _=>aZ sc N e e'
  |_=>false
 |.retN,s=>match s with
  |.Return none _=>true
  |_=>false
 |.rais x es,s=>match s with
  |.Raise (some (.Call (.Name x' _) (e'::es') [] _)) none _=>decide (x=x')&&km sc x&&rq x&&ku sc N es (e'::es')
  |_=>false
 |.fldI o f e,s=>match s with
  |.Assign [.Attribute o' f' _] e' _=>decide (f=f')&&aZ sc N o o'&&aZ sc N e e'&& !pd e'
  |_=>false
 |.pass,s=>match s with
  |.Pass _=>true
  |_=>false
 |.brk,s=>match s with
  |.Break _=>true
  |_=>false
 |.cont,s=>match s with
  |.Continue _=>true
  |_=>false
noncomputable def m6(sc:Scope)(N:List Str):CB->List Stmt->Bool
 |.hole,_=>true
 |.nil,ss=>match ss with
  | []=>true
  |_=>false
 |.cons s r,ss=>match ss with
  |s'::r'=>m5 sc N s s'&&m6 sc N r r'
  |_=>false
end
structure Gam where
 val:Str->Option V
 fn:Str->Nat->Option (Sp×List V)
 ini:Str->Nat->Option (Addr×Sp×List V)
 dic:Addr->Option (List (Key×V))
 mak:Str->Nat->Option (Addr×Sp×List V)
 mth:Str->Nat->Option (Addr×Sp×List V)
noncomputable def C9(K:ae)(tl:TE):TI:=fun σ H R=>tl σ H fun x H1=>(∃a,x=.ref a/\(∃xs,SqL K H1 a xs)/\R (Itl K a) H1)\/(∃a,x=.ref a/\(∃xs,SqT K H1 a xs)/\R (Itt K a) H1)\/(∃z,x=.str z/\R (Its z) H1)
noncomputable def xx(K:ae)(t:TE):TT:=fun σ H Q=>t σ H fun x H1=>∃k,TruV K x H1 k/\Q k H1
mutual
noncomputable def wpE(G:Gam)(K:ae)(E:XS):CE->TE
 |.var i=>kR i
 |.con c=>tC (cv c)
 |.glo x=>fun σ H Q=>∃v,G.val x=some v/\Q v H
 |.ty t=>tC (.ty t.t)
 |.bin op a b=>tOp (i8 K op) (wpE G K E a) (wpE G K E b)
 |.un op a=>tUn (rUn K op) (wpE G K E a)
 |.cmp op a b=>tOp (gv K op) (wpE G K E a) (wpE G K E b)
 |.chain o1 o2 a b c=>qP (gv K o1) (gv K o2) (wpE G K E a) (wpE G K E b) (wpE G K E c)
 |.not a=>Eo (wpE G K E a)
 |.and a b=>Et (wpE G K E a) (wpE G K E b)
 |.or a b=>tOrV (wpE G K E a) (wpE G K E b)
 |.ite c a b=>tIf (wpT G K E c) (wpE G K E a) (wpE G K E b)
 |.idx a i=>tOp (rIx K) (wpE G K E a) (wpE G K E i)
 |.cut a lo hi=>tSl (rSlc K) (wpE G K E a) (wpO G K E lo) (wpO G K E hi)
 |.tup es=>tTup (wpL G K E es)
 |.lst es=>tLst (wpL G K E es)
 |.call f es=>fun σ H Q=>∃sp dvs,G.fn f es.len=some (sp,dvs)/\xD sp dvs (E σ) (wpL G K E es) σ H Q
 |.bfn b es=>tCB (rBf K b) (wpL G K E es)
 |.meth1 m o a=>tBM K "list" (rMm m) (wpE G K E o) (iC (wpE G K E a) jC)
 |.idxd a i=>tOp (rIxD K) (wpE G K E a) (wpE G K E i)
 |.dicT=>Er
 |.setd o a b=>tBM K "dict" A6 (wpE G K E o) (iC (wpE G K E a) (iC (wpE G K E b) jC))
 |.ins o a b=>tBM K "list" A7 (wpE G K E o) (iC (wpE G K E a) (iC (wpE G K E b) jC))
 |.divb a b=>tOp rDivB (wpE G K E a) (wpE G K E b)
 |.rev a=>tRev K (wpE G K E a)
 |.lrng a=>tLRng (iC (wpE G K E a) jC)
 |.sortset a=>xA K (iC (wpE G K E a) jC)
 |.lzip a b=>tLZip K (iC (wpE G K E a) (iC (wpE G K E b) jC))
 |.mak x=>fun σ H Q=>∃C sp dvs,G.mak x 0=some (C,sp,dvs)/\zJ C sp dvs E jC σ H Q
 |.mth a m es=>fun σ H Q=>∃C sp dvs,G.mth m es.len=some (C,sp,dvs)/\kg C m sp dvs E (wpE G K E a) (wpL G K E es) σ H Q
 |.fldI a f=>Ca K (wpE G K E a) f
 |.comp own fr tg it cond elt=>tZ (wpI G K E it) (wpG G K N0 tg) (wpC G K N0 cond) (wpE G K N0 elt) (lM own fr)
noncomputable def wpT(G:Gam)(K:ae)(E:XS):CE->TT
 |.cmp op a b=>xy (tOp (gv K op) (wpE G K E a) (wpE G K E b))
 |.chain o1 o2 a b c=>xy (qP (gv K o1) (gv K o2) (wpE G K E a) (wpE G K E b) (wpE G K E c))
 |.not a=>tNot (wpT G K E a)
 |.and a b=>tAnd (wpT G K E a) (wpT G K E b)
 |.or a b=>tOr (wpT G K E a) (wpT G K E b)
 |.ite _ _ _=>fun _ _ _=>False
 |.var i=>xx K (kR i)
 |.con c=>xx K (tC (cv c))
 |.glo x=>xx K (fun σ H Q=>∃v,G.val x=some v/\Q v H)
 |.idx a i=>xx K (tOp (rIx K) (wpE G K E a) (wpE G K E i))
 |.call f es=>xx K (fun σ H Q=>∃sp dvs,G.fn f es.len=some (sp,dvs)/\xD sp dvs (E σ) (wpL G K E es) σ H Q)
 |.bfn b es=>xx K (tCB (rBf K b) (wpL G K E es))
 |_=>fun _ _ _=>False
noncomputable def wpL(G:Gam)(K:ae)(E:XS):CL->TA
 |.nil=>jC
 |.cons e es=>iC (wpE G K E e) (wpL G K E es)
noncomputable def wpP(G:Gam)(K:ae)(E:XS):CP->List (TE×TE)
 |.nil=>[]
 |.cons k v r=>(wpE G K E k,wpE G K E v)::wpP G K E r
noncomputable def wpO(G:Gam)(K:ae)(E:XS):CO->TO
 |.no=>vp
 |.yes e=>En (wpE G K E e)
noncomputable def wpC(G:Gam)(K:ae)(E:XS):CO->TT
 |.no=>tYes
 |.yes e=>wpT G K E e
noncomputable def wpG(G:Gam)(K:ae)(E:XS):CG->TG
 |.name i=>kG i
 |.tup gs=>gTup K gs.len (wpGs G K E gs)
 |.sub o i=>gSub (wpE G K E o) (wpE G K E i) rSetL
noncomputable def wpGs(G:Gam)(K:ae)(E:XS):CGs->TGs
 |.nil=>gNil
 |.cons g gs=>Gf (wpG G K E g) (wpGs G K E gs)
noncomputable def wpI(G:Gam)(K:ae)(E:XS):CI->TI
 |.seq e=>C9 K (wpE G K E e)
 |.lseq e=>F7 K (wpE G K E e)
 |.tseq e=>iTup K (wpE G K E e)
 |.range1 e=>F6 (iC (wpE G K E e) jC)
 |.range2 a b=>F5 (iC (wpE G K E a) (iC (wpE G K E b) jC))
 |.enumt e=>F8 K (iC (wpE G K E e) jC)
end
mutual
noncomputable def wpS(G:Gam)(K:ae)(E:XS):CS->TS
 |.asg g e=>vq (wpE G K E e) (wpG G K E g)
 |.asgc i e=>vq (wpE G K E e) (kG i)
 |.expr e=>Ep (wpE G K E e)
 |.iff c a b=>tIfS (wpT G K E c) (wpB G K E a) (wpB G K E b)
 |.forr g it b=>tFor (wpI G K E it) (wpG G K E g) (wpB G K E b)
 |.ret e=>tRet (wpE G K E e)
 |.retN=>Em
 |.rais x es=>fun D σ H=>∃C,G.val x=some (.ref C)/\bH K (.ref C)=true/\PySem.W.excIn K C bmV "ValueError.__new__"=true/\wpL G K E es σ H fun vs H1=>vs.length<=sizeLine/\E σ (.ref C) none H1
 |.fldI o f e=>EL K (wpE G K E o) (wpE G K E e) f
 |.pass=>xB
 |.brk=>Es
 |.cont=>tCont
noncomputable def wpB(G:Gam)(K:ae)(E:XS):CB->TS
 |.nil=>xB
 |.hole=>fun _ _ _=>False
 |.cons s r=>tp (wpS G K E s) (wpB G K E r)
end
noncomputable abbrev Sat(G:Gam)(K:ae)(sp:Sp)(c:CB)(N:List Str):Prop:=∀vs H Q E,sp vs H Q E->wpB G K (fun _=>E) c {nx:=fun _ H'=>Q .non H',rt:=Q} (L2.start N vs) H
noncomputable def iE:List Str:=["len","isinstance","all","any","list","tuple","int","bool","str","dict","range","enumerate","sorted","set","min","max","ValueError","sum","zip"]
structure Ok(CX:CXT)(G:Gam)(E:XS)(sc:Scope)(N:List Str)(all:Bool)(X:Cx):Prop where
 names:X.N=N
 top:all=true->X.stack=X.env::X.outer/\X.env.frame=some X.env.locals/\X.ex=[]
 nd:N.Nodup
 loc:∀x,sc.names.lookup x=some .local->X.env.scope.names.lookup x=some .local
 cel:∀x,sc.names.lookup x=some .cell->X.env.scope.names.lookup x=some .cell
 fre:∀x,sc.names.lookup x=some .free->X.env.scope.names.lookup x=some .cell\/X.env.scope.names.lookup x=some .free
 glo:∀x,sc.names.lookup x=some .globalImplicit->X.env.scope.names.lookup x=some .globalImplicit
 all:all=true->∀x,X.fn x=true
 own:∀x,sc.names.lookup x=some .cell->X.fn x=true
 calm:X.calm=true
 hu:X.A.units+50<cLine
 val:∀x v,G.val x=some v->∃u,X.mg x=some u/\RelV v u
 fn:∀x n sp dvs,G.fn x n=some (sp,dvs)->∃f fd ps ds k,gY X.prog X.w X.K X.mg X.base CX k f fd ps sp/\hZ k X.A/\X.mg x=some (.ref f)/\bH X.K (.ref f)=true/\Binds X.K fd ps ds/\bL dvs ds
 ini:∀x n C sp dvs,G.ini x n=some (C,sp,dvs)->∃f fd ps ds k,MkX X.K C f/\gY X.prog X.w X.K X.mg X.base CX k f fd ps sp/\hZ (k+1) X.A/\X.mg x=some (.ref C)/\Binds X.K fd ps ds/\bL dvs ds
 dic:∀a kvs,G.dic a=some kvs->DkIn X.prog X.w X.K a kvs
 mak:∀x n C sp dvs,G.mak x n=some (C,sp,dvs)->∃f fd ps ds k,Mk X.K C f/\gY X.prog X.w X.K X.mg X.base CX k f fd ps sp/\hZ (k+1) X.A/\X.mg x=some (.ref C)/\Binds X.K fd ps ds/\bL dvs ds
 mth:∀m n C sp dvs,G.mth m n=some (C,sp,dvs)->∃f fd ps ds k,Cls X.K C/\DB X.K C m f/\gY X.prog X.w X.K X.mg X.base CX k f fd ps sp/\hZ k X.A/\Binds X.K fd ps ds/\bL dvs ds
 blt:∀x∈iE,X.mg x=none
 px:PassesOwn (model X.prog X.w) X.A X.env X.xe
 pass:oF CX X E
 made:MadeS X E
 madeX:G1 X E
 cx:CX=CXx X.prog X.w
theorem Bf.mem:∀b:Bf,b.name∈iE:=by intro b;cases b<;>decide+kernel
theorem Ty.mem:∀b:Ty,b.name∈iE:=by intro b;cases b<;>decide+kernel
section
variable {CX:CXT}{G:Gam}{E:XS}{sc:Scope}{N:List Str}{all:Bool}{X:Cx}
theorem Ok.vis(o:Ok CX G E sc N all X){x:Str}(h:F0 sc x=true):Vis X.env.scope x:=by
 unfold F0 at h;rw[cS,cS,beq_iff_eq,beq_iff_eq,beq_iff_eq]at h;rcases h with(h|h) |h
 ·exact .inl (o.loc x h)
 ·exact .inr (.inl (o.cel x h))
 ·rcases o.fre x h with q|q
  ·exact .inr (.inl q)
  ·exact .inr (.inr q)
theorem Ok.gl(o:Ok CX G E sc N all X){x:Str}(h:km sc x=true):Gl X x:=by
 unfold km at h;rw[beq_iff_eq]at h;exact o.glo x h
theorem gG{x:Str}(h:rq x=true):(x==("__debug__":Str))=false/\(x==("__classdict__":Str))=false:=by
 unfold rq at h;rw[aj,beq_iff_eq,beq_iff_eq]at h;exact h
theorem rBin_ok:∀op,OpR X (d4 op) (i8 X.K op)
 |.Add=>op_add.or (Aj.or (op_cat.or (op_catT.or op_cat0)))
 |.Sub=>op_sub
 |.Mult=>op_mul.or (op_rep.or op_repS)
 |.Mod=>op_mod
 |.FloorDiv=>op_fdiv
 |.Pow=>op_pow
 |.RShift=>op_shr
 |.MatMult=>fun _ _ _ _ _ _ _ _ _ _ _ _ h=>h.elim
 |.Div=>fun _ _ _ _ _ _ _ _ _ _ _ _ h=>h.elim
 |.LShift=>op_shl
 |.BitOr=>fun _ _ _ _ _ _ _ _ _ _ _ _ h=>h.elim
 |.BitXor=>op_xor
 |.BitAnd=>op_and
theorem lN(hu:X.A.units+50<cLine):∀op,OpR X (dg op) (gv X.K op)
 |.Eq=>op_eqD (by omega)
 |.NotEq=>op_neD (by omega)
 |.Lt=>op_lt
 |.LtE=>op_le
 |.Gt=>op_gt
 |.GtE=>op_ge
 |.Is=>op_isN
 |.IsNot=>op_notN
 |.In=>CC.or CD
 |.NotIn=>vZ.or wa
theorem rUn_ok:∀op,UnR X (unaryOp op) (rUn X.K op)
 |.USub=>Ef
 |.Not=>fun _ _ _ _ _ _ _ _ _ h=>h.elim
 |.UAdd=>fun _ _ _ _ _ _ _ _ _ h=>h.elim
 |.Invert=>fun _ _ _ _ _ _ _ _ _ h=>h.elim
theorem rSlc_ok:SlR X (rSlc X.K):=sl_list.or sl_str
theorem EY(hc:X.calm=true)(hu:X.A.units+50<cLine):∀b,fL X (Bf.val b) (rBf X.K b)
 |.len=>wJ.or (wI.or Q.tN)
 |.isinstance=>yP.or wK
 |.all=>GP hc
 |.any=>GO hc
 |.list=>wH
 |.tuple=>tL
 |.set=>Q.Dq hc
 |.min=>pv hc
 |.int=>Dv
 |.lend=>yO
 |.sortl=>Q.wG
 |.sortt=>Q.wF (by omega)
 |.minl=>Q.Ds hc (by omega)
 |.maxl=>Q.Dt hc (by omega)
theorem Mm.slot:∀m:Mm,Slot "list" m.name m.id
 |.append=>PySem.F.slot_list_append|.clear=>PySem.F.slot_list_clear|.reverse=>PySem.F.slot_list_reverse|.pop=>PySem.F.slot_list_pop|.index=>PySem.F.slot_list_index
theorem Mm.ty:∀m:Mm,typeOf (.builtin m.id)=pure (.type "method_descriptor")
 |.append=>PySem.F.type_list_append|.clear=>PySem.F.type_list_clear|.reverse=>PySem.F.type_list_reverse|.pop=>PySem.F.type_list_pop|.index=>PySem.F.type_list_index
theorem rMm_ok:∀m:Mm,MtR X m.id (rMm m)
 |.append=>CV|.clear=>fun _ _ _ _ _ _ _ _ _ _ _ _ h=>h.elim|.reverse=>fun _ _ _ _ _ _ _ _ _ _ _ _ h=>h.elim|.pop=>fun _ _ _ _ _ _ _ _ _ _ _ _ h=>h.elim|.index=>fun _ _ _ _ _ _ _ _ _ _ _ _ h=>h.elim
theorem wN{o:Expr}(h:baseOk o=true)(nm:Str)(env:Env)(t:Sem Value):iw o nm env t=t:=by
 cases o<;>first
  |rfl
  | (exact absurd h (by simp[baseOk]))
theorem bB{c:CE}{e:Expr}(h:aZ sc N c e=true)(es:List Expr)(env:Env):bc (e::es) env=(false,eval e env)::bc es env:=by
 cases e<;>first
  |rfl
  | (cases c<;>exact absurd h (by simp[aZ]))
theorem eS{c:CE}{r:CL}{es:List Expr}(h:ku sc N (.cons c r) es=true):∃e' r',es=e'::r'/\aZ sc N c e'=true/\ku sc N r r'=true:=by
 cases es with
 |nil=>exact absurd h (by simp[ku])
 |cons e' r'=>
  have h':(aZ sc N c e'&&ku sc N r r')=true:=h;rw[aj]at h';exact⟨e',r',rfl,h'⟩
theorem fW{es:List Expr}(h:ku sc N .nil es=true):es=[]:=by
 cases es with
 |nil=>rfl
 |cons e' r'=>exact absurd h (by simp[ku])
theorem fj:∀{l:CL}{es:List Expr},ku sc N l es=true->∀(env:Env)(pos:Pos),(backTo pos (bc es env)).any (·.1)=false
 |.nil,es,h,env,pos=>by rw[fW h];rfl
 |.cons c r,es,h,env,pos=>by
  obtain⟨e',r',rfl,h1,h2⟩:=eS h;rw[bB h1];show(false||(backTo pos (bc r' env)).any (·.1))=false;rw[fj h2];rfl
theorem yK:∀{l:CL}{es:List Expr},ku sc N l es=true->es.length=l.len
 |.nil,es,h=>by rw[fW h];rfl
 |.cons c r,es,h=>by
  obtain⟨e',r',rfl,h1,h2⟩:=eS h;rw[ba,yK h2,CL.len]
theorem we{e:Expr}(h:isSet e=false)(env:Env):∀x,iX e env x=pure x:=by
 intro x;cases e<;>first
  |rfl
  | (exact absurd h (by simp[isSet]))
theorem lR{e:Expr}(h:isSet e=false)(op:CmpOp):G9 op e=false:=by
 cases e<;>first
  |rfl
  | (exact absurd h (by simp[isSet]))
theorem rh{e:Expr}(h:lS e=false):BU e:=by
 intro o i;cases e<;>first
  |rfl
  | (exact absurd h (by simp[lS]))
theorem qv{e:Expr}(h:pd e=false)(t:Option Expr)(l:Nat)(env:Env):ni e t l env=pure false:=by
 cases e<;>first
  |rfl
  | (exact absurd h (by simp[pd]))
theorem z7{e:Expr}{t:TE}(h:PE X e t)(he:∀whole,isTrue e X.env whole=(do let v<-whole;standAt e.pos;holding [v] (truthy v))):PT X e (xx X.K t):=nN h he
theorem pi_any{tg l:Expr}{tl:TE}(hl:PE X l tl):PI X tg l (C9 X.K tl):=by
 intro pins s σ H R I h;refine thn (hl pins s σ H _ I h) fun v s1 ⟨x,H1,I1,r1,q1⟩=>?_;have key:∀{tl':TE}{wi:TI},True:=fun{_ _}=>trivial;rcases q1 with q1|q1|q1
 ·obtain⟨a,e,⟨xs,hq⟩,q⟩:=q1
  subst e;cases r1;obtain⟨its,rv,p,hz⟩:=I1.list hq;refine iU p.isList ?_;refine⟨s1.heap.objs.size,[s1.heap.objs.size],_,_,H1,rfl,I1.kept (t':=s1.toks) fun b o e=>ag _ e,tW a _,⟨_,au _ rfl,rfl,rfl⟩,fun b hb=>?_,q⟩;have e:b=s1.heap.objs.size:=by simpa using hb
  subst e;exact I1.wz (ax _) (I1.hok.fresh (ax _))
 ·obtain⟨a,e,⟨xs,hq⟩,q⟩:=q1
  subst e;cases r1;obtain⟨its,rv,p,hz⟩:=I1.tuple hq;refine fZ (show s1.heap.IsTuple a its.toArray from p) ?_;refine⟨s1.heap.objs.size,[s1.heap.objs.size],_,_,H1,rfl,I1.kept (t':=s1.toks) fun b o e=>ag _ e,qM a _,⟨_,au _ rfl,rfl,rfl⟩,fun b hb=>?_,q⟩;have e:b=s1.heap.objs.size:=by simpa using hb
  subst e;exact I1.wz (ax _) (I1.hok.fresh (ax _))
 ·obtain⟨z,e,q⟩:=q1
  subst e;obtain⟨t,rfl⟩:=r1;refine wpAny_pyIter_strU ?_;refine⟨s1.heap.objs.size,[s1.heap.objs.size],_,_,H1,rfl,I1.kept (t':=s1.toks) fun b o e=>ag _ e,Eg z _ t,⟨_,au _ rfl,rfl,rfl⟩,fun b hb=>?_,q⟩;have e:b=s1.heap.objs.size:=by simpa using hb
  subst e;exact I1.wz (ax _) (I1.hok.fresh (ax _))
end
set_option maxHeartbeats 4000000
section
variable {CX:CXT}{G:Gam}
structure lV(sc sc':Scope)(N own:List Str)(fr:List Nat):Prop where
 kind:sc'.kind=.function
 cellk:∀y∈sc'.names,y.2=.cell->sc'.names.lookup y.1=some .cell
 own1:∀y∈sc'.names,y.2=.local->sc'.names.lookup y.1=some .local
 free:∀y∈sc'.names,y.2=.free->sc.names.lookup y.1=some .cell\/sc.names.lookup y.1=some .free
 nd:(namesOf N own fr).Nodup
 fr:∀j∈fr,j<N.length/\sc'.names.lookup (N.getD j "")=some .free
 own2:∀x∈own,sc'.names.lookup x=some .local\/sc'.names.lookup x=some .cell
theorem qY{sc sc':Scope}{N own:List Str}{fr:List Nat}(h:wb sc sc' N own fr=true):lV sc sc' N own fr:=by
 unfold wb at h;simp only[aj,bD,decide_eq_true_eq,beq_iff_eq,cS]at h;obtain⟨⟨⟨⟨⟨⟨h1,h2⟩,h3⟩,h4⟩,h5⟩,h6⟩,h7⟩:=h;exact⟨h1,h2,h3,h4,h5,h6,h7⟩
theorem lV.comp{E:XS}{sc sc':Scope}{N own:List Str}{fr:List Nat}{all:Bool}{X:Cx}(S:lV sc sc' N own fr)(o:Ok CX G E sc N all X):lW X (namesOf N own fr) sc':=
 ⟨S.kind,S.cellk,S.own1,fun y hy hf=>by
  rcases S.free y hy hf with q|q
  ·exact .inl (o.cel _ q)
  ·exact o.fre _ q⟩
theorem lV.mkOk{E:XS}{sc sc':Scope}{N own:List Str}{fr:List Nat}{all:Bool}{X:Cx}(S:lV sc sc' N own fr)(o:Ok CX G E sc N all X):MkOk X (namesOf N own fr) sc' (lM own fr):=by
 intro σ hl;refine⟨by simp[lM,namesOf],fun i x v h1 h2=>?_⟩;unfold lM at h2;unfold namesOf at h1;by_cases hi:i<own.length
 ·rw[kb (by simpa using hi),aA]at h2
  cases q:own[i]? with
  |none=>rw[q]at h2;cases h2
  |some z=>rw[q]at h2;cases h2
 ·rw[gB (by simpa using hi),aA,ao]at h2
  rw[gB (by simpa using hi),aA]at h1;cases q:fr[i-own.length]? with
  |none=>rw[q]at h2;cases h2
  |some j=>
   rw[q]at h1 h2;have hx:N.getD j ""=x:=aV h1;have hv:(σ[j]?).getD none=some v:=aV h2;obtain⟨hj,hf⟩:=S.fr j (aR q);refine⟨by rw[<-hx];exact hf,j,?_,?_⟩
   ·rw[o.names,<-hx,ah,af hj];rfl
   ·cases w:σ[j]? with
    |none=>rw[w]at hv;cases hv
    |some z=>rw[w]at hv;exact congrArg some hv
noncomputable abbrev HX(CX:CXT):Prop:=∀o H s e s',CX o H s E0 e s'->False
theorem Ok.comp{E:XS}{sc sc':Scope}{N own:List Str}{fr:List Nat}{all:Bool}{X:Cx}(hCX:HX CX)(S:lV sc sc' N own fr)(o:Ok CX G E sc N all X)(C:Addr)(s₀:Shared)(H₀:Hp)(fp:List Addr):
  Ok CX G N0 sc' (namesOf N own fr) false (dQ X (namesOf N own fr) sc' C s₀ H₀ fp) where
 names:=rfl
 nd:=S.nd
 loc:=fun x h=>lookup_relabel_local (env:=X.env) h
 cel:=fun x h=>fU (env:=X.env) h (by decide)
 own:=fun x h=>bP.mpr ⟨(x,.cell),bw h,by simp⟩
 fre:=fun x h=>(gw (env:=X.env) h).symm
 glo:=fun x h=>fU (env:=X.env) h (by decide)
 all:=fun h=>absurd h (by decide)
 calm:=o.calm
 hu:=o.hu
 val:=o.val
 fn:=o.fn
 ini:=o.ini
 dic:=o.dic
 mak:=o.mak
 mth:=o.mth
 blt:=o.blt
 px:=PassesOwn.never
 pass:=fun _ _ _ _ _ _ _ h=>(hCX _ _ _ _ _ h).elim
 made:=fun _ _ _ _ _ _ _ _ _ _ h=>h.elim
 madeX:=fun _ _ _ _ _ _ _ _ _ h=>h.elim
 cx:=o.cx
 top:=fun h=>absurd h (by decide)
theorem nR{sc:Scope}{N:List Str}{all:Bool}{g:CG}{e:Expr}(h:ma sc N all g e=true)(es:List Expr)(env:Env):gU (e::es) env=(false,assign e env)::gU es env:=by
 cases e<;>first
  |rfl
  | (cases g<;>exact absurd h (by simp[ma]))
theorem rZ{sc:Scope}{N:List Str}{all:Bool}{g:CG}{r:CGs}{es:List Expr}(h:my sc N all (.cons g r) es=true):∃e' r',es=e'::r'/\ma sc N all g e'=true/\my sc N all r r'=true:=by
 cases es with
 |nil=>exact absurd h (by simp[my])
 |cons e' r'=>
  have h':(ma sc N all g e'&&my sc N all r r')=true:=h;rw[aj]at h';exact⟨e',r',rfl,h'⟩
theorem uN{sc:Scope}{N:List Str}{all:Bool}{es:List Expr}(h:my sc N all .nil es=true):es=[]:=by
 cases es with
 |nil=>rfl
 |cons e' r'=>exact absurd h (by simp[my])
theorem pU{sc:Scope}{N:List Str}{all:Bool}:∀{gs:CGs}{es:List Expr},my sc N all gs es=true->∀env,(gU es env).length=gs.len/\(gU es env).findIdx? (·.1)=none
 |.nil,es,h,env=>by rw[uN h];exact⟨rfl,rfl⟩
 |.cons g r,es,h,env=>by
  obtain⟨e',r',rfl,h1,h2⟩:=rZ h;obtain⟨a,b⟩:=pU h2 env;rw[nR h1];refine⟨by rw[ba,a,CGs.len],?_⟩;rw[List.findIdx?_cons];simp[b]
end
section
variable {CX:CXT}{G:Gam}
theorem iL{a b c:Bool}(h:(a&&b&&c)=true):a=true/\b=true/\c=true:=by
 simp only[aj]at h;exact⟨h.1.1,h.1.2,h.2⟩
theorem mT{a:Bool}(h:(!a)=true):a=false:=by simpa using h
noncomputable abbrev IHE(CX:CXT)(G:Gam)(c:CE):Prop:=∀(e:Expr){E:XS}{sc:Scope}{N:List Str}{all:Bool}{X:Cx},Ok CX G E sc N all X->aZ sc N c e=true->PE X e (wpE G X.K E c)
noncomputable abbrev IHT(CX:CXT)(G:Gam)(c:CE):Prop:=∀(e:Expr){E:XS}{sc:Scope}{N:List Str}{all:Bool}{X:Cx},Ok CX G E sc N all X->aZ sc N c e=true->PT X e (wpT G X.K E c)
noncomputable abbrev IHW(CX:CXT)(G:Gam)(c:CE):Prop:=∀(op:BoolOp)(es:List Expr)(pos:Pos){E:XS}{sc:Scope}{N:List Str}{all:Bool}{X:Cx},Ok CX G E sc N all X->aZ sc N c (.BoolOp op es pos)=true->PW X (.BoolOp op es pos) (wpT G X.K E c)
noncomputable abbrev IHL(CX:CXT)(G:Gam)(c:CL):Prop:=∀(es:List Expr){E:XS}{sc:Scope}{N:List Str}{all:Bool}{X:Cx},Ok CX G E sc N all X->ku sc N c es=true->PA X es (wpL G X.K E c)
noncomputable abbrev IHP(CX:CXT)(G:Gam)(c:CP):Prop:=∀(ks:List (Option Expr))(vs:List Expr){E:XS}{sc:Scope}{N:List Str}{all:Bool}{X:Cx},Ok CX G E sc N all X->GH sc N c ks vs=true->∀pos,
  PPs X pos ks vs (wpP G X.K E c)/\ks.all (·.isSome)=true/\ks.length=vs.length/\(c≠.nil->ks≠[])
noncomputable abbrev IHO(CX:CXT)(G:Gam)(c:CO):Prop:=∀(e:Option Expr){E:XS}{sc:Scope}{N:List Str}{all:Bool}{X:Cx},Ok CX G E sc N all X->GI sc N c e=true->PO X e (wpO G X.K E c)
noncomputable abbrev IHC(CX:CXT)(G:Gam)(c:CO):Prop:=∀(es:List Expr){E:XS}{sc:Scope}{N:List Str}{all:Bool}{X:Cx},Ok CX G E sc N all X->chkC sc N c es=true->PTs X es (wpC G X.K E c)
noncomputable abbrev IHG(CX:CXT)(G:Gam)(c:CG):Prop:=∀(e:Expr){E:XS}{sc:Scope}{N:List Str}{all:Bool}{X:Cx},Ok CX G E sc N all X->ma sc N all c e=true->PG X e (wpG G X.K E c)
noncomputable abbrev G3(CX:CXT)(G:Gam)(c:CGs):Prop:=∀(es:List Expr){E:XS}{sc:Scope}{N:List Str}{all:Bool}{X:Cx},Ok CX G E sc N all X->my sc N all c es=true->PGs X es (wpGs G X.K E c)
noncomputable abbrev IHI(CX:CXT)(G:Gam)(c:CI):Prop:=∀(e tg:Expr){E:XS}{sc:Scope}{N:List Str}{all:Bool}{X:Cx},Ok CX G E sc N all X->wD sc N c e tg=true->PI X tg e (wpI G X.K E c)
theorem sE_var(hCX:HX CX){i:Nat}:IHE CX G (.var i):=by
  intro e E sc N all X o h;unfold aZ at h;split at h
  ·obtain⟨h1,h2,h3⟩:=iL h
   obtain⟨d1,d2⟩:=gG h3;exact Fd (by rw[o.names];exact beq_iff_eq.mp h1) (o.vis h2) d1 d2
  ·cases h
theorem EN(hCX:HX CX){c:Const}:IHE CX G (.con c):=by
  intro e E sc N all X o h;unfold aZ at h;split at h
  ·rw[aj,decide_eq_true_eq]at h
   obtain⟨h1,rfl⟩:=h;cases c with
   |none=>exact pe_non
   |bool b=>exact pe_bl
   |int i=>exact Fi
   |str x=>exact pe_str
   |_=>exact absurd h1 (by simp[okCon])
  ·cases h
theorem sE_glo(hCX:HX CX){x:Str}:IHE CX G (.glo x):=by
  intro e E sc N all X o h;unfold aZ at h;split at h
  ·obtain⟨h1,h2,h3⟩:=iL h
   rw[decide_eq_true_eq]at h1;subst h1;intro pins s σ H Q I hw;obtain⟨v,hv,q⟩:=hw;obtain⟨u,hu,r⟩:=o.val _ _ hv;exact Bh (o.gl h2) hu r (gG h3).1 pins s σ H Q I q
  ·cases h
theorem sE_ty(hCX:HX CX){t:Ty}:IHE CX G (.ty t):=by
  intro e E sc N all X o h;unfold aZ at h;split at h
  ·rw[aj,decide_eq_true_eq]at h
   obtain⟨h1,h2⟩:=h;subst h1;exact pe_bltn (o.gl h2) (o.blt _ t.mem) t.boot rfl t.plain.1 t.plain.2
  ·cases h
theorem sE_bin(hCX:HX CX){op:Operator}{a:CE}{b:CE}(iE_a:IHE CX G a)(iE_b:IHE CX G b):IHE CX G (.bin op a b):=by
  intro e E sc N all X o h;unfold aZ at h;split at h
  ·obtain⟨h1,h2,h3⟩:=iL h
   rw[decide_eq_true_eq]at h1;subst h1;exact pe_op (rBin_ok op) (iE_a _ o h2) (iE_b _ o h3)
  ·cases h
theorem sE_un(hCX:HX CX){op:BX}{a:CE}(iE_a:IHE CX G a):IHE CX G (.un op a):=by
  intro e E sc N all X o h;unfold aZ at h;split at h
  ·rw[aj,decide_eq_true_eq]at h
   obtain⟨h1,h2⟩:=h;subst h1;exact pe_un (rUn_ok op) (iE_a _ o h2)
  ·cases h
theorem sE_cmp(hCX:HX CX){op:CmpOp}{a:CE}{b:CE}(iE_a:IHE CX G a)(iE_b:IHE CX G b):IHE CX G (.cmp op a b):=by
  intro e E sc N all X o h;unfold aZ at h;split at h
  ·rw[aj]at h
   obtain⟨h,h4⟩:=h;obtain⟨h1,h2,h3⟩:=iL h;rw[decide_eq_true_eq]at h1;subst h1;exact pe_cmpR (lN o.hu op) (iE_a _ o h3) (iE_b _ o h4) (lR (mT h2) op)
  ·cases h
theorem EO(hCX:HX CX){o1:CmpOp}{o2:CmpOp}{a:CE}{b:CE}{c:CE}(iE_a:IHE CX G a)(iE_b:IHE CX G b)(iE_c:IHE CX G c):IHE CX G (.chain o1 o2 a b c):=by
  intro e E sc N all X o h;unfold aZ at h;split at h
  ·simp only[aj,decide_eq_true_eq]at h
   obtain⟨⟨⟨⟨⟨h1,h2⟩,h3⟩,h4⟩,h5⟩,h6⟩:=h;subst h1 h2;exact Fl (lN o.hu o1) (lN o.hu o2) (iE_a _ o h4) (iE_b _ o h5) (iE_c _ o h6) (lR (mT h3) o2)
  ·cases h
theorem sE_not(hCX:HX CX){a:CE}(iE_a:IHE CX G a):IHE CX G (.not a):=by
  intro e E sc N all X o h;unfold aZ at h;split at h
  ·skip
   exact pe_not (iE_a _ o h)
  ·cases h
theorem sE_and(hCX:HX CX){a:CE}{b:CE}(iE_a:IHE CX G a)(iE_b:IHE CX G b):IHE CX G (.and a b):=by
  intro e E sc N all X o h;unfold aZ at h;split at h
  ·rw[aj]at h
   exact Fo (iE_a _ o h.1) (Fg (iE_b _ o h.2))
  ·rw[aj]at h
   exact Fo (iE_a _ o h.1) (iE_b _ o h.2)
  ·cases h
theorem sE_or(hCX:HX CX){a:CE}{b:CE}(iE_a:IHE CX G a)(iE_b:IHE CX G b):IHE CX G (.or a b):=by
  intro e E sc N all X o h;unfold aZ at h;split at h
  ·rw[aj]at h
   exact pe_or (iE_a _ o h.1) (Fg (iE_b _ o h.2))
  ·rw[aj]at h
   exact pe_or (iE_a _ o h.1) (iE_b _ o h.2)
  ·cases h
theorem sE_ite(hCX:HX CX){c:CE}{a:CE}{b:CE}(iT_c:IHT CX G c)(iE_a:IHE CX G a)(iE_b:IHE CX G b):IHE CX G (.ite c a b):=by
  intro e E sc N all X o h;unfold aZ at h;split at h
  ·obtain⟨h1,h2,h3⟩:=iL h
   exact Fj (iT_c _ o h1) (iE_a _ o h2) (iE_b _ o h3)
  ·cases h
theorem sE_idx(hCX:HX CX){a:CE}{i:CE}(iE_a:IHE CX G a)(iE_i:IHE CX G i):IHE CX G (.idx a i):=by
  intro e E sc N all X o h;unfold aZ at h;split at h
  ·obtain⟨h1,h2,h3⟩:=iL h
   exact Fh FY (iE_a _ o h2) (iE_i _ o h3) (rh (mT h1))
  ·cases h
theorem sE_cut(hCX:HX CX){a:CE}{lo:CO}{hi:CO}(iE_a:IHE CX G a)(iO_lo:IHO CX G lo)(iO_hi:IHO CX G hi):IHE CX G (.cut a lo hi):=by
  intro e E sc N all X o h;unfold aZ at h;split at h
  ·obtain⟨h1,h2,h3⟩:=iL h
   exact Ff rSlc_ok (iE_a _ o h1) (iO_lo _ o h2) (iO_hi _ o h3)
  ·cases h
theorem sE_tup(hCX:HX CX){es:CL}(iL_es:IHL CX G es):IHE CX G (.tup es):=by
  intro e E sc N all X o h;unfold aZ at h;split at h
  ·skip
   exact pe_tup (iL_es _ o h)
  ·cases h
theorem sE_lst(hCX:HX CX){es:CL}(iL_es:IHL CX G es):IHE CX G (.lst es):=by
  intro e E sc N all X o h;unfold aZ at h;split at h
  ·skip
   exact pe_lst (iL_es _ o h)
  ·cases h
theorem sE_call(hCX:HX CX){f:Str}{es:CL}(iL_es:IHL CX G es):IHE CX G (.call f es):=by
  intro e E sc N all X o h;unfold aZ at h;split at h
  ·rename_i f' np es' pos
   rw[aj]at h;obtain⟨h,h4⟩:=h;obtain⟨h1,h2,h3⟩:=iL h;rw[decide_eq_true_eq]at h1;subst h1;intro pins s σ H Q I hw;obtain⟨sp,dvs,hf,hw⟩:=hw;obtain⟨fa,fd,ps,ds,k,F,hr,hm,hk,hb,hd⟩:=o.fn _ _ _ _ hf;cases es with
   |nil=>
    have e0:=fW h4;subst e0;exact ur F hr (o.gl h2) hm hk hb hd o.pass (gG h3).1 pins s σ H Q I hw
   |cons c r=>
    have hL:=iL_es _ o h4;obtain⟨e1,r1,rfl,g1,g2⟩:=eS h4;exact xP F hr (o.gl h2) hm hk hb hd o.pass hL (gG h3).1 (bB g1 _ _) (fj g2 _ _) pins s σ H Q I hw
  ·cases h
theorem sE_bfn(hCX:HX CX){b:Bf}{es:CL}(iL_es:IHL CX G es):IHE CX G (.bfn b es):=by
  intro e E sc N all X o h;unfold aZ at h;split at h
  ·rename_i f' np e1 es' pos
   obtain⟨h1,h2,h3⟩:=iL h;rw[decide_eq_true_eq]at h1;subst h1;have hL:=iL_es _ o h3;have hs:bc (e1::es') X.env=(false,eval e1 X.env)::bc es' X.env/\(backTo pos (bc es' X.env)).any (·.1)=false:=by
    cases es with
    |nil=>exact absurd (fW h3) (by simp)
    |cons c r=>
     obtain⟨e1',r1,q,g1,g2⟩:=eS h3;cases q;exact⟨bB g1 _ _,fj g2 _ _⟩
   have hB:=EY (X:=X) o.calm o.hu b;have hv:=b.boot;cases b with
   |list=>exact gQ hB (o.gl h2) (o.blt _ (Bf.mem _)) hv hL (Bf.plain _).1 (Bf.plain _).2 hs.1 hs.2
   |tuple=>exact gQ hB (o.gl h2) (o.blt _ (Bf.mem _)) hv hL (Bf.plain _).1 (Bf.plain _).2 hs.1 hs.2
   |len=>exact dq hB (o.gl h2) (o.blt _ (Bf.mem _)) hv hL (Bf.plain _).1 (Bf.plain _).2 hs.1 hs.2
   |isinstance=>exact dq hB (o.gl h2) (o.blt _ (Bf.mem _)) hv hL (Bf.plain _).1 (Bf.plain _).2 hs.1 hs.2
   |all=>exact dq hB (o.gl h2) (o.blt _ (Bf.mem _)) hv hL (Bf.plain _).1 (Bf.plain _).2 hs.1 hs.2
   |any=>exact dq hB (o.gl h2) (o.blt _ (Bf.mem _)) hv hL (Bf.plain _).1 (Bf.plain _).2 hs.1 hs.2
   |set=>exact gQ hB (o.gl h2) (o.blt _ (Bf.mem _)) hv hL (Bf.plain _).1 (Bf.plain _).2 hs.1 hs.2
   |min=>exact dq hB (o.gl h2) (o.blt _ (Bf.mem _)) hv hL (Bf.plain _).1 (Bf.plain _).2 hs.1 hs.2
   |lend=>exact dq hB (o.gl h2) (o.blt _ (Bf.mem _)) hv hL (Bf.plain _).1 (Bf.plain _).2 hs.1 hs.2
   |sortl=>exact dq hB (o.gl h2) (o.blt _ (Bf.mem _)) hv hL (Bf.plain _).1 (Bf.plain _).2 hs.1 hs.2
   |sortt=>exact dq hB (o.gl h2) (o.blt _ (Bf.mem _)) hv hL (Bf.plain _).1 (Bf.plain _).2 hs.1 hs.2
   |minl=>exact dq hB (o.gl h2) (o.blt _ (Bf.mem _)) hv hL (Bf.plain _).1 (Bf.plain _).2 hs.1 hs.2
   |maxl=>exact dq hB (o.gl h2) (o.blt _ (Bf.mem _)) hv hL (Bf.plain _).1 (Bf.plain _).2 hs.1 hs.2
   |int=>exact gQ hB (o.gl h2) (o.blt _ (Bf.mem _)) hv hL (Bf.plain _).1 (Bf.plain _).2 hs.1 hs.2
  ·cases h
theorem EM(hCX:HX CX){m:Mm}{b:CE}{a:CE}(iE_b:IHE CX G b)(iE_a:IHE CX G a):IHE CX G (.meth1 m b a):=by
  intro e E sc N all X o h;unfold aZ at h;split at h
  ·rename_i o' nm ap a' cp
   simp only[aj,decide_eq_true_eq]at h;obtain⟨⟨⟨⟨h1,h2⟩,h3⟩,h4⟩,h5⟩:=h;subst h1;exact Fn xl m.slot m.ty (rMm_ok m) (iE_b _ o h4) (fg (iE_a _ o h5) ja (bB h5 _ _)) (wN h3 _ _ _) (by rw[bB h5];rfl) h2 (bB h5 _ _) rfl
  ·cases h
theorem sE_idxd(hCX:HX CX){a:CE}{i:CE}(iE_a:IHE CX G a)(iE_i:IHE CX G i):IHE CX G (.idxd a i):=by
  intro e E sc N all X o h;unfold aZ at h;split at h
  ·obtain⟨h1,h2,h3⟩:=iL h
   exact Fh (ix_dict (by have :=o.hu;omega)) (iE_a _ o h2) (iE_i _ o h3) (rh (mT h1))
  ·cases h
theorem sT_idxd(hCX:HX CX){a i:CE}:IHT CX G (.idxd a i):=by
  intro _ _ _ _ _ _ _ _;exact fun _ _ _ _ _ _ z=>z.elim
theorem sW_idxd(hCX:HX CX){a i:CE}:IHW CX G (.idxd a i):=by
  intro _ _ _ _ _ _ _ _ _ h;exact absurd h (by simp[aZ])
theorem sE_dicT(hCX:HX CX):IHE CX G .dicT:=by
  intro e E sc N all X o h;unfold aZ at h;split at h
  ·exact Fk
  ·cases h
theorem sT_dicT(hCX:HX CX):IHT CX G .dicT:=by
  intro _ _ _ _ _ _ _ _;exact fun _ _ _ _ _ _ z=>z.elim
theorem sW_dicT(hCX:HX CX):IHW CX G .dicT:=by
  intro _ _ _ _ _ _ _ _ _ h;exact absurd h (by simp[aZ])
theorem sE_setd(hCX:HX CX){b a c:CE}(iE_b:IHE CX G b)(iE_a:IHE CX G a)(iE_c:IHE CX G c):IHE CX G (.setd b a c):=by
  intro e E sc N all X o h;unfold aZ at h;split at h
  ·rename_i o' nm ap a' b' cp
   simp only[aj,decide_eq_true_eq]at h;obtain⟨⟨⟨⟨⟨h1,h2⟩,h3⟩,h4⟩,h5⟩,h6⟩:=h;subst h1;exact Fn PySem.F.plainAttrs_dict sP PySem.F.type_dict_setdefault (CQ (by have :=o.hu;omega)) (iE_b _ o h4) (fg (iE_a _ o h5) (fg (iE_c _ o h6) ja (bB h6 _ _)) (bB h5 _ _)) (wN h3 _ _ _) (by rw[bB h5,bB h6];rfl) h2 (bB h5 _ _) (by rw[bB h6];rfl)
  ·cases h
theorem sT_setd(hCX:HX CX){a b c:CE}:IHT CX G (.setd a b c):=by
  intro _ _ _ _ _ _ _ _;exact fun _ _ _ _ _ _ z=>z.elim
theorem sW_setd(hCX:HX CX){a b c:CE}:IHW CX G (.setd a b c):=by
  intro _ _ _ _ _ _ _ _ _ h;exact absurd h (by simp[aZ])
theorem sE_ins(hCX:HX CX){b a c:CE}(iE_b:IHE CX G b)(iE_a:IHE CX G a)(iE_c:IHE CX G c):IHE CX G (.ins b a c):=by
  intro e E sc N all X o h;unfold aZ at h;split at h
  ·rename_i o' nm ap a' b' cp
   simp only[aj,decide_eq_true_eq]at h;obtain⟨⟨⟨⟨⟨h1,h2⟩,h3⟩,h4⟩,h5⟩,h6⟩:=h;subst h1;exact Fn xl PySem.F.slot_list_insert PySem.F.type_list_insert CU (iE_b _ o h4) (fg (iE_a _ o h5) (fg (iE_c _ o h6) ja (bB h6 _ _)) (bB h5 _ _)) (wN h3 _ _ _) (by rw[bB h5,bB h6];rfl) h2 (bB h5 _ _) (by rw[bB h6];rfl)
  ·cases h
theorem sT_ins(hCX:HX CX){a b c:CE}:IHT CX G (.ins a b c):=by
  intro _ _ _ _ _ _ _ _;exact fun _ _ _ _ _ _ z=>z.elim
theorem sW_ins(hCX:HX CX){a b c:CE}:IHW CX G (.ins a b c):=by
  intro _ _ _ _ _ _ _ _ _ h;exact absurd h (by simp[aZ])
theorem yL{sc:Scope}{N:List Str}{l:CL}{es:List Expr}(h:ku sc N l es=true)(hl:l.len<29)(env:Env)(pos:Pos):((backTo pos (bc es env)).all (fun x=> !x.1)&&(w8 pos (lY [] env)).all (fun x=>x.1.isSome)
   &&decide (es.length+([]:List Keyword).length+(if([]:List Keyword).isEmpty then 0 else 1)<30))=true:=by
 have h1:=fj h env pos;rw[aj,aj];refine⟨⟨?_,rfl⟩,?_⟩
 ·rw[List.any_eq_false]at h1
  exact bD.mpr fun x hx=>by simpa using h1 x hx
 ·rw[decide_eq_true_eq,yK h]
  exact fP hl (by decide)
theorem sE_divb(hCX:HX CX){a b:CE}(iE_a:IHE CX G a)(iE_b:IHE CX G b):IHE CX G (.divb a b):=by
  intro e E sc N all X o h;unfold aZ at h;split at h
  ·rw[aj]at h
   exact pe_op op_divb (iE_a _ o h.1) (iE_b _ o h.2)
  ·cases h
theorem sT_divb(hCX:HX CX){a b:CE}:IHT CX G (.divb a b):=by
  intro _ _ _ _ _ _ _ _;exact fun _ _ _ _ _ _ z=>z.elim
theorem sW_divb(hCX:HX CX){a b:CE}:IHW CX G (.divb a b):=by
  intro _ _ _ _ _ _ _ _ _ h;exact absurd h (by simp[aZ])
theorem sE_rev(hCX:HX CX){a:CE}(iE_a:IHE CX G a):IHE CX G (.rev a):=by
  intro e E sc N all X o h;unfold aZ at h;split at h
  ·exact pe_rev (iE_a _ o h) Cv
  ·cases h
theorem sT_rev(hCX:HX CX){a:CE}:IHT CX G (.rev a):=by
  intro _ _ _ _ _ _ _ _;exact fun _ _ _ _ _ _ z=>z.elim
theorem sW_rev(hCX:HX CX){a:CE}:IHW CX G (.rev a):=by
  intro _ _ _ _ _ _ _ _ _ h;exact absurd h (by simp[aZ])
theorem sE_lrng(hCX:HX CX){a:CE}(iE_a:IHE CX G a):IHE CX G (.lrng a):=by
  intro e E sc N all X o h;unfold aZ at h;split at h
  ·simp only[aj,decide_eq_true_eq]at h
   obtain⟨⟨⟨⟨h1,h2⟩,h3⟩,h4⟩,h5⟩:=h;subst h1 h2;exact pe_lrng o.calm (o.gl h4) (o.blt _ (by decide+kernel)) (o.gl h3) (o.blt _ (by decide+kernel)) (fg (iE_a _ o h5) ja (bB h5 _ _)) (bB h5 _ _)
  ·cases h
theorem sT_lrng(hCX:HX CX){a:CE}:IHT CX G (.lrng a):=by
  intro _ _ _ _ _ _ _ _;exact fun _ _ _ _ _ _ z=>z.elim
theorem sW_lrng(hCX:HX CX){a:CE}:IHW CX G (.lrng a):=by
  intro _ _ _ _ _ _ _ _ _ h;exact absurd h (by simp[aZ])
theorem zX(hCX:HX CX){a:CE}(iE_a:IHE CX G a):IHE CX G (.sortset a):=by
  intro e E sc N all X o h;unfold aZ at h;split at h
  ·simp only[aj,decide_eq_true_eq]at h
   obtain⟨⟨⟨⟨h1,h2⟩,h3⟩,h4⟩,h5⟩:=h;subst h1 h2;exact Aa o.calm (o.gl h3) (o.blt _ (by decide+kernel)) (o.gl h4) (o.blt _ (by decide+kernel)) (fg (iE_a _ o h5) ja (bB h5 _ _)) (bB h5 _ _)
  ·cases h
theorem sE_lzip(hCX:HX CX){a b:CE}(iE_a:IHE CX G a)(iE_b:IHE CX G b):IHE CX G (.lzip a b):=by
  intro e E sc N all X o h;unfold aZ at h;split at h
  ·simp only[aj,decide_eq_true_eq]at h
   obtain⟨⟨⟨⟨⟨h1,h2⟩,h3⟩,h4⟩,h5⟩,h6⟩:=h;subst h1 h2;exact pe_lzip o.calm (o.gl h4) (o.blt _ (by decide+kernel)) (o.gl h3) (o.blt _ (by decide+kernel)) (fg (iE_a _ o h5) (fg (iE_b _ o h6) ja (bB h6 _ _)) (bB h5 _ _)) (bB h5 _ _) (by rw[bB h6];rfl)
  ·cases h
theorem sE_mak(hCX:HX CX){x:Str}:IHE CX G (.mak x):=by
  intro e E sc N all X o h;unfold aZ at h;split at h
  ·simp only[aj,decide_eq_true_eq]at h
   obtain⟨⟨h1,h2⟩,h3⟩:=h;subst h1;intro pins s σ H Q I hw;obtain⟨C,sp,dvs,hv,hw⟩:=hw;obtain⟨f',fd,ps,ds,k,hM,F,hr,hu,hb,hd⟩:=o.mak _ _ _ _ _ hv;exact Cw hM F hr (o.gl h2) hu hb hd o.pass (gG h3).1 pins s σ H Q I hw
  ·cases h
theorem sE_mth(hCX:HX CX){a:CE}{m:Str}{es:CL}(iE_a:IHE CX G a)(iL_es:IHL CX G es):IHE CX G (.mth a m es):=by
  intro e E sc N all X o h;unfold aZ at h;split at h
  ·rename_i n np m' ap es' cp
   simp only[aj,decide_eq_true_eq]at h;obtain⟨⟨⟨⟨h1,h2⟩,h3⟩,h4⟩,h5⟩:=h;subst h1;intro pins s σ H Q I hw;obtain⟨C,sp,dvs,hv,hw⟩:=hw;obtain⟨f',fd,ps,ds,k,c,hM,F,hr,hb,hd⟩:=o.mth _ _ _ _ _ hv;cases es with
   |nil=>
    obtain rfl:=fW h5;exact uo (iE_a _ o h4) c hM F hr hb hd o.pass rfl h2 pins s σ H Q I hw
   |cons c0 r=>
    obtain⟨e1',r1,rfl,g1,g2⟩:=eS h5;exact xO (iE_a _ o h4) c hM F hr hb hd o.pass (iL_es _ o h5) rfl (bB g1 _ _) (fj g2 _ _) (yL h5 h3 _ _) h2 pins s σ H Q I hw
  ·rename_i n np a1 as p2 m' ap es' cp
   simp only[aj,decide_eq_true_eq]at h;obtain⟨⟨⟨⟨h1,h2⟩,h3⟩,h4⟩,h5⟩:=h;subst h1;intro pins s σ H Q I hw;obtain⟨C,sp,dvs,hv,hw⟩:=hw;obtain⟨f',fd,ps,ds,k,c,hM,F,hr,hb,hd⟩:=o.mth _ _ _ _ _ hv;cases es with
   |nil=>
    obtain rfl:=fW h5;exact uo (iE_a _ o h4) c hM F hr hb hd o.pass rfl h2 pins s σ H Q I hw
   |cons c0 r=>
    obtain⟨e1',r1,rfl,g1,g2⟩:=eS h5;exact xO (iE_a _ o h4) c hM F hr hb hd o.pass (iL_es _ o h5) rfl (bB g1 _ _) (fj g2 _ _) (yL h5 h3 _ _) h2 pins s σ H Q I hw
  ·cases h
theorem sE_fldI(hCX:HX CX){a:CE}{f:Str}(iE_a:IHE CX G a):IHE CX G (.fldI a f):=by
  intro e E sc N all X o h;unfold aZ at h;split at h
  ·simp only[aj,decide_eq_true_eq]at h
   obtain⟨h1,h2⟩:=h;subst h1;exact pe_fld (iE_a _ o h2) rfl
  ·cases h
theorem sT_mak(hCX:HX CX){x:Str}:IHT CX G (.mak x):=by
  intro _ _ _ _ _ _ _ _;exact fun _ _ _ _ _ _ z=>z.elim
theorem sW_mak(hCX:HX CX){x:Str}:IHW CX G (.mak x):=by
  intro _ _ _ _ _ _ _ _ _ h;exact absurd h (by simp[aZ])
theorem sT_mth(hCX:HX CX){a:CE}{m:Str}{es:CL}:IHT CX G (.mth a m es):=by
  intro _ _ _ _ _ _ _ _;exact fun _ _ _ _ _ _ z=>z.elim
theorem sW_mth(hCX:HX CX){a:CE}{m:Str}{es:CL}:IHW CX G (.mth a m es):=by
  intro _ _ _ _ _ _ _ _ _ h;exact absurd h (by simp[aZ])
theorem sT_fldI(hCX:HX CX){a:CE}{f:Str}:IHT CX G (.fldI a f):=by
  intro _ _ _ _ _ _ _ _;exact fun _ _ _ _ _ _ z=>z.elim
theorem sW_fldI(hCX:HX CX){a:CE}{f:Str}:IHW CX G (.fldI a f):=by
  intro _ _ _ _ _ _ _ _ _ h;exact absurd h (by simp[aZ])
theorem zW(hCX:HX CX){a:CE}:IHT CX G (.sortset a):=by
  intro _ _ _ _ _ _ _ _;exact fun _ _ _ _ _ _ z=>z.elim
theorem sT_lzip(hCX:HX CX){a b:CE}:IHT CX G (.lzip a b):=by
  intro _ _ _ _ _ _ _ _;exact fun _ _ _ _ _ _ z=>z.elim
theorem zV(hCX:HX CX){a:CE}:IHW CX G (.sortset a):=by
  intro _ _ _ _ _ _ _ _ _ h;exact absurd h (by simp[aZ])
theorem sW_lzip(hCX:HX CX){a b:CE}:IHW CX G (.lzip a b):=by
  intro _ _ _ _ _ _ _ _ _ h;exact absurd h (by simp[aZ])
theorem sE_comp(hCX:HX CX){own:List Str}{fr:List Nat}{tg:CG}{it:CI}{cond:CO}{elt:CE}(iI_it:IHI CX G it)(iG_tg:IHG CX G tg)(iC_cond:IHC CX G cond)(iE_elt:IHE CX G elt):IHE CX G (.comp own fr tg it cond elt):=by
  intro e E sc N all X o h;unfold aZ at h;split at h
  ·rename_i elt' tg' it' ifs' sc' pos
   simp only[aj]at h;obtain⟨⟨⟨⟨⟨h1,h2⟩,h3⟩,h4⟩,h5⟩,h6⟩:=h;have S:=qY h1;exact pe_comp (S.comp o) (S.mkOk o) o.calm (iI_it _ _ o h3)
    (fun C s₀ H₀ fp _=>⟨iG_tg _ (o.comp hCX S C s₀ H₀ fp) h4,iC_cond _ (o.comp hCX S C s₀ H₀ fp) h5,iE_elt _ (o.comp hCX S C s₀ H₀ fp) h6⟩) (we (mT h2) _)
  ·cases h
theorem sT_cmp(hCX:HX CX){op:CmpOp}{a:CE}{b:CE}(iE_a:IHE CX G a)(iE_b:IHE CX G b):IHT CX G (.cmp op a b):=by
  intro e E sc N all X o h;unfold aZ at h;split at h
  ·rw[aj]at h
   obtain⟨h,h4⟩:=h;obtain⟨h1,h2,h3⟩:=iL h;rw[decide_eq_true_eq]at h1;subst h1;exact pt_cmpR (lN o.hu op) (iE_a _ o h3) (iE_b _ o h4) (lR (mT h2) op)
  ·cases h
theorem EG(hCX:HX CX){o1:CmpOp}{o2:CmpOp}{a:CE}{b:CE}{c:CE}(iE_a:IHE CX G a)(iE_b:IHE CX G b)(iE_c:IHE CX G c):IHT CX G (.chain o1 o2 a b c):=by
  intro e E sc N all X o h;unfold aZ at h;split at h
  ·simp only[aj,decide_eq_true_eq]at h
   obtain⟨⟨⟨⟨⟨h1,h2⟩,h3⟩,h4⟩,h5⟩,h6⟩:=h;subst h1 h2;exact E3 (lN o.hu o1) (lN o.hu o2) (iE_a _ o h4) (iE_b _ o h5) (iE_c _ o h6) (lR (mT h3) o2)
  ·cases h
theorem sT_not(hCX:HX CX){a:CE}(iT_a:IHT CX G a):IHT CX G (.not a):=by
  intro e E sc N all X o h;unfold aZ at h;split at h
  ·skip
   exact pt_not (iT_a _ o h)
  ·cases h
theorem sT_and(hCX:HX CX){a:CE}{b:CE}(iT_a:IHT CX G a)(iT_b:IHT CX G b)(iW_b:IHW CX G b):IHT CX G (.and a b):=by
  intro e E sc N all X o h;unfold aZ at h;split at h
  ·rw[aj]at h
   exact(vS (iT_a _ o h.1) (Bc (iT_b _ o h.2))).pt
  ·rw[aj]at h
   exact(vS (iT_a _ o h.1) (iW_b _ _ _ o h.2)).pt
  ·cases h
theorem sT_or(hCX:HX CX){a:CE}{b:CE}(iT_a:IHT CX G a)(iT_b:IHT CX G b)(iW_b:IHW CX G b):IHT CX G (.or a b):=by
  intro e E sc N all X o h;unfold aZ at h;split at h
  ·rw[aj]at h
   exact(Bb (iT_a _ o h.1) (EZ (iT_b _ o h.2))).pt
  ·rw[aj]at h
   exact(Bb (iT_a _ o h.1) (iW_b _ _ _ o h.2)).pt
  ·cases h
theorem sT_var(hCX:HX CX){i:Nat}:IHT CX G (.var i):=by
  intro e E sc N all X o h;have hv:=h;unfold aZ at h;split at h
  ·obtain⟨h1,h2,h3⟩:=iL h
   obtain⟨d1,d2⟩:=gG h3;exact nN (Fd (by rw[o.names];exact beq_iff_eq.mp h1) (o.vis h2) d1 d2) fun _=>rfl
  ·cases h
theorem sT_con(hCX:HX CX){c:Const}:IHT CX G (.con c):=by
  intro e E sc N all X o h;have q:=EN hCX e o h;unfold aZ at h;split at h
  ·skip
   skip
   exact nN q fun _=>rfl
  ·cases h
theorem sT_glo(hCX:HX CX){x:Str}:IHT CX G (.glo x):=by
  intro e E sc N all X o h;unfold aZ at h;split at h
  ·obtain⟨h1,h2,h3⟩:=iL h
   rw[decide_eq_true_eq]at h1;subst h1;refine z7 ?_ (fun _=>rfl);intro pins s σ H Q I hw;obtain⟨v,hv,q⟩:=hw;obtain⟨u,hu,r⟩:=o.val _ _ hv;exact Bh (o.gl h2) hu r (gG h3).1 pins s σ H Q I q
  ·cases h
theorem sT_idx(hCX:HX CX){a:CE}{i:CE}(iE_a:IHE CX G a)(iE_i:IHE CX G i):IHT CX G (.idx a i):=by
  intro e E sc N all X o h;unfold aZ at h;split at h
  ·obtain⟨h1,h2,h3⟩:=iL h
   exact nN (Fh FY (iE_a _ o h2) (iE_i _ o h3) (rh (mT h1))) fun _=>rfl
  ·cases h
theorem sT_call(hCX:HX CX){f:Str}{es:CL}(iL_es:IHL CX G es):IHT CX G (.call f es):=by
  intro e E sc N all X o h;unfold aZ at h;split at h
  ·rename_i f' np es' pos
   rw[aj]at h;obtain⟨h,h4⟩:=h;obtain⟨h1,h2,h3⟩:=iL h;rw[decide_eq_true_eq]at h1;subst h1;refine z7 ?_ (fun _=>rfl);intro pins s σ H Q I hw;obtain⟨sp,dvs,hf,hw⟩:=hw;obtain⟨fa,fd,ps,ds,k,F,hr,hm,hk,hb,hd⟩:=o.fn _ _ _ _ hf;cases es with
   |nil=>
    have e0:=fW h4;subst e0;exact ur F hr (o.gl h2) hm hk hb hd o.pass (gG h3).1 pins s σ H Q I hw
   |cons c r=>
    have hL:=iL_es _ o h4;obtain⟨e1,r1,rfl,g1,g2⟩:=eS h4;exact xP F hr (o.gl h2) hm hk hb hd o.pass hL (gG h3).1 (bB g1 _ _) (fj g2 _ _) pins s σ H Q I hw
  ·cases h
theorem sT_bfn(hCX:HX CX){b:Bf}{es:CL}(iL_es:IHL CX G es):IHT CX G (.bfn b es):=by
  intro e E sc N all X o h;unfold aZ at h;split at h
  ·rename_i f' np e1 es' pos
   obtain⟨h1,h2,h3⟩:=iL h;rw[decide_eq_true_eq]at h1;subst h1;have hL:=iL_es _ o h3;have hs:bc (e1::es') X.env=(false,eval e1 X.env)::bc es' X.env/\(backTo pos (bc es' X.env)).any (·.1)=false:=by
    cases es with
    |nil=>exact absurd (fW h3) (by simp)
    |cons c r=>
     obtain⟨e1',r1,q,g1,g2⟩:=eS h3;cases q;exact⟨bB g1 _ _,fj g2 _ _⟩
   have hB:=EY (X:=X) o.calm o.hu b;have hv:=b.boot;refine z7 ?_ (fun _=>rfl);cases b with
   |list=>exact gQ hB (o.gl h2) (o.blt _ (Bf.mem _)) hv hL (Bf.plain _).1 (Bf.plain _).2 hs.1 hs.2
   |tuple=>exact gQ hB (o.gl h2) (o.blt _ (Bf.mem _)) hv hL (Bf.plain _).1 (Bf.plain _).2 hs.1 hs.2
   |len=>exact dq hB (o.gl h2) (o.blt _ (Bf.mem _)) hv hL (Bf.plain _).1 (Bf.plain _).2 hs.1 hs.2
   |isinstance=>exact dq hB (o.gl h2) (o.blt _ (Bf.mem _)) hv hL (Bf.plain _).1 (Bf.plain _).2 hs.1 hs.2
   |all=>exact dq hB (o.gl h2) (o.blt _ (Bf.mem _)) hv hL (Bf.plain _).1 (Bf.plain _).2 hs.1 hs.2
   |any=>exact dq hB (o.gl h2) (o.blt _ (Bf.mem _)) hv hL (Bf.plain _).1 (Bf.plain _).2 hs.1 hs.2
   |set=>exact gQ hB (o.gl h2) (o.blt _ (Bf.mem _)) hv hL (Bf.plain _).1 (Bf.plain _).2 hs.1 hs.2
   |min=>exact dq hB (o.gl h2) (o.blt _ (Bf.mem _)) hv hL (Bf.plain _).1 (Bf.plain _).2 hs.1 hs.2
   |lend=>exact dq hB (o.gl h2) (o.blt _ (Bf.mem _)) hv hL (Bf.plain _).1 (Bf.plain _).2 hs.1 hs.2
   |sortl=>exact dq hB (o.gl h2) (o.blt _ (Bf.mem _)) hv hL (Bf.plain _).1 (Bf.plain _).2 hs.1 hs.2
   |sortt=>exact dq hB (o.gl h2) (o.blt _ (Bf.mem _)) hv hL (Bf.plain _).1 (Bf.plain _).2 hs.1 hs.2
   |minl=>exact dq hB (o.gl h2) (o.blt _ (Bf.mem _)) hv hL (Bf.plain _).1 (Bf.plain _).2 hs.1 hs.2
   |maxl=>exact dq hB (o.gl h2) (o.blt _ (Bf.mem _)) hv hL (Bf.plain _).1 (Bf.plain _).2 hs.1 hs.2
   |int=>exact gQ hB (o.gl h2) (o.blt _ (Bf.mem _)) hv hL (Bf.plain _).1 (Bf.plain _).2 hs.1 hs.2
  ·cases h
theorem sT_ite(hCX:HX CX){c:CE}{a:CE}{b:CE}:IHT CX G (.ite c a b):=by
  intro _ _ _ _ _ _ _ _;exact fun _ _ _ _ _ _ z=>z.elim
theorem sT_ty(hCX:HX CX){t:Ty}:IHT CX G (.ty t):=by
  intro _ _ _ _ _ _ _ _;exact fun _ _ _ _ _ _ z=>z.elim
theorem sT_bin(hCX:HX CX){op:Operator}{a:CE}{b:CE}:IHT CX G (.bin op a b):=by
  intro _ _ _ _ _ _ _ _;exact fun _ _ _ _ _ _ z=>z.elim
theorem sT_un(hCX:HX CX){op:BX}{a:CE}:IHT CX G (.un op a):=by
  intro _ _ _ _ _ _ _ _;exact fun _ _ _ _ _ _ z=>z.elim
theorem sT_cut(hCX:HX CX){a:CE}{lo:CO}{hi:CO}:IHT CX G (.cut a lo hi):=by
  intro _ _ _ _ _ _ _ _;exact fun _ _ _ _ _ _ z=>z.elim
theorem sT_tup(hCX:HX CX){es:CL}:IHT CX G (.tup es):=by
  intro _ _ _ _ _ _ _ _;exact fun _ _ _ _ _ _ z=>z.elim
theorem sT_lst(hCX:HX CX){es:CL}:IHT CX G (.lst es):=by
  intro _ _ _ _ _ _ _ _;exact fun _ _ _ _ _ _ z=>z.elim
theorem EF(hCX:HX CX){m:Mm}{b:CE}{a:CE}:IHT CX G (.meth1 m b a):=by
  intro _ _ _ _ _ _ _ _;exact fun _ _ _ _ _ _ z=>z.elim
theorem sT_comp(hCX:HX CX){own:List Str}{fr:List Nat}{tg:CG}{it:CI}{cond:CO}{elt:CE}:IHT CX G (.comp own fr tg it cond elt):=by
  intro _ _ _ _ _ _ _ _;exact fun _ _ _ _ _ _ z=>z.elim
theorem sW_and(hCX:HX CX){a:CE}{b:CE}(iT_a:IHT CX G a)(iT_b:IHT CX G b)(iW_b:IHW CX G b):IHW CX G (.and a b):=by
  intro op es pos E sc N all X o h;unfold aZ at h;split at h
  ·rename_i heq
   cases heq;rw[aj]at h;exact vS (iT_a _ o h.1) (Bc (iT_b _ o h.2))
  ·rename_i heq
   cases heq;rw[aj]at h;exact vS (iT_a _ o h.1) (iW_b _ _ _ o h.2)
  ·cases h
theorem sW_or(hCX:HX CX){a:CE}{b:CE}(iT_a:IHT CX G a)(iT_b:IHT CX G b)(iW_b:IHW CX G b):IHW CX G (.or a b):=by
  intro op es pos E sc N all X o h;unfold aZ at h;split at h
  ·rename_i heq
   cases heq;rw[aj]at h;exact Bb (iT_a _ o h.1) (EZ (iT_b _ o h.2))
  ·rename_i heq
   cases heq;rw[aj]at h;exact Bb (iT_a _ o h.1) (iW_b _ _ _ o h.2)
  ·cases h
theorem sW_var(hCX:HX CX){i:Nat}:IHW CX G (.var i):=by
  intro _ _ _ _ _ _ _ _ _ h;exact absurd h (by simp[aZ])
theorem sW_con(hCX:HX CX){c:Const}:IHW CX G (.con c):=by
  intro _ _ _ _ _ _ _ _ _ h;exact absurd h (by simp[aZ])
theorem sW_glo(hCX:HX CX){x:Str}:IHW CX G (.glo x):=by
  intro _ _ _ _ _ _ _ _ _ h;exact absurd h (by simp[aZ])
theorem sW_ty(hCX:HX CX){t:Ty}:IHW CX G (.ty t):=by
  intro _ _ _ _ _ _ _ _ _ h;exact absurd h (by simp[aZ])
theorem sW_bin(hCX:HX CX){op:Operator}{a:CE}{b:CE}:IHW CX G (.bin op a b):=by
  intro _ _ _ _ _ _ _ _ _ h;exact absurd h (by simp[aZ])
theorem sW_un(hCX:HX CX){op:BX}{a:CE}:IHW CX G (.un op a):=by
  intro _ _ _ _ _ _ _ _ _ h;exact absurd h (by simp[aZ])
theorem sW_cmp(hCX:HX CX){op:CmpOp}{a:CE}{b:CE}:IHW CX G (.cmp op a b):=by
  intro _ _ _ _ _ _ _ _ _ h;exact absurd h (by simp[aZ])
theorem EE(hCX:HX CX){o1:CmpOp}{o2:CmpOp}{a:CE}{b:CE}{c:CE}:IHW CX G (.chain o1 o2 a b c):=by
  intro _ _ _ _ _ _ _ _ _ h;exact absurd h (by simp[aZ])
theorem sW_not(hCX:HX CX){a:CE}:IHW CX G (.not a):=by
  intro _ _ _ _ _ _ _ _ _ h;exact absurd h (by simp[aZ])
theorem sW_ite(hCX:HX CX){c:CE}{a:CE}{b:CE}:IHW CX G (.ite c a b):=by
  intro _ _ _ _ _ _ _ _ _ h;exact absurd h (by simp[aZ])
theorem sW_idx(hCX:HX CX){a:CE}{i:CE}:IHW CX G (.idx a i):=by
  intro _ _ _ _ _ _ _ _ _ h;exact absurd h (by simp[aZ])
theorem sW_cut(hCX:HX CX){a:CE}{lo:CO}{hi:CO}:IHW CX G (.cut a lo hi):=by
  intro _ _ _ _ _ _ _ _ _ h;exact absurd h (by simp[aZ])
theorem sW_tup(hCX:HX CX){es:CL}:IHW CX G (.tup es):=by
  intro _ _ _ _ _ _ _ _ _ h;exact absurd h (by simp[aZ])
theorem sW_lst(hCX:HX CX){es:CL}:IHW CX G (.lst es):=by
  intro _ _ _ _ _ _ _ _ _ h;exact absurd h (by simp[aZ])
theorem sW_call(hCX:HX CX){f:Str}{es:CL}:IHW CX G (.call f es):=by
  intro _ _ _ _ _ _ _ _ _ h;exact absurd h (by simp[aZ])
theorem sW_bfn(hCX:HX CX){b:Bf}{es:CL}:IHW CX G (.bfn b es):=by
  intro _ _ _ _ _ _ _ _ _ h;exact absurd h (by simp[aZ])
theorem ED(hCX:HX CX){m:Mm}{b:CE}{a:CE}:IHW CX G (.meth1 m b a):=by
  intro _ _ _ _ _ _ _ _ _ h;exact absurd h (by simp[aZ])
theorem sW_comp(hCX:HX CX){own:List Str}{fr:List Nat}{tg:CG}{it:CI}{cond:CO}{elt:CE}:IHW CX G (.comp own fr tg it cond elt):=by
  intro _ _ _ _ _ _ _ _ _ h;exact absurd h (by simp[aZ])
theorem sL_nil(hCX:HX CX):IHL CX G (.nil):=by
  intro es E sc N all X o h;rw[fW h];exact ja
theorem sL_cons(hCX:HX CX){c:CE}{r:CL}(iE_c:IHE CX G c)(iL_r:IHL CX G r):IHL CX G (.cons c r):=by
  intro es E sc N all X o h;obtain⟨e',r',rfl,h1,h2⟩:=eS h;exact fg (iE_c _ o h1) (iL_r _ o h2) (bB h1 _ _)
theorem sP_nil(hCX:HX CX):IHP CX G (.nil):=by
  intro ks vs E sc N all X o h pos;have q:ks=[]/\vs=[]:=by
   cases ks with
   |nil=>cases vs with
    |nil=>exact⟨rfl,rfl⟩
    |cons a b=>exact absurd h (by simp[GH])
   |cons a b=>exact absurd h (by simp[GH])
  obtain⟨rfl,rfl⟩:=q;exact⟨pps_nil,rfl,rfl,fun z=>absurd rfl z⟩
theorem sP_cons(hCX:HX CX){k:CE}{v:CE}{r:CP}(iP_r:IHP CX G r)(iE_k:IHE CX G k)(iE_v:IHE CX G v):IHP CX G (.cons k v r):=by
  intro ks vs E sc N all X o h pos;unfold GH at h;split at h
  ·obtain⟨h1,h2,h3⟩:=iL h
   obtain⟨p1,p2,p3,_⟩:=iP_r _ _ o h3 pos;exact⟨E8 (iE_k _ o h1) (iE_v _ o h2) p1,by simp[p2],by simp[p3],fun _=>by simp⟩
  ·cases h
theorem sO_no(hCX:HX CX):IHO CX G (.no):=by
  intro e E sc N all X o h;unfold GI at h;split at h
  ·exact po_none
  ·cases h
theorem sO_yes(hCX:HX CX){c:CE}(iE_c:IHE CX G c):IHO CX G (.yes c):=by
  intro e E sc N all X o h;unfold GI at h;split at h
  ·exact po_some (iE_c _ o h)
  ·cases h
theorem sC_no(hCX:HX CX):IHC CX G (.no):=by
  intro e E sc N all X o h;unfold chkC at h;split at h
  ·exact pts_nil
  ·cases h
theorem sC_yes(hCX:HX CX){c:CE}(iT_c:IHT CX G c):IHC CX G (.yes c):=by
  intro e E sc N all X o h;unfold chkC at h;split at h
  ·exact pts_one (iT_c _ o h)
  ·cases h
theorem sG_name(hCX:HX CX){i:Nat}:IHG CX G (.name i):=by
  intro e E sc N all X o h;unfold ma at h;split at h
  ·rename_i x p
   rw[aj,cS,beq_iff_eq,beq_iff_eq,beq_iff_eq]at h;obtain⟨h1,h2⟩:=h;refine Bg (by rw[o.names];exact o.nd) (by rw[o.names];exact h1) ?_ ?_
   ·rcases h2 with q|q
    ·exact .inl (o.loc x q)
    ·exact .inr (o.cel x q)
   ·rcases h2 with q|q
    ·exact .inr (o.loc x q)
    ·exact .inl (o.own x q)
  ·cases h
theorem sG_tup(hCX:HX CX){gs:CGs}(iGs_gs:G3 CX G gs):IHG CX G (.tup gs):=by
  intro e E sc N all X o h;unfold ma at h;split at h
  ·obtain⟨a,b⟩:=pU h X.env
   exact pg_tup o.calm (iGs_gs _ o h) a b
  ·cases h
theorem sG_sub(hCX:HX CX){ob:CE}{i:CE}(iE_ob:IHE CX G ob)(iE_i:IHE CX G i):IHG CX G (.sub ob i):=by
  intro e E sc N all X o h;unfold ma at h;split at h
  ·rename_i o' i' pos
   obtain⟨h1,h2,h3⟩:=iL h;refine pg_sub (iE_ob _ o h2) (iE_i _ o h3) set_list fun v=>?_;cases i'<;>first
    |rfl
    | (exact absurd h1 (by simp[lS]))
  ·cases h
theorem sGs_nil(hCX:HX CX):G3 CX G (.nil):=by
  intro es E sc N all X o h;rw[uN h];exact pgs_nil
theorem EK(hCX:HX CX){c:CG}{r:CGs}(iG_c:IHG CX G c)(iGs_r:G3 CX G r):G3 CX G (.cons c r):=by
  intro es E sc N all X o h;obtain⟨e',r',rfl,h1,h2⟩:=rZ h;exact Fb (iG_c _ o h1) (iGs_r _ o h2) (by rw[nR h1];rfl)
theorem sI_seq(hCX:HX CX){c:CE}(iE_c:IHE CX G c):IHI CX G (.seq c):=by
  intro e tg E sc N all X o h;unfold wD at h;exact pi_any (iE_c _ o h)
theorem sI_lseq(hCX:HX CX){c:CE}(iE_c:IHE CX G c):IHI CX G (.lseq c):=by
  intro e tg E sc N all X o h;unfold wD at h;exact pi_list (iE_c _ o h)
theorem sI_tseq(hCX:HX CX){c:CE}(iE_c:IHE CX G c):IHI CX G (.tseq c):=by
  intro e tg E sc N all X o h;unfold wD at h;exact pi_tup (iE_c _ o h)
theorem Cn(hCX:HX CX){c:CE}(iE_c:IHE CX G c):IHI CX G (.range1 c):=by
  intro e tg E sc N all X o h;unfold wD at h;split at h
  ·obtain⟨h1,h2,h3⟩:=iL h
   rw[decide_eq_true_eq]at h1;subst h1;exact Cu (o.gl h2) (o.blt _ (by decide+kernel)) (fg (iE_c _ o h3) ja (bB h3 _ _)) (bB h3 _ _)
  ·cases h
theorem Cm(hCX:HX CX){a:CE}{b:CE}(iE_a:IHE CX G a)(iE_b:IHE CX G b):IHI CX G (.range2 a b):=by
  intro e tg E sc N all X o h;unfold wD at h;split at h
  ·rw[aj]at h
   obtain⟨h,h4⟩:=h;obtain⟨h1,h2,h3⟩:=iL h;rw[decide_eq_true_eq]at h1;subst h1;exact Ct (o.gl h2) (o.blt _ (by decide+kernel)) (fg (iE_a _ o h3) (fg (iE_b _ o h4) ja (bB h4 _ _)) (bB h3 _ _)) (by rw[bB h3,bB h4];rfl) (bB h4 _ _)
  ·cases h
theorem EJ(hCX:HX CX){c:CE}(iE_c:IHE CX G c):IHI CX G (.enumt c):=by
  intro e tg E sc N all X o h;unfold wD at h;split at h
  ·rw[aj]at h
   obtain⟨h,h4⟩:=h;obtain⟨h1,h2,h3⟩:=iL h;rw[decide_eq_true_eq]at h1;subst h1;cases tg<;>first
    |exact E9 (o.gl h2) (o.blt _ (by decide+kernel)) (fg (iE_c _ o h3) ja (bB h3 _ _)) (bB h3 _ _)
    | (exact absurd h4 (by simp[mW]))
  ·cases h
mutual
theorem bu(hCX:HX CX):∀c:CE,IHE CX G c
 |.var i=>sE_var hCX
 |.con c=>EN hCX
 |.glo x=>sE_glo hCX
 |.ty t=>sE_ty hCX
 |.bin op a b=>sE_bin hCX (bu hCX a) (bu hCX b)
 |.un op a=>sE_un hCX (bu hCX a)
 |.cmp op a b=>sE_cmp hCX (bu hCX a) (bu hCX b)
 |.chain o1 o2 a b c=>EO hCX (bu hCX a) (bu hCX b) (bu hCX c)
 |.not a=>sE_not hCX (bu hCX a)
 |.and a b=>sE_and hCX (bu hCX a) (bu hCX b)
 |.or a b=>sE_or hCX (bu hCX a) (bu hCX b)
 |.ite c a b=>sE_ite hCX (iG hCX c) (bu hCX a) (bu hCX b)
 |.idx a i=>sE_idx hCX (bu hCX a) (bu hCX i)
 |.cut a lo hi=>sE_cut hCX (bu hCX a) (Ez hCX lo) (Ez hCX hi)
 |.tup es=>sE_tup hCX (kh hCX es)
 |.lst es=>sE_lst hCX (kh hCX es)
 |.call f es=>sE_call hCX (kh hCX es)
 |.bfn b es=>sE_bfn hCX (kh hCX es)
 |.meth1 m b a=>EM hCX (bu hCX b) (bu hCX a)
 |.idxd a i=>sE_idxd hCX (bu hCX a) (bu hCX i)
 |.dicT=>sE_dicT hCX
 |.setd b a c=>sE_setd hCX (bu hCX b) (bu hCX a) (bu hCX c)
 |.ins b a c=>sE_ins hCX (bu hCX b) (bu hCX a) (bu hCX c)
 |.divb a b=>sE_divb hCX (bu hCX a) (bu hCX b)
 |.rev a=>sE_rev hCX (bu hCX a)
 |.lrng a=>sE_lrng hCX (bu hCX a)
 |.sortset a=>zX hCX (bu hCX a)
 |.lzip a b=>sE_lzip hCX (bu hCX a) (bu hCX b)
 |.mak _=>sE_mak hCX
 |.mth a _ es=>sE_mth hCX (bu hCX a) (kh hCX es)
 |.fldI a _=>sE_fldI hCX (bu hCX a)
 |.comp own fr tg it cond elt=>sE_comp hCX (zQ hCX it) (oU hCX tg) (EA hCX cond) (bu hCX elt)
theorem iG(hCX:HX CX):∀c:CE,IHT CX G c
 |.cmp op a b=>sT_cmp hCX (bu hCX a) (bu hCX b)
 |.chain o1 o2 a b c=>EG hCX (bu hCX a) (bu hCX b) (bu hCX c)
 |.not a=>sT_not hCX (iG hCX a)
 |.and a b=>sT_and hCX (iG hCX a) (iG hCX b) (vE hCX b)
 |.or a b=>sT_or hCX (iG hCX a) (iG hCX b) (vE hCX b)
 |.var i=>sT_var hCX
 |.con c=>sT_con hCX
 |.glo x=>sT_glo hCX
 |.idx a i=>sT_idx hCX (bu hCX a) (bu hCX i)
 |.call f es=>sT_call hCX (kh hCX es)
 |.bfn b es=>sT_bfn hCX (kh hCX es)
 |.ite c a b=>sT_ite hCX
 |.ty t=>sT_ty hCX
 |.bin op a b=>sT_bin hCX
 |.un op a=>sT_un hCX
 |.cut a lo hi=>sT_cut hCX
 |.tup es=>sT_tup hCX
 |.lst es=>sT_lst hCX
 |.meth1 m b a=>EF hCX
 |.idxd a i=>sT_idxd hCX
 |.dicT=>sT_dicT hCX
 |.setd b a c=>sT_setd hCX
 |.ins b a c=>sT_ins hCX
 |.divb a b=>sT_divb hCX
 |.rev a=>sT_rev hCX
 |.lrng a=>sT_lrng hCX
 |.sortset a=>zW hCX
 |.lzip _ _=>sT_lzip hCX
 |.mak _=>sT_mak hCX
 |.mth _ _ _=>sT_mth hCX
 |.fldI _ _=>sT_fldI hCX
 |.comp own fr tg it cond elt=>sT_comp hCX
theorem vE(hCX:HX CX):∀c:CE,IHW CX G c
 |.and a b=>sW_and hCX (iG hCX a) (iG hCX b) (vE hCX b)
 |.or a b=>sW_or hCX (iG hCX a) (iG hCX b) (vE hCX b)
 |.var i=>sW_var hCX
 |.con c=>sW_con hCX
 |.glo x=>sW_glo hCX
 |.ty t=>sW_ty hCX
 |.bin op a b=>sW_bin hCX
 |.un op a=>sW_un hCX
 |.cmp op a b=>sW_cmp hCX
 |.chain o1 o2 a b c=>EE hCX
 |.not a=>sW_not hCX
 |.ite c a b=>sW_ite hCX
 |.idx a i=>sW_idx hCX
 |.cut a lo hi=>sW_cut hCX
 |.tup es=>sW_tup hCX
 |.lst es=>sW_lst hCX
 |.call f es=>sW_call hCX
 |.bfn b es=>sW_bfn hCX
 |.meth1 m b a=>ED hCX
 |.idxd a i=>sW_idxd hCX
 |.dicT=>sW_dicT hCX
 |.setd b a c=>sW_setd hCX
 |.ins b a c=>sW_ins hCX
 |.divb a b=>sW_divb hCX
 |.rev a=>sW_rev hCX
 |.lrng a=>sW_lrng hCX
 |.sortset a=>zV hCX
 |.lzip _ _=>sW_lzip hCX
 |.mak _=>sW_mak hCX
 |.mth _ _ _=>sW_mth hCX
 |.fldI _ _=>sW_fldI hCX
 |.comp own fr tg it cond elt=>sW_comp hCX
theorem kh(hCX:HX CX):∀c:CL,IHL CX G c
 |.nil=>sL_nil hCX
 |.cons c r=>sL_cons hCX (bu hCX c) (kh hCX r)
theorem soundP(hCX:HX CX):∀c:CP,IHP CX G c
 |.nil=>sP_nil hCX
 |.cons k v r=>sP_cons hCX (soundP hCX r) (bu hCX k) (bu hCX v)
theorem Ez(hCX:HX CX):∀c:CO,IHO CX G c
 |.no=>sO_no hCX
 |.yes c=>sO_yes hCX (bu hCX c)
theorem EA(hCX:HX CX):∀c:CO,IHC CX G c
 |.no=>sC_no hCX
 |.yes c=>sC_yes hCX (iG hCX c)
theorem oU(hCX:HX CX):∀c:CG,IHG CX G c
 |.name i=>sG_name hCX
 |.tup gs=>sG_tup hCX (AU hCX gs)
 |.sub ob i=>sG_sub hCX (bu hCX ob) (bu hCX i)
theorem AU(hCX:HX CX):∀c:CGs,G3 CX G c
 |.nil=>sGs_nil hCX
 |.cons c r=>EK hCX (oU hCX c) (AU hCX r)
theorem zQ(hCX:HX CX):∀c:CI,IHI CX G c
 |.seq c=>sI_seq hCX (bu hCX c)
 |.lseq c=>sI_lseq hCX (bu hCX c)
 |.tseq c=>sI_tseq hCX (bu hCX c)
 |.range1 c=>Cn hCX (bu hCX c)
 |.range2 a b=>Cm hCX (bu hCX a) (bu hCX b)
 |.enumt c=>EJ hCX (bu hCX c)
end
end
section
variable {CX:CXT}{G:Gam}
theorem rA{sc:Scope}{N:List Str}{all:Bool}{g:CG}{tg e:Expr}(h:ma sc N all g tg=true)(hn:(mW tg&&mW e)=false)(env:Env):swappedStores [tg] e env=pure none:=by
 cases tg with
 |Tuple es k p=>
  cases e<;>first
   |rfl
   | (exact absurd hn (by simp[mW]))
 |List es p=>cases g<;>exact absurd h (by simp[ma])
 |_=>rfl
theorem xE{a:Expr}{b:List Comprehension}{c:Scope}{d p:Pos}{x:Str}{l:Nat}{env:Env}(h:env.kindOf x≠some .local):ni (.ListComp a b c d) (some (.Name x p)) l env=pure false:=by
 show(pure (env.blockKind== .function&&env.kindOf x==some .local&&p.line==d.line&& !(c.names.any fun(n,k)=>n==x&&(k== .local||k== .cell))):Sem Bool)=pure false;have e:(env.kindOf x==some d7.local)=false:=by simpa using h
 rw[e,jV,dG,dG]
theorem zK{a:Expr}{b:List Comprehension}{c:Scope}{d p:Pos}{x:Str}{l:Nat}{env:Env}(hk:env.scope.kind=.function)(h:env.kindOf x=some .local)(hl:p.line=d.line)
  (hn:(c.names.any fun y=>decide (y.1=x)&&(decide (y.2=.local)||decide (y.2=.cell)))=false):ni (.ListComp a b c d) (some (.Name x p)) l env=pure true:=by
 show(pure (env.blockKind== .function&&env.kindOf x==some .local&&p.line==d.line&& !(c.names.any fun(n,k)=>n==x&&(k== .local||k== .cell))):Sem Bool)=pure true;have e1:env.blockKind=.function:=by unfold Env.blockKind;rw[hk];rfl
 have e2:(c.names.any fun(n,k)=>n==x&&(k==d7.local||k==cO))=false:=by
  rw[<-hn];congr 1
 rw[e1,h,hl,e2];simp
theorem AF{sc:Scope}{N:List Str}{c:CE}{a:Expr}{b:List Comprehension}{s:Scope}{d:Pos}(h:aZ sc N c (.ListComp a b s d)=true):∃own fr tg it cond elt,c=.comp own fr tg it cond elt:=by
 cases c with
 |comp own fr tg it cond elt=>exact⟨_,_,_,_,_,_,rfl⟩
 |_=>exact absurd h (by simp[aZ])
theorem Fy{e:Expr}(h:pd e=false)(tg:Expr)(l:Nat)(env:Env):G6 [tg] e l env=pure false:=by
 unfold G6;exact qv h _ _ _
structure OkL(G:Gam)(sc:Scope)(N:List Str)(X:Cx):Prop where
 names:X.N=N
 nd:N.Nodup
 loc:∀x,sc.names.lookup x=some .local->X.env.scope.names.lookup x=some .local
 cel:∀x,sc.names.lookup x=some .cell->X.env.scope.names.lookup x=some .cell
 fre:∀x,sc.names.lookup x=some .free->X.env.scope.names.lookup x=some .cell\/X.env.scope.names.lookup x=some .free
 glo:∀x,sc.names.lookup x=some .globalImplicit->X.env.scope.names.lookup x=some .globalImplicit
 all:∀x,X.fn x=true
 val:∀x v,G.val x=some v->∃u,X.mg x=some u/\RelV v u
 blt:∀x∈iE,X.mg x=none
mutual
theorem Ey(hCX:HX CX):∀(c:CS)(st:Stmt){E:XS}{sc:Scope}{N:List Str}{X:Cx},Ok CX G E sc N true X->(∀pins σ H s,Inv X pins σ H s->X.env.scope.kind=.function)->m5 sc N c st=true->PS X st (wpS G X.K E c)
 |.asg g e,st,E,sc,N,X,o,hk,h=>by
  unfold m5 at h;split at h
  ·rw[aj]at h
   obtain⟨h,h4⟩:=h;obtain⟨h1,h2,h3⟩:=iL h;skip;exact E6 (bu hCX e _ o h2) (oU hCX g _ o h1) (qv (mT h3) _ _ _) (rA h1 (mT h4) _) (by rw[nR h1];rfl)
  ·cases h
 |.asgc i e,st,E,sc,N,X,o,hk,h=>by
  unfold m5 at h;split at h
  ·rename_i x p a b c d sp
   simp only[aj,cS,beq_iff_eq,decide_eq_true_eq]at h;obtain⟨⟨⟨h1,h2⟩,h3⟩,h4⟩:=h;skip;obtain⟨own,fr,tg,it,cond,elt,rfl⟩:=AF h3;by_cases hl:X.env.scope.names.lookup x=some .local
   ·have h4':p.line=d.line/\(!(c.names.any fun y=>decide (y.1=x)&&(decide (y.2=.local)||decide (y.2=.cell))))=true:=by
     rcases h4 with q|q
     ·rw[o.cel x q]at hl;cases hl
     ·exact q
    unfold aZ at h3;split at h3
    ·rename_i elt' tg' it' ifs' sc' pos heq
     cases heq;simp only[aj]at h3;obtain⟨⟨⟨⟨⟨g1,g2⟩,g3⟩,g4⟩,g5⟩,g6⟩:=h3;have S:=qY g1;skip;intro pins s σ H D I hw;exact z8 (S.comp o) (S.mkOk o) o.calm (zQ hCX it _ _ o g3)
      (fun C s₀ H₀ fp _=>⟨oU hCX tg _ (o.comp hCX S C s₀ H₀ fp) g4,EA hCX cond _ (o.comp hCX S C s₀ H₀ fp) g5,bu hCX elt _ (o.comp hCX S C s₀ H₀ fp) g6⟩)
      (by rw[o.names];exact o.nd) (by rw[o.names];exact h1) hl (zK (hk pins σ H s I) hl h4'.1 (mT h4'.2)) (we (mT g2) _) pins s σ H D I hw
    ·cases h3
   ·have hc:sc.names.lookup x=some .cell:=by
     rcases h2 with q|q
     ·exact absurd (o.loc x q) hl
     ·exact q
    exact ps_set (by rw[o.names];exact o.nd) (by rw[o.names];exact h1) (.inr (o.cel x hc)) (bu hCX _ _ o h3) (xE (by rw[show X.env.kindOf x=_ from o.cel x hc];decide)) (.inl (o.all rfl x))
  ·cases h
 |.expr e,st,E,sc,N,X,o,hk,h=>by
  unfold m5 at h;split at h
  ·rw[aj]at h
   skip
   exact ps_expr (bu hCX e _ o h.1) (qv (mT h.2) _ _ _)
  ·cases h
 |.iff c a b,st,E,sc,N,X,o,hk,h=>by
  unfold m5 at h;split at h
  ·obtain⟨h1,h2,h3⟩:=iL h
   skip
   exact ps_if (iG hCX c _ o h1) (oV hCX a _ o hk h2) (oV hCX b _ o hk h3)
  ·cases h
 |.forr g it b,st,E,sc,N,X,o,hk,h=>by
  unfold m5 at h;split at h
  ·rw[aj]at h
   obtain⟨h,h4⟩:=h;obtain⟨h1,h2,h3⟩:=iL h;skip;exact ps_for o.px o.calm (zQ hCX it _ _ o h2) (oU hCX g _ o h1) (oV hCX b _ o hk h4) (we (mT h3) _)
  ·cases h
 |.ret e,st,E,sc,N,X,o,hk,h=>by
  unfold m5 at h;split at h
  ·skip
   exact ps_ret (bu hCX e _ o h)
  ·cases h
 |.retN,st,E,sc,N,X,o,hk,h=>by
  unfold m5 at h;split at h
  ·skip
   exact ps_retN
  ·cases h
 |.rais x es,st,E,sc,N,X,o,hk,h=>by
  unfold m5 at h;split at h
  ·rename_i x' np e' es' cp p
   rw[aj]at h;obtain⟨h,h4⟩:=h;obtain⟨h1,h2,h3⟩:=iL h;rw[decide_eq_true_eq]at h1;subst h1;skip;intro pins s σ H D I hw;obtain⟨C,hv,hkp,hq,hw⟩:=hw;obtain⟨u,hu,ru⟩:=o.val _ _ hv;obtain rfl:u=bz C:=ru;have hL:=kh hCX es _ o h4;have hs:bc (e'::es') X.env=(false,eval e' X.env)::bc es' X.env/\(backTo cp (bc es' X.env)).any (·.1)=false:=by
    cases es with
    |nil=>exact absurd (fW h4) (by simp)
    |cons c r=>
     obtain⟨e1',r1,q,g1,g2⟩:=eS h4;cases q;exact⟨bB g1 _ _,fj g2 _ _⟩
   exact E4 (o.gl h2) hu hkp hq hL o.calm (gG h3).1 hs.1 hs.2 o.made pins s σ H D I hw
  ·cases h
 |.fldI a f e,st,E,sc,N,X,o,hk,h=>by
  unfold m5 at h;split at h
  ·simp only[aj,decide_eq_true_eq]at h
   obtain⟨⟨⟨h1,h2⟩,h3⟩,h4⟩:=h;subst h1;exact ps_fld (bu hCX a _ o h2) (bu hCX e _ o h3) (qv (mT h4) _ _ _)
  ·cases h
 |.pass,st,E,sc,N,X,o,hk,h=>by
  unfold m5 at h;split at h
  ·skip
   exact ps_pass
  ·cases h
 |.brk,st,E,sc,N,X,o,hk,h=>by
  unfold m5 at h;split at h
  ·skip
   exact E5
  ·cases h
 |.cont,st,E,sc,N,X,o,hk,h=>by
  unfold m5 at h;split at h
  ·skip
   exact xM
  ·cases h
theorem oV(hCX:HX CX):∀(c:CB)(st:List Stmt){E:XS}{sc:Scope}{N:List Str}{X:Cx},Ok CX G E sc N true X->(∀pins σ H s,Inv X pins σ H s->X.env.scope.kind=.function)->m6 sc N c st=true->PSs X st (wpB G X.K E c)
 |.hole,_,_,_,_,_,_,_,_=>fun _ _ _ _ _ _ z=>z.elim
 |.nil,st,E,sc,N,X,o,hk,h=>by
  unfold m6 at h;split at h
  ·skip
   exact pss_nil
  ·cases h
 |.cons s r,st,E,sc,N,X,o,hk,h=>by
  unfold m6 at h;split at h
  ·rw[aj]at h
   skip
   exact rf (Ey hCX s _ o hk h.1) (oV hCX r _ o hk h.2)
  ·cases h
end
end
structure GOk(P:Program)(w:World)(K:ae)(mg:Str->Option Value)(base:Heap)(CX:CXT)(k:Nat)(G:Gam):Prop where
 val:∀x v,G.val x=some v->∃u,mg x=some u/\RelV v u
 fn:∀x n sp dvs,G.fn x n=some (sp,dvs)->∃f fd ps ds j,j<=k/\gY P w K mg base CX j f fd ps sp/\mg x=some (.ref f)/\bH K (.ref f)=true/\Binds K fd ps ds/\bL dvs ds
 ini:∀x n C sp dvs,G.ini x n=some (C,sp,dvs)->∃f fd ps ds j,j+1<=k/\MkX K C f/\gY P w K mg base CX j f fd ps sp/\mg x=some (.ref C)/\Binds K fd ps ds/\bL dvs ds
 dic:∀a kvs,G.dic a=some kvs->DkIn P w K a kvs
 mak:∀x n C sp dvs,G.mak x n=some (C,sp,dvs)->∃f fd ps ds j,j+1<=k/\Mk K C f/\gY P w K mg base CX j f fd ps sp/\mg x=some (.ref C)/\Binds K fd ps ds/\bL dvs ds
 mth:∀m n C sp dvs,G.mth m n=some (C,sp,dvs)->∃f fd ps ds j,j<=k/\Cls K C/\DB K C m f/\gY P w K mg base CX j f fd ps sp/\Binds K fd ps ds/\bL dvs ds
 blt:∀x∈iE,mg x=none
noncomputable def kE(N ps:List Str)(sc:Scope):Bool:=
 decide (sc.kind=.function)&&decide (sc.isCoroutine=false)&&decide (sc.isGenerator=false)&&decide N.Nodup&&decide (N.take ps.length=ps)&&
 ps.all (fun x=>sc.names.lookup x==some .local||sc.names.lookup x==some .cell)&&sc.names.all (fun y=>decide (y.2≠.free))
theorem ya{N ps:List Str}{sc:Scope}(h:kE N ps sc=true):wW N ps sc:=by
 unfold kE at h;simp only[aj,bD,decide_eq_true_eq,beq_iff_eq,cS]at h;obtain⟨⟨⟨⟨⟨⟨h1,h2⟩,h3⟩,h4⟩,h5⟩,h6⟩,h7⟩:=h;exact⟨h1,h2,h3,h4,h5,h6,h7⟩
section
variable {P:Program}{w:World}{K:ae}{mg:Str->Option Value}{base:Heap}
theorem Gn{x qual:Str}{st:Stmt}{f:Addr}{oc dV kV doc pm cdv ct:Value}{od an:Option Addr}{osl:Array (Option Value)}{N ps:List Str}{k:Nat}{G:Gam}{sp:Sp}{code:CB}(lk:K.lookup f=some ⟨oc,od,.func (aD x qual (bp st) (aU st) (aH st) dV kV doc pm an cdv ct),osl⟩)(hcd:di K cdv qual=true)(hd:kE N ps (aH st)=true)(hc:m6 (aH st) N code (aU st)=true)
  (g:GOk P w K mg base (CXx P w) k G)(len:∀vs H Q E,sp vs H Q E->vs.length=ps.length)
  (h:∀vs H Q E,sp vs H Q E->wpB G K (fun _=>E) code {nx:=fun _ H'=>Q .non H',rt:=Q} (start N vs) H):gY P w K mg base (CXx P w) (k+1) f (aD x qual (bp st) (aU st) (aH st) dV kV doc pm an cdv ct) ps sp:=by
 have S:=ya hd;refine fn_of lk hcd S len fun A outer s H vs Q E hr hsp=>?_;have o:Ok (CXx P w) G (fun _=>E) (aH st) N true (tJ (CXx P w) P w K mg base N qual (aH st) f cdv A outer s H E):=
  {names:=rfl,top:=fun _=>⟨rfl,rfl,rfl⟩,nd:=S.nd,loc:=fun _ z=>z,cel:=fun _ z=>z,fre:=fun y z=>absurd rfl (S.nofree _ (bw z)),glo:=fun _ z=>z,all:=fun _ _=>rfl,own:=fun _ _=>rfl,calm:=rfl,
   hu:=by have :=hr.units;show _+50<cLine;exact dX (Nat.add_le_add_left (by decide) _) this
   val:=g.val
   fn:=fun y n sp' dvs e=>by
    obtain⟨f',fd',ps',ds',j,hj,F',hm,hk,hb,hv⟩:=g.fn y n sp' dvs e;exact⟨f',fd',ps',ds',j,F',hr.mono hj,hm,hk,hb,hv⟩
   ini:=fun y n C sp' dvs e=>by
    obtain⟨f',fd',ps',ds',j,hj,M,F',hm,hb,hv⟩:=g.ini y n C sp' dvs e;exact⟨f',fd',ps',ds',j,M,F',hr.mono hj,hm,hb,hv⟩
   dic:=g.dic
   mak:=fun y n C sp' dvs e=>by
    obtain⟨f',fd',ps',ds',j,hj,M,F',hm,hb,hv⟩:=g.mak y n C sp' dvs e;exact⟨f',fd',ps',ds',j,M,F',hr.mono hj,hm,hb,hv⟩
   mth:=fun y n C sp' dvs e=>by
    obtain⟨f',fd',ps',ds',j,hj,c,M,F',hb,hv⟩:=g.mth y n C sp' dvs e;exact⟨f',fd',ps',ds',j,c,M,F',hr.mono hj,hb,hv⟩
   blt:=g.blt,px:=B0,pass:=uY,made:=uZ,madeX:=sI,cx:=rfl}
 exact⟨_,oV (fun _ _ _ _ _ z=>Dh z) code _ o (fun _ _ _ _ _=>S.kind) hc,h vs H Q E hsp⟩
theorem n6{x qual:Str}{st:Stmt}{f:Addr}{fd:eN}{N ps:List Str}{k:Nat}{G:Gam}{sp:Sp}{code:CB}(F:Fun K x qual st f fd)(hd:kE N ps (aH st)=true)(hc:m6 (aH st) N code (aU st)=true)
  (g:GOk P w K mg base (CXx P w) k G)(len:∀vs H Q E,sp vs H Q E->vs.length=ps.length)
  (h:∀vs H Q E,sp vs H Q E->wpB G K (fun _=>E) code {nx:=fun _ H'=>Q .non H',rt:=Q} (start N vs) H):gY P w K mg base (CXx P w) (k+1) f fd ps sp:=by
 obtain⟨oc,od,kV,doc,pm,an,cdv,ct,osl,rfl,lk,hcd⟩:=F.ex;exact Gn lk hcd hd hc g len h
end
end R
namespace R
open PySem PySem.Spec PyProof.Rows L2
noncomputable def gam(vals:List (Str×V))(fns:List ((Str×Nat)×(Sp×List V)))(inis:List ((Str×Nat)×(Addr×Sp×List V)):=[]) (dics:List (Addr×List (Key×V)):=[]) (maks mths:List ((Str×Nat)×(Addr×Sp×List V)):=[]):Gam:=⟨fun x=>vals.lookup x,fun x n=>fns.lookup (x,n),fun x n=>inis.lookup (x,n),fun a=>dics.lookup a,fun x n=>maks.lookup (x,n),fun m n=>mths.lookup (m,n)⟩
theorem yk{β:Type}{a:Addr}{b:β}:∀{l:List (Addr×β)},l.lookup a=some b->(a,b)∈l
 | [],h=>nomatch h
 | (k,v)::l,h=>by
  rw[aW]at h;cases q:(a==k)with
  |true=>
   rw[q]at h;cases h;rw[beq_iff_eq.mp q];exact aG
  |false=>
   rw[q]at h;exact aM _ (yk h)
section
variable {P:Program}{w:World}{K:ae}{mg:Str->Option Value}{base:Heap}{CX:CXT}
theorem GOk.start{vals:List (Str×V)}(hv:∀x v,(x,v)∈vals->∃u,mg x=some u/\RelV v u)(hb:∀x∈iE,mg x=none){dics:List (Addr×List (Key×V))}(hd:∀a kvs,(a,kvs)∈dics->DkIn P w K a kvs:=by intro a kvs h;exact nomatch h):GOk P w K mg base CX 0 (gam vals [] [] dics):=
 ⟨fun x v e=>hv x v (bw e),fun x n sp dvs e=>(nomatch e),fun x n C sp dvs e=>(nomatch e),fun a kvs e=>hd a kvs (yk (show cM a dics=some kvs from e)),fun x n C sp dvs e=>(nomatch e),fun x n C sp dvs e=>(nomatch e),hb⟩
theorem GOk.add{k n:Nat}{vals:List (Str×V)}{fns:List ((Str×Nat)×(Sp×List V))}{x:Str}{f:Addr}{fd:eN}{ps:List Str}{sp:Sp}{ds:List Value}{dvs:List V}{inis maks mths:List ((Str×Nat)×(Addr×Sp×List V))}{dics:List (Addr×List (Key×V))}(g:GOk P w K mg base CX k (gam vals fns inis dics maks mths))
  (F:gY P w K mg base CX (k+1) f fd ps sp)(hm:mg x=some (.ref f))(hk:bH K (.ref f)=true)(hb:Binds K fd ps ds)(hd:bL dvs ds):GOk P w K mg base CX (k+1) (gam vals (((x,n),(sp,dvs))::fns) inis dics maks mths):=by
 refine⟨g.val,fun y m sp' dvs' e=>?_,fun y m C sp' dvs' e=>?_,g.dic,fun y m C sp' dvs' e=>?_,fun y m C sp' dvs' e=>?_,g.blt⟩
 rotate_left
 rotate_left
 ·obtain⟨f',fd',ps',ds',j,hj,r⟩:=g.mak y m C sp' dvs' e
  exact⟨f',fd',ps',ds',j,cN hj,r⟩
 ·obtain⟨f',fd',ps',ds',j,hj,r⟩:=g.mth y m C sp' dvs' e
  exact⟨f',fd',ps',ds',j,cN hj,r⟩
 rotate_left
 ·obtain⟨f',fd',ps',ds',j,hj,r⟩:=g.ini y m C sp' dvs' e
  exact⟨f',fd',ps',ds',j,cN hj,r⟩
 have e':cM (y,m) (((x,n),(sp,dvs))::fns)=some (sp',dvs'):=e;rw[aW]at e';cases q:((y,m)==(x,n))with
 |true=>
  rw[q]at e';have e2:(y,m)=(x,n):=eq_of_beq q;cases e2;cases e';exact⟨f,fd,ps,ds,k+1,ax _,F,hm,hk,hb,hd⟩
 |false=>
  rw[q]at e';obtain⟨f',fd',ps',ds',j,hj,r⟩:=g.fn y m sp' dvs' e';exact⟨f',fd',ps',ds',j,cN hj,r⟩
theorem GOk.addC{k n:Nat}{vals:List (Str×V)}{fns:List ((Str×Nat)×(Sp×List V))}{x:Str}{C f:Addr}{fd:eN}{ps:List Str}{sp:Sp}{ds:List Value}{dvs:List V}{inis maks mths:List ((Str×Nat)×(Addr×Sp×List V))}{dics:List (Addr×List (Key×V))}(g:GOk P w K mg base CX k (gam vals fns inis dics maks mths))
  (M:Mk K C f)(F:gY P w K mg base CX (k+1) f fd ps sp)(hm:mg x=some (.ref C))(hb:Binds K fd ps ds)(hd:bL dvs ds):GOk P w K mg base CX (k+2) (gam vals fns inis dics (((x,n),(C,sp,dvs))::maks) mths):=by
 refine⟨g.val,fun y m sp' dvs' e=>(by
  obtain⟨f',fd',ps',ds',j,hj,r⟩:=g.fn y m sp' dvs' e;exact⟨f',fd',ps',ds',j,aI hj (by omega),r⟩),fun y m C sp' dvs' e=>(by
  obtain⟨f',fd',ps',ds',j,hj,r⟩:=g.ini y m C sp' dvs' e;exact⟨f',fd',ps',ds',j,aI hj (by omega),r⟩),g.dic,fun y m C' sp' dvs' e=>?_,fun y m C sp' dvs' e=>(by
  obtain⟨f',fd',ps',ds',j,hj,r⟩:=g.mth y m C sp' dvs' e;exact⟨f',fd',ps',ds',j,aI hj (by omega),r⟩),g.blt⟩
 have e':cM (y,m) (((x,n),(C,sp,dvs))::maks)=some (C',sp',dvs'):=e;rw[aW]at e';cases q:((y,m)==(x,n))with
 |true=>
  rw[q]at e';have e2:(y,m)=(x,n):=eq_of_beq q;cases e2;cases e';exact⟨f,fd,ps,ds,k+1,ax _,M,F,hm,hb,hd⟩
 |false=>
  rw[q]at e';obtain⟨f',fd',ps',ds',j,hj,r⟩:=g.mak y m C' sp' dvs' e';exact⟨f',fd',ps',ds',j,aI hj (by omega),r⟩
theorem GOk.addO{k n:Nat}{vals:List (Str×V)}{fns:List ((Str×Nat)×(Sp×List V))}{x:Str}{C f:Addr}{fd:eN}{ps:List Str}{sp:Sp}{ds:List Value}{dvs:List V}{inis maks mths:List ((Str×Nat)×(Addr×Sp×List V))}{dics:List (Addr×List (Key×V))}(g:GOk P w K mg base CX k (gam vals fns inis dics maks mths))
  (c:Cls K C)(M:DB K C x f)(F:gY P w K mg base CX (k+1) f fd ps sp)(hb:Binds K fd ps ds)(hd:bL dvs ds):GOk P w K mg base CX (k+1) (gam vals fns inis dics maks (((x,n),(C,sp,dvs))::mths)):=by
 refine⟨g.val,fun y m sp' dvs' e=>(by
  obtain⟨f',fd',ps',ds',j,hj,r⟩:=g.fn y m sp' dvs' e;exact⟨f',fd',ps',ds',j,cN hj,r⟩),fun y m C sp' dvs' e=>(by
  obtain⟨f',fd',ps',ds',j,hj,r⟩:=g.ini y m C sp' dvs' e;exact⟨f',fd',ps',ds',j,cN hj,r⟩),g.dic,fun y m C sp' dvs' e=>(by
  obtain⟨f',fd',ps',ds',j,hj,r⟩:=g.mak y m C sp' dvs' e;exact⟨f',fd',ps',ds',j,cN hj,r⟩),fun y m C' sp' dvs' e=>?_,g.blt⟩
 have e':cM (y,m) (((x,n),(C,sp,dvs))::mths)=some (C',sp',dvs'):=e;rw[aW]at e';cases q:((y,m)==(x,n))with
 |true=>
  rw[q]at e';have e2:(y,m)=(x,n):=eq_of_beq q;cases e2;cases e';exact⟨f,fd,ps,ds,k+1,ax _,c,M,F,hb,hd⟩
 |false=>
  rw[q]at e';obtain⟨f',fd',ps',ds',j,hj,r⟩:=g.mth y m C' sp' dvs' e';exact⟨f',fd',ps',ds',j,cN hj,r⟩
end
section
variable {K:ae}{H:Hp}{Q:VK}{i j:Int}
theorem GY:i8 K .Add (.int i) (.int j) H Q↔Q (.int (i+j)) H:=by
 simp[i8,rI0,rCat,A8,A9]
theorem sub_ii:i8 K .Sub (.int i) (.int j) H Q↔Q (.int (i-j)) H:=by simp[i8,rI0]
theorem mul_ii:i8 K .Mult (.int i) (.int j) H Q↔wX i j/\Q (.int (i*j)) H:=by simp[i8,rI,rRep,EX]
theorem mod_ii:i8 K .Mod (.int i) (.int j) H Q↔0<j/\Q (.int (i%j)) H:=by simp[i8,rI]
theorem div_ii:i8 K .FloorDiv (.int i) (.int j) H Q↔CDiv i j/\Q (.int (i/j)) H:=by simp[i8,rI]
theorem pow_ii:i8 K .Pow (.int i) (.int j) H Q↔G4 i j/\Q (.int (i^j.toNat)) H:=by simp[i8,rI]
theorem add_ss{x y:Str}:i8 K .Add (.str x) (.str y) H Q↔x.length+y.length<=sizeLine/\Q (.str (x++y)) H:=by simp[i8,rI0,rCat,A8,A9]
theorem FL:gv K .Lt (.int i) (.int j) H Q↔Q (.bl (decide (i<j))) H:=by simp[gv,rI0]
theorem FP:gv K .LtE (.int i) (.int j) H Q↔Q (.bl (decide (i<=j))) H:=by simp[gv,rI0]
theorem Gb:gv K .Gt (.int i) (.int j) H Q↔Q (.bl (decide (j<i))) H:=by simp[gv,rI0]
theorem A5{d:D}:Rep K H d (.int i)↔d=.int i:=by
 cases d<;>simp[Rep,eq_comm]
theorem A4{d:D}{x:Str}:Rep K H d (.str x)↔d=.str x:=by
 cases d<;>simp[Rep,eq_comm]
theorem uK:gv K .Eq (.int i) (.int j) H Q↔Q (.bl (decide (i=j))) H:=by
 simp only[gv,rEqD,A5];constructor
 ·rintro⟨_,_,rfl,rfl,_,q⟩;exact q
 ·intro q;exact⟨_,_,rfl,rfl,bf _,q⟩
theorem ne_ii:gv K .NotEq (.int i) (.int j) H Q↔Q (.bl (!decide (i=j))) H:=by
 simp only[gv,rNeD,A5];constructor
 ·rintro⟨_,_,rfl,rfl,_,q⟩;exact q
 ·intro q;exact⟨_,_,rfl,rfl,bf _,q⟩
theorem eq_ss{x y:Str}:gv K .Eq (.str x) (.str y) H Q↔Q (.bl (decide (x=y))) H:=by
 simp only[gv,rEqD,A4];constructor
 ·rintro⟨_,_,rfl,rfl,_,q⟩
  simpa[eqD,iP]using q
 ·intro q
  exact⟨_,_,rfl,rfl,bf _,by simpa[eqD,iP]using q⟩
theorem ne_ss{x y:Str}:gv K .NotEq (.str x) (.str y) H Q↔Q (.bl (!decide (x=y))) H:=by
 simp only[gv,rNeD,A4];constructor
 ·rintro⟨_,_,rfl,rfl,_,q⟩
  simpa[eqD,iP]using q
 ·intro q
  exact⟨_,_,rfl,rfl,bf _,by simpa[eqD,iP]using q⟩
theorem isnot_n{x:V}:gv K .IsNot x .non H Q↔Q (.bl (!decide (x=.non))) H:=by simp[gv]
theorem len_s{z:Str}:rBf K .len [.str z] H Q↔z.length<=sizeLine/\Q (.int z.length) H:=by simp[rBf]
theorem idx_s{z:Str}:rIx K (.str z) (.int i) H Q↔∃c,z.length<=sizeLine/\atI z.cps.toList i=some c/\Q (.str ⟨#[c]⟩) H:=by
 simp[rIx,rIxL,rIxT,rIxS]
end
structure sN(J:It)(n:Nat)(it:Nat->V->Hp->Prop)(Hc:Hp->Prop):Prop where
 go:∀i H,Hc H->i<n->J.go i H
 stop:∀i H,Hc H->n<=i->J.stop i H
 yld:∀i H x H',Hc H->i<n->J.yld i H x H'->it i x H'/\aP H H'
section
variable {K:ae}
theorem d8{a:Addr}{xs:List V}:sN (Itl K a) xs.length (fun i x _=>xs[i]? =some x) (fun H=>SqL K H a xs) where
 go:=fun i H h hi=>⟨xs,xs[i],h,by simp[hi]⟩
 stop:=fun i H h hi=>⟨xs,h,hi⟩
 yld:=fun i H x H' h hi y=>by
  obtain⟨e,y⟩:=y;subst e;exact⟨y xs h,aP.refl _⟩
theorem AZ{a:Addr}{xs:List V}:sN (Itt K a) xs.length (fun i x _=>xs[i]? =some x) (fun H=>SqT K H a xs) where
 go:=fun i H h hi=>⟨xs,xs[i],h,by simp[hi]⟩
 stop:=fun i H h hi=>⟨xs,h,hi⟩
 yld:=fun i H x H' h hi y=>by
  obtain⟨e,y⟩:=y;subst e;exact⟨y xs h,aP.refl _⟩
theorem dI{lo:Int}{n:Nat}:sN (Itr lo n) n (fun i x _=>x=.int (lo+i)) (fun _=>True) where
 go:=fun i H _ hi=>hi
 stop:=fun i H _ hi=>hi
 yld:=fun i H x H' _ hi y=>by
  obtain⟨e,y⟩:=y;subst e;exact⟨y,aP.refl _⟩
theorem seq_str{z:Str}:sN (Its z) z.length (fun i x _=>∃c,z.cps[i]? =some c/\x=.str ⟨#[c]⟩) (fun _=>True) where
 go:=fun i H _ hi=>hi
 stop:=fun i H _ hi=>hi
 yld:=fun i H x H' _ hi y=>by
  obtain⟨e,y⟩:=y;subst e;exact⟨y,aP.refl _⟩
theorem aK{H:Hp}{p:Addr}{o:HO}(h:H p=none):aP H (upd H p o):=fun b u e=>by rw[aY (cf e h)];exact e
theorem Am{H H1:Hp}{p:Addr}{o:HO}(h:upd H p o=H1)(hp:H p=none):aP H H1/\H1 p=some o:=by subst h;exact⟨aK hp,az⟩
noncomputable def ForB(J:It)(g:TG)(tb:TS)(D:Ends)(σ:L2.St)(H:Hp):Prop:=∃W:Nat->Nat->L2.St->Hp->Prop,(∃m,W 0 m σ H)/\∀i m σ H,W i m σ H->
 (J.stop i H/\D.nx σ H)\/(J.go i H/\∃N:L2.St->Hp->Prop,(∀σ' H',N σ' H'->∃m',m'<m/\W (i+1) m' σ' H')/\∀x H',J.yld i H x H'->g x σ H' fun σ2 H2=>tb {D with nx:=N,ct:=N,bk:=D.nx} σ2 H2)
noncomputable def BV(J:It)(g:TG)(tc:TT)(te:TE)(τ0:L2.St)(H1:Hp)(Q:VK):Prop:=∃W:Nat->Nat->L2.St->List V->Hp->Prop,(∃m,W 0 m τ0 [] H1)/\
 ∀i m τ acc H2,W i m τ acc H2->(J.stop i H2/\∀l,H2 l=none->Q (.ref l) (upd H2 l (.lst acc)))\/(J.go i H2/\∃N:L2.St->List V->Hp->Prop,(∀τ' acc' H',N τ' acc' H'->∃m',m'<m/\W (i+1) m' τ' acc' H')/\
  ∀x H3,J.yld i H2 x H3->g x τ H3 fun τ4 H4=>tc τ4 H4 fun b H5=>if b=true then te τ4 H5 fun v H6=>acc.length<sizeLine/\N τ4 (acc++[v]) H6 else N τ4 acc H5)
theorem BD{J:It}{n:Nat}{it:Nat->V->Hp->Prop}{Hc:Hp->Prop}{g:TG}{tb:TS}{D:Ends}{σ:L2.St}{H:Hp}(S:sN J n it Hc)(Pv:Nat->L2.St->Hp->Prop)(h0:Pv 0 σ H)(hl:∀i σ H,i<=n->Pv i σ H->Hc H)
  (hs:∀i x σ H H',i<n->Pv i σ H->it i x H'->aP H H'->g x σ H' fun σ2 H2=>tb {D with nx:=Pv (i+1),ct:=Pv (i+1),bk:=D.nx} σ2 H2) (hd:∀σ H,Pv n σ H->D.nx σ H):
  ForB J g tb D σ H:=by
 refine⟨fun i m σ H=>m=n-i/\i<=n/\Pv i σ H,⟨n,by simp,bf _,h0⟩,?_⟩;rintro i m σ H ⟨rfl,hi,p⟩;have q:=hl i σ H hi p;by_cases hlt:i<n
 ·refine .inr ⟨S.go i H q hlt,Pv (i+1),fun σ' H' p'=>⟨n-(i+1),by omega,rfl,hlt,p'⟩,fun x H' y=>?_⟩
  obtain⟨y1,y2⟩:=S.yld i H x H' q hlt y;exact hs i x σ H H' hlt p y1 y2
 ·have e:i=n:=by omega
  subst e;exact .inl ⟨S.stop i H q (ax _),hd σ H p⟩
theorem dP{J:It}{n:Nat}{it:Nat->V->Hp->Prop}{Hc:Hp->Prop}{g:TG}{te:TE}{Q:VK}{τ0:L2.St}{H1:Hp}(S:sN J n it Hc)(hn:n<=sizeLine)(hc:∀H,aP H1 H->Hc H)
  (F:Nat->V->Hp->Prop)(Fm:∀i v H H',aP H H'->F i v H->F i v H')(T:L2.St->Prop)(hT:T τ0)
  (step:∀i x τ H3 (R:L2.St->V->Hp->Prop),i<n->T τ->aP H1 H3->it i x H3->(∀τ' v H6,T τ'->aP H3 H6->F i v H6->R τ' v H6)->g x τ H3 fun τ4 H4=>te τ4 H4 (R τ4))
  (fin:∀vs H2 l,vs.length=n->(∀(i:Nat) v,vs[i]? =some v->F i v H2)->aP H1 H2->H2 l=none->Q (.ref l) (upd H2 l (.lst vs))):
  BV J g tYes te τ0 H1 Q:=by
 refine⟨fun i m τ acc H2=>m=n-i/\i<=n/\T τ/\acc.length=i/\aP H1 H2/\∀(k:Nat) v,acc[k]? =some v->F k v H2,⟨n,by simp,bf _,hT,rfl,aP.refl _,fun k v e=>by simp at e⟩,?_⟩;rintro i m τ acc H2 ⟨rfl,hi,ht,hl,sm,hF⟩;have q:=hc H2 sm;by_cases hlt:i<n
 ·refine .inr ⟨S.go i H2 q hlt,fun τ' acc' H'=>T τ'/\acc'.length=i+1/\aP H1 H'/\∀(k:Nat) v,acc'[k]? =some v->F k v H',fun τ' acc' H' ⟨a,b,c,d⟩=>⟨n-(i+1),by omega,rfl,hlt,a,b,c,d⟩,fun x H3 y=>?_⟩
  obtain⟨y1,y2⟩:=S.yld i H2 x H3 q hlt y;refine step i x τ H3 (fun τ' v H6=>acc.length<sizeLine/\T τ'/\(acc++[v]).length=i+1/\aP H1 H6/\∀(k:Nat) v',(acc++[v])[k]? =some v'->F k v' H6) hlt ht (sm.trans y2) y1 fun τ' v H6 ht' s6 f6=>⟨by omega,ht',by simp[hl],(sm.trans y2).trans s6,fun k v' e=>?_⟩;by_cases hk:k<acc.length
  ·rw[kb hk]at e
   exact Fm k v' H2 H6 (y2.trans s6) (hF k v' e)
  ·rw[gB (by omega)]at e
   have hk0:k-acc.length=0:=by
    have :=(aF.mp e).1
    simp at this;omega
   rw[hk0]at e;have hk':k=i:=by omega
   simp at e;subst e;rw[hk'];exact f6
 ·have e:i=n:=by omega
  subst e;exact .inl ⟨S.stop i H2 q (ax _),fun l hl'=>fin acc H2 l hl hF sm hl'⟩
theorem dF{wi:TI}{g:TG}{tc:TT}{te:TE}{mk:L2.St->L2.St}{σ:L2.St}{H:Hp}{Q:VK}(h:wi σ H fun J H1=>BV J g tc te (mk σ) H1 Q):tZ wi g tc te mk σ H Q:=h
theorem iJ{wi:TI}{g:TG}{tb:TS}{D:Ends}{σ:L2.St}{H:Hp}(h:wi σ H fun J H1=>ForB J g tb D σ H1):tFor wi g tb D σ H:=h
theorem y6{i:Nat}{z:Str}{σ:L2.St}{H:Hp}{R:It->Hp->Prop}(hv:σ[i]? =some (some (.str z)))(h:R (Its z) H):C9 K (kR i) σ H R:=⟨_,hv,.inr (.inr ⟨z,rfl,h⟩)⟩
theorem cI{i:Nat}{a:Addr}{xs:List V}{σ:L2.St}{H:Hp}{R:It->Hp->Prop}(hv:σ[i]? =some (some (.ref a)))(hq:SqL K H a xs)(h:R (Itl K a) H):C9 K (kR i) σ H R:=⟨_,hv,.inl ⟨a,rfl,⟨xs,hq⟩,h⟩⟩
theorem yZ{i:Nat}{a:Addr}{xs:List V}{σ:L2.St}{H:Hp}{R:It->Hp->Prop}(hv:σ[i]? =some (some (.ref a)))(hq:SqT K H a xs)(h:R (Itt K a) H):C9 K (kR i) σ H R:=⟨_,hv,.inr (.inl ⟨a,rfl,⟨xs,hq⟩,h⟩)⟩
theorem bool_list{vs:List V}{n:Nat}{b:Nat->Bool}(hl:vs.length=n)(h:∀(i:Nat) v,vs[i]? =some v->v=.bl (b i)):vs=((aq n).map b).map V.bl:=by
 apply cX
 ·simp[hl]
 ·intro i h1 h2
  have :=h i vs[i] (by simp[h1])
  simp[this]
theorem sM{α:Type}(l:List α)(d:α)(f:α->Bool):((aq l.length).map fun i=>f (l.getD i d)).all id=l.all f:=by
 rw[List.all_map,ee];simp only[bD,aQ,Function.comp,id];constructor
 ·intro h c hc
  obtain⟨i,hi,rfl⟩:=cR.mp hc;have :=h i hi;rw[ah,af hi]at this;exact this
 ·intro h i hi
  have :=h _ (bO hi)
  rw[ah,af hi];exact this
theorem getD_some{α:Type}{l:List α}{i:Nat}{d x:α}(h:l[i]? =some x):l.getD i d=x:=by
 rw[ah,h];rfl
theorem Ar(x y:Str):(x++y).length=x.length+y.length:=by
 show(x.cps++y.cps).size=_;rw[Array.size_append];rfl
end
noncomputable def HasFn(K:ae)(x:Str)(st:Stmt):Prop:=∃(f:Addr)(oc:Value)(od an:Option Addr)(osl:Array (Option Value))(kV doc pm cdv ct:Value),cK K bq x=some (some (.ref f))/\
 K.lookup f=some ⟨oc,od,.func (aD x x (bp st) (aU st) (aH st) .none kV doc pm an cdv ct),osl⟩/\di K cdv x=true/\bH K (.ref f)=true
theorem Ga{K:ae}{x:Str}{st:Stmt}{f:Addr}{oc:Value}{od an:Option Addr}{osl:Array (Option Value)}{kV doc pm cdv ct:Value}(a:cK K bq x=some (some (.ref f)))
  (l:K.lookup f=some ⟨oc,od,.func (aD x x (bp st) (aU st) (aH st) .none kV doc pm an cdv ct),osl⟩)(c:di K cdv x=true)(k:bH K (.ref f)=true):HasFn K x st:=
 ⟨f,oc,od,an,osl,kV,doc,pm,cdv,ct,a,l,c,k⟩
structure Def(K:ae)(mg:Str->Option Value)(x:Str)(st:Stmt):Prop where
 ex:∃f fd,Fun K x x st f fd/\mg x=some (.ref f)
theorem HasFn.def{K:ae}{h:Heap}{mg:Str->Option Value}{x:Str}{st:Stmt}(X:K.In h)(Gm:h.Ns bq mg)(H:HasFn K x st):Def K mg x st:=by
 obtain⟨f,oc,od,an,osl,kV,doc,pm,cdv,ct,a,l,c,k⟩:=H;exact⟨f,_,pj l c k,cP X Gm a⟩
section
variable {P:Program}{w:World}{K:ae}{mg:Str->Option Value}{base:Heap}
theorem d3{k:Nat}{vals:List (Str×V)}{fns:List ((Str×Nat)×(Sp×List V))}{x:Str}{st:Stmt}{N ps:List Str}{sp:Sp}{code:CB}{inis maks mths:List ((Str×Nat)×(Addr×Sp×List V))}{dics:List (Addr×List (Key×V))}(g:GOk P w K mg base (CXx P w) k (gam vals fns inis dics maks mths))(d:Def K mg x st)
  (hc:(kE N ps (aH st)&&m6 (aH st) N code (aU st))=true)
  (hb:∀(kV doc pm:Value)(an:Option Addr)(cdv ct:Value)(us:List Value),us.length=ps.length->iZ (aD x x (bp st) (aU st) (aH st) .none kV doc pm an cdv ct) ⟨us,[]⟩=pure (ps.zip us))
  (len:∀vs H Q E,sp vs H Q E->vs.length=ps.length)
  (h:∀vs H Q E,sp vs H Q E->wpB (gam vals fns inis dics maks mths) K (fun _=>E) code {nx:=fun _ H'=>Q .non H',rt:=Q} (L2.start N vs) H):GOk P w K mg base (CXx P w) (k+1) (gam vals (((x,ps.length),(sp,[]))::fns) inis dics maks mths):=by
 rw[aj]at hc;obtain⟨f,fd,F,hm⟩:=d.ex;exact g.add (n:=ps.length) (n6 F hc.1 hc.2 g len h) hm F.kp (F.binds hb) .nil
end
end R
set_option hygiene false in
local macro_rules | `(tactic| walk_at "wp") => `(tactic| simp only [_root_.R.wpB, _root_.R.wpS, _root_.R.wpE, _root_.R.wpT, _root_.R.wpL, _root_.R.wpO, _root_.R.wpC, _root_.R.wpG, _root_.R.wpGs, _root_.R.wpI, _root_.L2.tp, _root_.L2.tRet, _root_.L2.Em, _root_.L2.xB, _root_.L2.vq, _root_.L2.Ep, _root_.L2.tIfS, _root_.L2.Et, _root_.L2.tOrV, _root_.L2.Eo, _root_.L2.tNot, _root_.L2.tAnd, _root_.L2.tOr, _root_.L2.xy, _root_.R.xx, _root_.L2.tIf, _root_.L2.tCB, _root_.L2.iC, _root_.L2.jC, _root_.L2.kR, _root_.L2.tC, _root_.L2.tOp, _root_.L2.tUn, _root_.L2.qP, _root_.L2.tTup, _root_.L2.tLst, _root_.L2.xD, _root_.L2.tBM, _root_.L2.tBM0, _root_.L2.tSl, _root_.L2.En, _root_.L2.vp, _root_.R.cv, _root_.L2.kG, _root_.L2.gSub, _root_.L2.gTup, _root_.L2.Gf, _root_.L2.gNil, _root_.R.CGs.len, _root_.L2.F6, _root_.L2.F5, _root_.L2.F7, _root_.L2.iTup, _root_.L2.iEnum, _root_.List.getElem?_cons_zero, _root_.List.getElem?_cons_succ, _root_.Option.some.injEq, _root_.exists_eq_left', _root_.exists_eq_left, _root_.L2.V.bl.injEq, _root_.L2.V.int.injEq, _root_.L2.V.str.injEq, _root_.List.set_cons_zero, _root_.List.set_cons_succ, _root_.R.CL.len, _root_.R.Ty.t, _root_.R.GY, _root_.R.sub_ii, _root_.R.mul_ii, _root_.R.mod_ii, _root_.R.div_ii, _root_.R.pow_ii, _root_.R.add_ss, _root_.R.FL, _root_.R.FP, _root_.R.Gb, _root_.R.uK, _root_.R.ne_ii, _root_.R.eq_ss, _root_.R.ne_ss, _root_.R.isnot_n, _root_.R.len_s, _root_.R.idx_s, _root_.List.append_nil, _root_.R.lM, _root_.List.map_cons, _root_.List.map_nil, _root_.List.nil_append, _root_.List.cons_append])
namespace Cp
open PySem R
noncomputable def Ad:List Str:=["thing"]
noncomputable def rD:List Str:=["thing"]
noncomputable def sD:CB:=
  (.cons (.ret (.and (.bfn .isinstance (.cons (.var 0) (.cons (.ty .int) .nil))) (.not (.bfn .isinstance (.cons (.var 0) (.cons (.ty .bool) .nil))))))
  .nil)
noncomputable def Cy:List Str:=["thing"]
noncomputable def uA:List Str:=["thing"]
noncomputable def uO:CB:=
  (.cons (.iff (.not (.bfn .isinstance (.cons (.var 0) (.cons (.ty .str) .nil))))
  (.cons (.ret (.con (.bool false)))
  .nil)
  .nil)
  (.cons (.iff (.not (.chain .LtE .LtE (.con (.int 1)) (.bfn .len (.cons (.var 0) .nil)) (.glo "LONGEST_NAME")))
  (.cons (.ret (.con (.bool false)))
  .nil)
  .nil)
  (.cons (.ret (.bfn .all (.cons (.comp ["sign"] [] (.name 0) (.seq (.var 0)) .no (.cmp .In (.var 0) (.glo "LETTERS"))) .nil)))
  .nil)))
noncomputable def vW:List Str:=["thing"]
noncomputable def nT:List Str:=["thing"]
noncomputable def oi:CB:=
  (.cons (.ret (.and (.call "is_whole" (.cons (.var 0) .nil)) (.cmp .In (.var 0) (.tup (.cons (.con (.int 0)) (.cons (.con (.int 1)) .nil))))))
  .nil)
noncomputable def rn:List Str:=["thing"]
noncomputable def lu:List Str:=["thing"]
noncomputable def lJ:CB:=
  (.cons (.iff (.or (.not (.bfn .isinstance (.cons (.var 0) (.cons (.ty .tuple) .nil)))) (.cmp .Gt (.bfn .len (.cons (.var 0) .nil)) (.glo "MOST_PLACES")))
  (.cons (.ret (.con (.bool false)))
  .nil)
  .nil)
  (.cons (.ret (.bfn .all (.cons (.comp ["part"] [] (.name 0) (.seq (.var 0)) .no (.call "is_reading" (.cons (.var 0) .nil))) .nil)))
  .nil))
end Cp
set_option maxHeartbeats 1000000
namespace Cp
open PySem PySem.Spec PyProof.Rows L2 R
noncomputable def gL:Option HO->String
 |some (.lst _)=>"list"
 |some (.frz _ (.lst _))=>"list"
 |some (.tup _)=>"tuple"
 |some (.dK _)=>"dict"
 |some (.dT _)=>"dict"
 |_=>"?"
noncomputable def tyName(H:Hp):V->String
 |.non=>"NoneType"
 |.bl _=>"bool"
 |.int _=>"int"
 |.str _=>"str"
 |.ref a=>gL (H a)
 |_=>"?"
noncomputable def Known(H:Hp)(x:V):Prop:=tyName H x≠"?"
theorem Known.same{H H':Hp}{x:V}(h:Known H x)(s:aP H H'):Known H' x/\tyName H' x=tyName H x:=by
 cases x with
 |ref a=>
  have h':gL (H a)≠"?":=h;show gL (H' a)≠"?"/\gL (H' a)=gL (H a);cases e:H a with
  |none=>rw[e]at h';exact absurd rfl h'
  |some o=>rw[s a o e];rw[e]at h';exact⟨h',rfl⟩
 |_=>exact⟨h,rfl⟩
theorem Known.ty{K:ae}{H:Hp}{x:V}(h:Known H x):kW K H x (.type (tyName H x)):=by
 cases x with
 |non=>exact .non
 |bl b=>exact .bl b
 |int i=>exact .int i
 |str s=>exact .str s
 |ref a=>
  have h':gL (H a)≠"?":=h;show kW K H (.ref a) (.type (gL (H a)));cases e:H a with
  |none=>rw[e]at h';exact absurd rfl h'
  |some o=>
   rw[e]at h';cases o with
   |lst xs=>exact .lst e
   |tup xs=>exact .tup e
   |dK kvs=>exact .dK e
   |dT kvs=>exact .dT e
   |frz ob u=>
    cases u with
    |lst xs=>exact .frz e
    |_=>exact absurd rfl h'
   |_=>exact absurd rfl h'
 |_=>exact absurd rfl h
theorem Known.mem{H:Hp}{x:V}(h:Known H x):tyName H x∈["NoneType","bool","int","str","list","tuple","dict"]:=by
 cases x with
 |ref a=>
  have h':gL (H a)≠"?":=h;show gL (H a)∈_;cases e:H a with
  |none=>rw[e]at h';exact absurd rfl h'
  |some o=>
   rw[e]at h';cases o with
   |lst xs=>simp[gL]
   |tup xs=>simp[gL]
   |dK kvs=>simp[gL]
   |dT kvs=>simp[gL]
   |frz ob u=>
    cases u with
    |lst xs=>simp[gL]
    |_=>exact absurd rfl h'
   |_=>exact absurd rfl h'
 |_=>first
  |exact absurd rfl h
  |simp[tyName]
noncomputable def jq(a b:String):Bool:=a==b||(a=="bool"&&b=="int")
theorem kit_ty(K:ae):∀(a:String)(t:Ty),a∈["NoneType","bool","int","str","list","tuple","dict"]->ic K (.type a) (.type t.t)=some (jq a t.t):=by
 intro a t h;simp only[ay,bJ,or_false]at h;rcases h with rfl|rfl|rfl|rfl|rfl|rfl|rfl<;>cases t<;>rfl
theorem isi{K:ae}{H:Hp}{x:V}{Q:VK}(h:Known H x)(t:Ty)(q:Q (.bl (jq (tyName H x) t.t)) H):rBf K .isinstance [x,.ty t.t] H Q:=
 .inl ⟨x,t.t,_,_,rfl,h.ty,kit_ty K _ t h.mem,q⟩
theorem rN{H:Hp}{i:Int}:Known H (.int i):=by show "int"≠"?";decide
theorem wt{H:Hp}{x:Str}:Known H (.str x):=by show "str"≠"?";decide
theorem rM{H:Hp}{a:Addr}{xs:List V}(h:H a=some (.tup xs)):Known H (.ref a):=by show gL (H a)≠"?";rw[h];show "tuple"≠"?";decide
theorem FR{H:Hp}{a:Addr}{xs:List V}(h:H a=some (.lst xs)):Known H (.ref a):=by show gL (H a)≠"?";rw[h];show "list"≠"?";decide
theorem iD{H H1:Hp}{l:Addr}{o:HO}(s:aP H H1)(h:H l=none):aP H (upd H1 l o):=fun b u e=>by rw[aY (cf e h)];exact s b u e
noncomputable def isWhole:V->Bool
 |.int _=>true
 |_=>false
noncomputable def bG:V->Bool
 |.int i=>i==0||i==1
 |_=>false
noncomputable def spB(f:V->Bool):Sp:=fun vs H Q _=>∃x,vs=[x]/\Known H x/\∀H',aP H H'->Q (.bl (f x)) H'
theorem sub_int{H:Hp}{x:V}(h:Known H x):(jq (tyName H x) "int"&& !jq (tyName H x) "bool")=isWhole x:=by
 cases x with
 |ref a=>
  have h':gL (H a)≠"?":=h;show(jq (gL (H a)) "int"&& !jq (gL (H a)) "bool")=false;unfold gL;split <;>rfl
 |_=>rfl
theorem xq{G:Gam}{K:ae}:Sat G K (spB isWhole) sD rD:=by
 rintro vs H Q E ⟨x,rfl,hk,q⟩;unfold sD;change wpB G K _ _ _ [some x] H;walk_at "wp";refine isi hk .int ⟨_,rfl,?_⟩;have e:=sub_int hk;cases h1:jq (tyName H x) "int" with
 |false=>
  rw[h1,dG]at e;have q1:=q H (aP.refl H);rw[<-e]at q1;simpa[Ty.t,h1]using q1
 |true=>
  rw[h1,dD]at e;have q1:=q H (aP.refl H);rw[<-e]at q1;simp only[Ty.t,h1,if_true];exact isi hk .bool ⟨_,rfl,q1⟩
theorem tj{G:Gam}{K:ae}(g1:G.fn "is_whole" 1=some (spB isWhole,[])):
  Sat G K (spB bG) oi nT:=by
 rintro vs H Q E ⟨x,rfl,hk,q⟩;unfold oi;change wpB G K _ _ _ [some x] H;walk_at "wp";refine⟨_,_,g1,x,rfl,hk,fun H1 s1=>⟨_,rfl,?_⟩⟩;cases x with
 |int i=>
  refine⟨by decide,fun p hp=>.inr ⟨p,_,rfl,.inr (SqT.of az),rfl,rfl,?_⟩⟩;have q1:=q _ (s1.trans (aK (o:=.tup [.int 0,.int 1]) hp));have e:(if false=true then !inV (.int i) [.int 0,.int 1]else inV (.int i) [.int 0,.int 1])=bG (.int i):=by
   show((0:Int)==i||((1:Int)==i||false))=(i==0||i==1);rw[zz,Bool.beq_comm,Bool.beq_comm (a:=(1:Int))]
  rw[e];exact q1
 |_=>exact q H1 s1
noncomputable def kl(c:Nat):Bool:=decide (97<=c/\c<=122)
noncomputable def eH(z:Str):Bool:=decide (1<=z.length/\z.length<=8)&&z.cps.toList.all kl
noncomputable def isName:V->Bool
 |.str z=>eH z
 |_=>false
noncomputable def LETTERS:Str:="abcdefghijklmnopqrstuvwxyz"
theorem yp(c:Nat):decide (c∈LETTERS.cps.toList)=kl c:=by
 unfold kl;rw[show LETTERS.cps.toList=List.range' 97 26 by decide+kernel,decide_eq_decide,List.mem_range'_1];exact⟨fun h=>⟨h.1,Nat.le_of_lt_succ h.2⟩,fun h=>⟨h.1,Nat.lt_succ_of_le h.2⟩⟩
theorem Az{K:ae}{H:Hp}{c:Nat}{Q:VK}(q:Q (.bl (kl c)) H):gv K .In (.str ⟨#[c]⟩) (.str LETTERS) H Q:=by
 refine .inl ⟨_,_,rfl,rfl,?_⟩;rw[StrLaws.found_one,yp];exact q
theorem wq:(20000:Nat)<=sizeLine:=by decide
noncomputable def spN:Sp:=fun vs H Q _=>∃x,vs=[x]/\Known H x/\(∀z,x=.str z->z.length<=20000)/\∀H',aP H H'->Q (.bl (isName x)) H'
theorem sub_str{H:Hp}{x:V}(h:Known H x):jq (tyName H x) "str"=(match x with |.str _=>true|_=>false):=by
 cases x with
 |ref a=>
  show jq (gL (H a)) "str"=false;unfold gL;split <;>rfl
 |_=>rfl
theorem zB{G:Gam}{K:ae}(v1:G.val "LETTERS"=some (.str LETTERS))(v2:G.val "LONGEST_NAME"=some (.int 8)):
  Sat G K spN uO uA:=by
 rintro vs H Q E ⟨x,rfl,hk,hz,q⟩;unfold uO;change wpB G K _ _ _ [some x] H;walk_at "wp";refine isi hk .str ⟨_,rfl,?_⟩;rw[show Ty.t .str="str" from rfl,sub_str hk];cases x with
 |str z=>
  have hz:=hz z rfl;have hl:z.length<=sizeLine:=aI hz wq;have all:∀R:VK,(∀H',aP H H'->R (.bl (z.cps.toList.all kl)) H')->tZ (C9 K (kR 0)) (kG 0) tYes (tOp (gv K .In) (kR 0) fun σ H Q=>∃v,G.val "LETTERS"=some v/\Q v H) (lM ["sign"] []) [some (.str z)] H fun x H2=>rBf K .all [x] H2 R:=by
   intro R hR;refine dF (y6 rfl (dP seq_str hl (fun _ _=>trivial) (fun i v _=>v=.bl (kl (z.cps.toList.getD i 0))) (fun _ _ _ _ _ h=>h) (fun τ=>∃t,τ=[t]) ⟨none,rfl⟩ ?_ ?_))
   ·rintro i x τ H3 R hi ⟨t,rfl⟩ s3 ⟨c,hc,rfl⟩ k
    refine⟨_,rfl,_,v1,Az (k _ _ _ ⟨_,rfl⟩ (aP.refl _) ?_)⟩;have :z.cps.toList[i]? =some c:=by simpa using hc
    rw[ah,this];rfl
   ·intro vs H2 l hvl hF s2 hl2
    have e:=bool_list hvl hF;subst e;refine⟨l,_,rfl,SqL.of az,?_⟩;have e2:((aq z.length).map fun i=>kl (z.cps.toList.getD i 0)).all id=z.cps.toList.all kl:=by
     have :=sM z.cps.toList 0 kl
     rw[show z.cps.toList.length=z.length by simp[zd]]at this;exact this
    rw[e2];exact hR _ (s2.trans (aK hl2))
  simp only[eF,aJ,if_false,v2,cU,exists_eq_left',exists_eq_left,V.bl.injEq,V.int.injEq,FP,len_s,hl,true_and];have q':∀H',aP H H'->Q (.bl (eH z)) H':=q;unfold eH at q';by_cases h1:1<=z.length
  ·by_cases h2:z.length<=8
   ·have e1:decide ((1:Int)<=z.length)=true:=decide_eq_true (by omega)
    have e2:decide ((z.length:Int)<=8)=true:=decide_eq_true (by omega);rw[decide_eq_true (And.intro h1 h2),dD]at q';simp only[e1,e2,if_true,eF,aJ,if_false];exact all Q q'
   ·have e1:decide ((1:Int)<=z.length)=true:=decide_eq_true (by omega)
    have e2:decide ((z.length:Int)<=8)=false:=decide_eq_false (by omega);rw[decide_eq_false (fun h=>h2 h.2),dG]at q';simp only[e1,e2,if_true,Bool.not_false];exact q' H (aP.refl H)
  ·have e1:decide ((1:Int)<=z.length)=false:=decide_eq_false (by omega)
   rw[decide_eq_false (fun h=>h1 h.1),dG]at q';simp only[e1,aJ,if_false,Bool.not_false,if_true];exact q' H (aP.refl H)
 |_=>exact q H (aP.refl H)
noncomputable def cG:Option HO->Option (List V)
 |some (.tup xs)=>some xs
 |_=>none
theorem kq{o:Option HO}{xs:List V}(h:cG o=some xs):o=some (.tup xs):=by
 unfold cG at h;split at h
 ·cases h;rfl
 ·cases h
theorem t7(o:Option HO):jq (gL o) "tuple"=(cG o).isSome:=by
 unfold gL;split <;>first
  |rfl
  |skip
 unfold cG;split <;>simp_all
 rfl
noncomputable def cq(H:Hp):V->Bool
 |.ref a=>match cG (H a)with
  |some xs=>decide (xs.length<=60)&&xs.all bG
  |none=>false
 |_=>false
noncomputable def spR:Sp:=fun vs H Q _=>∃x,vs=[x]/\Known H x/\(∀a xs,x=.ref a->H a=some (.tup xs)->xs.length<=20000/\∀y∈xs,Known H y)/\∀H',aP H H'->Q (.bl (cq H x)) H'
theorem qe{G:Gam}{K:ae}(g1:G.fn "is_reading" 1=some (spB bG,[]))(v1:G.val "MOST_PLACES"=some (.int 60)):
  Sat G K spR lJ lu:=by
 rintro vs H Q E ⟨x,rfl,hk,hx,q⟩;unfold lJ;change wpB G K _ _ _ [some x] H;walk_at "wp";refine isi hk .tuple ⟨_,rfl,?_⟩;rw[show Ty.t .tuple="tuple" from rfl];cases x with
 |ref a=>
  show if(!jq (gL (H a)) "tuple")=true then _ else _
  rw[t7];have q0:∀H',aP H H'->Q (.bl (match cG (H a)with |some xs=>decide (xs.length<=60)&&xs.all bG|none=>false)) H':=q;cases e0:cG (H a)with
  |none=>
   rw[e0]at q0;exact q0 H (aP.refl H)
  |some xs=>
    rw[e0]at q0;have e:=kq e0;have q':∀H',aP H H'->Q (.bl (decide (xs.length<=60)&&xs.all bG)) H':=q0;obtain⟨hl,hy⟩:=hx a xs rfl e;have hl':xs.length<=sizeLine:=aI hl wq;simp only[gV,eF,aJ,if_false];refine Or.inl ⟨a,xs,rfl,.inr (SqT.of e),_,v1,?_⟩;rw[Gb];refine⟨_,rfl,?_⟩;by_cases hle:xs.length<=60
    ·rw[decide_eq_true hle,dD]at q'
     have e1:decide ((60:Int)<xs.length)=false:=decide_eq_false (by omega);rw[e1];simp only[aJ,if_false];refine dF (yZ rfl (SqT.of e) (dP AZ hl' (fun H1 s1=>s1.tup (SqT.of e)) (fun i v _=>v=.bl (bG (xs.getD i .non))) (fun _ _ _ _ _ h=>h) (fun τ=>∃t,τ=[t]) ⟨none,rfl⟩ ?_ ?_))
     ·rintro i y τ H3 R hi ⟨t,rfl⟩ s3 hy3 k
      have hym:y∈xs:=aR hy3;exact⟨_,_,g1,y,rfl,y,rfl,((hy y hym).same s3).1,fun H4 s4=>k _ _ _ ⟨_,rfl⟩ s4 (by rw[getD_some hy3])⟩
     ·intro vs H2 l hvl hF s2 hl2
      have e:=bool_list hvl hF;subst e;refine⟨l,_,rfl,SqL.of az,?_⟩;rw[sM xs .non bG];exact q' _ (s2.trans (aK hl2))
    ·rw[decide_eq_false hle,dG]at q'
     have e1:decide ((60:Int)<xs.length)=true:=decide_eq_true (by omega);rw[e1];simpa using q' H (aP.refl H)
 |_=>exact q H (aP.refl H)
end Cp
namespace Cp
open PySem R
noncomputable def Cz:List Str:=["thing"]
noncomputable def uB:List Str:=["thing"]
noncomputable def uP:CB:=
  (.cons (.iff (.or (.not (.bfn .isinstance (.cons (.var 0) (.cons (.ty .tuple) .nil)))) (.cmp .NotEq (.bfn .len (.cons (.var 0) .nil)) (.con (.int 2))))
  (.cons (.ret (.con (.bool false)))
  .nil)
  .nil)
  (.cons (.ret (.and (.call "is_name" (.cons (.idx (.var 0) (.con (.int 0))) .nil)) (.call "are_readings" (.cons (.idx (.var 0) (.con (.int 1))) .nil))))
  .nil))
noncomputable def Ae:List Str:=["thing"]
noncomputable def rE:List Str:=["thing","names","counts"]
noncomputable def sE:CB:=
  (.cons (.iff (.or (.not (.bfn .isinstance (.cons (.var 0) (.cons (.ty .list) .nil)))) (.cmp .Gt (.bfn .len (.cons (.var 0) .nil)) (.glo "MOST_COPIES")))
  (.cons (.ret (.con (.bool false)))
  .nil)
  .nil)
  (.cons (.iff (.not (.bfn .all (.cons (.comp ["part"] [] (.name 0) (.seq (.var 0)) .no (.call "is_copy" (.cons (.var 0) .nil))) .nil)))
  (.cons (.ret (.con (.bool false)))
  .nil)
  .nil)
  (.cons (.asgc 1 (.comp ["name","readings"] [] (.tup (.cons (.name 0) (.cons (.name 1) .nil))) (.seq (.var 0)) .no (.var 0)))
  (.cons (.asgc 2 (.comp ["name","readings"] [] (.tup (.cons (.name 0) (.cons (.name 1) .nil))) (.seq (.var 0)) .no (.bfn .len (.cons (.var 1) .nil))))
  (.cons (.ret (.and (.cmp .Eq (.bfn .len (.cons (.bfn .set (.cons (.var 1) .nil)) .nil)) (.bfn .len (.cons (.var 1) .nil))) (.cmp .LtE (.bfn .len (.cons (.bfn .set (.cons (.var 2) .nil)) .nil)) (.con (.int 1)))))
  .nil)))))
noncomputable def vV:List Str:=["table"]
noncomputable def nS:List Str:=["table"]
noncomputable def oa:CB:=
  (.cons (.iff (.not (.call "is_table" (.cons (.var 0) .nil)))
  (.cons (.rais "NoTable" (.cons (.con (.str "this is no table")) .nil))
  .nil)
  .nil)
  .nil)
noncomputable def tB:List Str:=["table"]
noncomputable def mo:List Str:=["table"]
noncomputable def mD:CB:=
  (.cons (.expr (.call "need_table" (.cons (.var 0) .nil)))
  (.cons (.iff (.cmp .Eq (.bfn .len (.cons (.var 0) .nil)) (.con (.int 0)))
  (.cons (.ret (.con (.int 0)))
  .nil)
  .nil)
  (.cons (.ret (.bfn .len (.cons (.idx (.idx (.var 0) (.con (.int 0))) (.con (.int 1))) .nil)))
  .nil)))
end Cp
namespace Cp
open PySem PySem.Spec PyProof.Rows L2 R
noncomputable def Kn1(H:Hp)(x:V):Prop:=Known H x/\∀z,x=.str z->z.length<=20000
noncomputable def Kn2(H:Hp)(x:V):Prop:=Kn1 H x/\∀a xs,x=.ref a->H a=some (.tup xs)->xs.length<=20000/\∀y∈xs,Kn1 H y
noncomputable def Kn3(H:Hp)(x:V):Prop:=Kn1 H x/\∀a xs,x=.ref a->H a=some (.tup xs)->xs.length<=20000/\∀y∈xs,Kn2 H y
noncomputable def dY:Option HO->Option (List V)
 |some (.lst xs)=>some xs
 |some (.frz _ (.lst xs))=>some xs
 |_=>none
noncomputable def Kn4(H:Hp)(x:V):Prop:=Kn1 H x/\∀a xs,x=.ref a->dY (H a)=some xs->xs.length<=20000/\∀y∈xs,Kn3 H y
theorem vb{H H':Hp}{a:Addr}{o:HO}(s:aP H H')(k:H a≠none)(h:H' a=some o):H a=some o:=by
 cases e:H a with
 |none=>exact absurd e k
 |some u=>rw[s a u e]at h;exact h
theorem Known.some{H:Hp}{a:Addr}(k:Known H (.ref a)):H a≠none:=fun e=>by
 have k':gL (H a)≠"?":=k;rw[e]at k';exact k' rfl
theorem Kn1.same{H H':Hp}{x:V}(h:Kn1 H x)(s:aP H H'):Kn1 H' x:=⟨(h.1.same s).1,h.2⟩
theorem Kn2.same{H H':Hp}{x:V}(h:Kn2 H x)(s:aP H H'):Kn2 H' x:=⟨h.1.same s,fun a xs e hx=>by
 subst e;obtain⟨l,k⟩:=h.2 a xs rfl (vb s h.1.1.some hx);exact⟨l,fun y hy=>(k y hy).same s⟩⟩
theorem Kn3.same{H H':Hp}{x:V}(h:Kn3 H x)(s:aP H H'):Kn3 H' x:=⟨h.1.same s,fun a xs e hx=>by
 subst e;obtain⟨l,k⟩:=h.2 a xs rfl (vb s h.1.1.some hx);exact⟨l,fun y hy=>(k y hy).same s⟩⟩
theorem vc{H H':Hp}{x:V}(h:Known H x)(s:aP H H'):cq H' x=cq H x:=by
 cases x with
 |ref a=>
  show(match cG (H' a)with |some xs=>_|none=>_)=(match cG (H a)with |some xs=>_|none=>_);cases e:H a with
  |none=>exact absurd e h.some
  |some o=>rw[s a o e]
 |_=>rfl
noncomputable def cF(H:Hp):V->Bool
 |.ref a=>match cG (H a)with
  |some [n,r]=>isName n&&cq H r
  |_=>false
 |_=>false
theorem Dk{H H':Hp}{x:V}(h:Kn3 H x)(s:aP H H'):cF H' x=cF H x:=by
 cases x with
 |ref a=>
  show(match cG (H' a)with |some [n,r]=>_|_=>_)=(match cG (H a)with |some [n,r]=>_|_=>_);cases e:H a with
  |none=>exact absurd e h.1.1.some
  |some o=>
   rw[s a o e];cases o with
   |tup xs=>
    match xs with
    | []=>rfl
    | [_]=>rfl
    | [n,r]=>
     have k:=(h.2 a _ rfl e).2 r (by simp);show(isName n&&cq H' r)=(isName n&&cq H r);rw[vc k.1.1 s]
    |_::_::_::_=>rfl
   |_=>rfl
 |_=>rfl
noncomputable def spC:Sp:=fun vs H Q _=>∃x,vs=[x]/\Kn3 H x/\∀H',aP H H'->Q (.bl (cF H x)) H'
theorem zC{G:Gam}{K:ae}(g1:G.fn "is_name" 1=some (spN,[]))(g2:G.fn "are_readings" 1=some (spR,[])):
  Sat G K spC uP uB:=by
 rintro vs H Q E ⟨x,rfl,hk,q⟩;unfold uP;change wpB G K _ _ _ [some x] H;walk_at "wp";refine isi hk.1.1 .tuple ⟨_,rfl,?_⟩;rw[show Ty.t .tuple="tuple" from rfl];cases x with
 |ref a=>
  show if(!jq (gL (H a)) "tuple")=true then _ else _
  rw[t7];have q0:∀H',aP H H'->Q (.bl (match cG (H a)with |some [n,r]=>isName n&&cq H r|_=>false)) H':=q;cases e0:cG (H a)with
  |none=>
   rw[e0]at q0;exact q0 H (aP.refl H)
  |some xs=>
   have e:=kq e0;rw[e0]at q0;obtain⟨hl,hy⟩:=hk.2 a xs rfl e;simp only[gV,eF,aJ,if_false];refine Or.inl ⟨a,xs,rfl,.inr (SqT.of e),?_⟩;show gv K .NotEq (.int (xs.length:Int)) (.int 2) H _;rw[ne_ii];refine⟨_,rfl,?_⟩
   match xs,hl,hy,e,q0 with
   | [],_,_,_,q0=>exact q0 H (aP.refl H)
   | [_],_,_,_,q0=>exact q0 H (aP.refl H)
   |_::_::_::r,_,_,_,q0=>
    rw[if_pos (by simp;omega)];exact q0 H (aP.refl H)
   | [n,r],_,hy,e,q0=>
    rw[if_neg (by simp)];have kn:=hy n (by simp);have kr:=hy r (by simp);refine⟨_,_,g1,.inr (.inl ⟨a,[n,r],0,n,rfl,rfl,SqT.of e,rfl,n,rfl,kn.1.1,kn.1.2,fun H1 s1=>⟨_,rfl,?_⟩⟩)⟩;have q1:∀H',aP H H'->Q (.bl (isName n&&cq H r)) H':=q0;cases en:isName n with
    |false=>
     rw[en,dG]at q1;rw[if_neg aC];exact q1 H1 s1
    |true=>
     rw[en,dD]at q1;rw[if_pos rfl];have kr1:=kr.same s1;refine⟨_,_,g2,.inr (.inl ⟨a,[n,r],1,r,rfl,rfl,s1.tup (SqT.of e),rfl,r,rfl,kr1.1.1,fun b ys eb hb=>?_,fun H2 s2=>?_⟩)⟩
     ·obtain⟨l,k⟩:=kr1.2 b ys eb hb
      exact⟨l,fun y hy=>(k y hy).1⟩
     ·rw[vc kr.1.1 s1]
      exact q1 H2 (s1.trans s2)
 |_=>exact q H (aP.refl H)
theorem ym{xs vs:List V}{f:V->V}(hl:vs.length=xs.length)(h:∀(i:Nat) v,vs[i]? =some v->v=f (xs.getD i .non)):vs=xs.map f:=by
 apply cX
 ·simp[hl]
 ·intro i h1 h2
  have h3:i<xs.length:=by omega
  have :=h i vs[i] (by simp[h1])
  rw[this,cB,ah,af h3];rfl
theorem uw:∀(l:List Str),(l.map (eU:Str->Key)).Nodup↔l.Nodup
 | []=>by simp
 |x::l=>by
  rw[bK,cA,cA,uw l];have e:eU x∈l.map (eU:Str->Key)↔x∈l:=by
   constructor
   ·intro h
    obtain⟨y,hy,e⟩:=aO.mp h;injection e with e
    rw[<-e];exact hy
   ·exact fun h=>aO.mpr ⟨x,h,rfl⟩
  rw[e]
theorem jb{K:ae}{H:Hp}{a:Addr}{xs:List V}(h:dY (H a)=some xs):SqL K H a xs:=by
 unfold dY at h;split at h
 ·rename_i e;cases h;exact .inl (.inl e)
 ·rename_i o _ e;cases h;exact .inl (.inr ⟨o,e⟩)
 ·cases h
theorem Eu(o:Option HO):jq (gL o) "list"=(dY o).isSome:=by
 unfold gL;split <;>first
  |rfl
  |skip
 unfold dY;split <;>simp_all
 rfl
noncomputable def aN(H:Hp):V->Str
 |.ref a=>match cG (H a)with
  |some (.str z::_)=>z
  |_=>""
 |_=>""
noncomputable def bX(H:Hp):V->Nat
 |.ref a=>match cG (H a)with
  |some [_,.ref b]=>(cG (H b)).elim 0 il
  |_=>0
 |_=>0
theorem gM{H:Hp}{x:V}(h:cF H x=true):∃a z b ys,x=.ref a/\H a=some (.tup [.str z,.ref b])/\H b=some (.tup ys)/\eH z=true/\ys.length<=60/\(∀y∈ys,bG y=true)/\aN H x=z/\bX H x=ys.length:=by
 cases x with
 |ref a=>
  have h':(match cG (H a)with |some [n,r]=>isName n&&cq H r|_=>false)=true:=h;split at h'
  ·rename_i n r e
   rw[aj]at h';obtain⟨h1,h2⟩:=h';cases n with
   |str z=>
    cases r with
    |ref b=>
     have h3:(match cG (H b)with |some xs=>decide (xs.length<=60)&&xs.all bG|none=>false)=true:=h2;split at h3
     ·rename_i ys eb
      rw[aj,decide_eq_true_eq,bD]at h3;refine⟨a,z,b,ys,rfl,kq e,kq eb,h1,h3.1,h3.2,?_,?_⟩
      ·show(match cG (H a)with |some (.str z::_)=>z|_=>"")=z
       rw[e]
      ·show(match cG (H a)with |some [_,.ref b]=>(cG (H b)).elim 0 il|_=>0)=ys.length
       rw[e];show(cG (H b)).elim 0 il=ys.length;rw[eb];rfl
     ·cases h3
    |_=>cases h2
   |_=>cases h1
  ·cases h'
 |_=>cases h
noncomputable def cV(H:Hp):V->Bool
 |.ref a=>match dY (H a)with
  |some xs=>decide (xs.length<=40)&&(xs.all (cF H)&&(decide ((xs.map (aN H)).Nodup)&&decide (∀y∈xs,∀z∈xs,bX H y=bX H z)))
  |none=>false
 |_=>false
noncomputable def spT:Sp:=fun vs H Q _=>∃x,vs=[x]/\Kn4 H x/\∀H',aP H H'->Q (.bl (cV H x)) H'
theorem xr{G:Gam}{K:ae}(g1:G.fn "is_copy" 1=some (spC,[]))(v1:G.val "MOST_COPIES"=some (.int 40)):
  Sat G K spT sE rE:=by
 rintro vs H Q E ⟨x,rfl,hk,q⟩;unfold sE;change wpB G K _ _ _ [some x,none,none] H;walk_at "wp";refine isi hk.1.1 .list ⟨_,rfl,?_⟩;rw[show Ty.t .list="list" from rfl];cases x with
 |ref a=>
  show if(!jq (gL (H a)) "list")=true then _ else _
  rw[Eu];have q0:∀H',aP H H'->Q (.bl (match dY (H a)with |some xs=>decide (xs.length<=40)&&(xs.all (cF H)&&(decide ((xs.map (aN H)).Nodup)&&decide (∀y∈xs,∀z∈xs,bX H y=bX H z))) |none=>false)) H':=q;cases e0:dY (H a)with
  |none=>
   rw[e0]at q0;exact q0 H (aP.refl H)
  |some xs=>
   rw[e0]at q0;obtain⟨hl,hy⟩:=hk.2 a xs rfl e0;have hl':xs.length<=sizeLine:=aI hl wq;simp only[gV,eF,aJ,if_false];refine Or.inl ⟨a,xs,rfl,.inl (jb e0),_,v1,?_⟩;rw[Gb];refine⟨_,rfl,?_⟩;by_cases hle:xs.length<=40
   ·rw[decide_eq_false (by omega:¬(40:Int)<xs.length),if_neg aC]
    have qq:∀H',aP H H'->Q (.bl (xs.all (cF H)&&(decide ((xs.map (aN H)).Nodup)&&decide (∀y∈xs,∀z∈xs,bX H y=bX H z)))) H':=fun H' s'=>by
     have z:Q (.bl (decide (xs.length<=40)&&(xs.all (cF H)&&(decide ((xs.map (aN H)).Nodup)&&decide (∀y∈xs,∀z∈xs,bX H y=bX H z))))) H':=q0 H' s';rw[decide_eq_true hle,dD]at z;exact z
    have sq:∀{H1:Hp},aP H H1->SqL K H1 a xs:=fun s1=>s1.seq (jb e0);refine dF (cI rfl (jb e0) (dP d8 hl' (fun H1 s1=>sq s1) (fun i v _=>v=.bl (cF H (xs.getD i .non))) (fun _ _ _ _ _ h=>h) (fun τ=>∃t,τ=[t]) ⟨none,rfl⟩ ?_ ?_))
    ·rintro i y τ H3 R hi ⟨t,rfl⟩ s3 hy3 k
     have ky:=hy y (aR hy3);exact⟨_,_,g1,y,rfl,y,rfl,ky.same s3,fun H4 s4=>k _ _ _ ⟨_,rfl⟩ s4 (by rw[getD_some hy3,Dk ky s3])⟩
    intro vs H2 l hvl hF s2 hl2;have e:=bool_list hvl hF;subst e;refine⟨l,_,rfl,SqL.of az,_,rfl,?_⟩;rw[sM xs .non (cF H)];have s3:aP H (upd H2 l (.lst (((aq xs.length).map fun i=>cF H (xs.getD i .non)).map V.bl))):=s2.trans (aK hl2);generalize upd H2 l (.lst (((aq xs.length).map fun i=>cF H (xs.getD i .non)).map V.bl))=H3 at s3;cases ea:xs.all (cF H)with
    |false=>
     rw[ea,dG]at qq;rw[if_pos (by rfl)];exact qq H3 s3
    |true=>
     rw[ea,dD]at qq;rw[if_neg (by simp)];rw[bD]at ea;have sh:∀{i:Nat}{y:V},xs[i]? =some y->∃a z b ys,y=.ref a/\H a=some (.tup [.str z,.ref b])/\H b=some (.tup ys)/\aN H y=z/\bX H y=ys.length:=fun hy3=>by
      obtain⟨a,z,b,ys,h1,h2,h3,_,_,_,h7,h8⟩:=gM (ea _ (aR hy3));exact⟨a,z,b,ys,h1,h2,h3,h7,h8⟩
     refine dF (cI rfl (sq s3) (dP d8 hl' (fun H1 s1=>sq (s3.trans s1)) (fun i v _=>v=.str (aN H (xs.getD i .non))) (fun _ _ _ _ _ h=>h) (fun τ=>∃t u,τ=[t,u]) ⟨none,none,rfl⟩ ?_ ?_))
     ·rintro i y τ H4 R hi ⟨t,u,rfl⟩ s4 hy3 k
      obtain⟨b,z,c,ys,rfl,h1,h2,h3,h4⟩:=sh hy3;refine⟨b,_,rfl,(s3.trans s4).tup (SqT.of h1),rfl,_,_,rfl,_,_,rfl,rfl,_,rfl,k _ _ _ ⟨_,_,rfl⟩ (aP.refl _) ?_⟩;rw[getD_some hy3,h3]
     intro vs1 H4 l1 hvl1 hF1 s4 hl4;have e1:vs1=xs.map fun y=>V.str (aN H y):=ym hvl1 hF1;subst e1;have s5:aP H (upd H4 l1 (.lst (xs.map fun y=>V.str (aN H y)))):=s3.trans (s4.trans (aK hl4));have n1:SqL K (upd H4 l1 (.lst (xs.map fun y=>V.str (aN H y)))) l1 (xs.map fun y=>V.str (aN H y)):=SqL.of az;generalize upd H4 l1 (.lst (xs.map fun y=>V.str (aN H y)))=H5 at s5 n1;refine dF (cI rfl (sq s5) (dP d8 hl' (fun H1 s1=>sq (s5.trans s1)) (fun i v _=>v=.int (bX H (xs.getD i .non))) (fun _ _ _ _ _ h=>h) (fun τ=>∃t u,τ=[t,u]) ⟨none,none,rfl⟩ ?_ ?_))
     ·rintro i y τ H6 R hi ⟨t,u,rfl⟩ s6 hy3 k
      obtain⟨b,z,c,ys,rfl,h1,h2,h3,h4⟩:=sh hy3;refine⟨b,_,rfl,(s5.trans s6).tup (SqT.of h1),rfl,_,_,rfl,_,_,rfl,rfl,_,rfl,Or.inl ⟨c,ys,rfl,.inr ((s5.trans s6).tup (SqT.of h2)),k _ _ _ ⟨_,_,rfl⟩ (aP.refl _) ?_⟩⟩;rw[getD_some hy3,h4]
     intro vs2 H6 l2 hvl2 hF2 s6 hl6;have e2:vs2=xs.map fun y=>V.int (bX H y):=ym hvl2 hF2;subst e2;have s7:aP H5 (upd H6 l2 (.lst (xs.map fun y=>V.int (bX H y)))):=s6.trans (aK hl6);have n2:SqL K (upd H6 l2 (.lst (xs.map fun y=>V.int (bX H y)))) l2 (xs.map fun y=>V.int (bX H y)):=SqL.of az;generalize upd H6 l2 (.lst (xs.map fun y=>V.int (bX H y)))=H7 at s7 n2;have ek1:(xs.map fun y=>(eU (aN H y):Key)).map kV=xs.map fun y=>V.str (aN H y):=by rw[b9];rfl
     have ek2:(xs.map fun y=>(eV (bX H y:Int):Key)).map kV=xs.map fun y=>V.int (bX H y):=by rw[b9];rfl
     refine⟨l1,xs.map fun y=>(eU (aN H y):Key),rfl,by rw[ek1];exact s7.seq n1,by rw[ao];omega,fun c1 hc1=>?_⟩;refine .inr (.inr ⟨c1,_,rfl,az,?_⟩);have s8:aP H7 (upd H7 c1 (_root_.Q.zU c1 (_root_.Q.met (xs.map fun y=>(eU (aN H y):Key))).length)):=aK hc1;generalize upd H7 c1 (_root_.Q.zU c1 (_root_.Q.met (xs.map fun y=>(eU (aN H y):Key))).length)=H8 at s8;refine Or.inl ⟨l1,_,rfl,.inl (s8.seq (s7.seq n1)),?_⟩;show gv K .Eq (.int ((_root_.Q.met (xs.map fun y=>(eU (aN H y):Key))).length:Int)) (.int ((xs.map fun y=>V.str (aN H y)).length:Int)) H8 _;rw[uK];refine⟨_,rfl,?_⟩;have hnd:decide (((_root_.Q.met (xs.map fun y=>(eU (aN H y):Key))).length:Int)=((xs.map fun y=>V.str (aN H y)).length:Int))=decide ((xs.map (aN H)).Nodup):=by
      rw[decide_eq_decide,ao];have hm:(xs.map fun y=>(eU (aN H y):Key)).Nodup↔(xs.map (aN H)).Nodup:=by
       have :(xs.map fun y=>(eU (aN H y):Key))=(xs.map (aN H)).map eU:=by rw[b9];rfl
       rw[this];exact uw _
      constructor
      ·intro z
       refine hm.mp (_root_.Q.wg ?_);rw[ao];exact Int.ofNat.inj z
      ·intro z
       rw[_root_.Q.CY (hm.mpr z),ao]
     rw[hnd];have s9:aP H H8:=s5.trans (s7.trans s8);cases en:decide ((xs.map (aN H)).Nodup)with
     |false=>
      rw[en,dG]at qq;rw[if_neg aC];exact qq H8 s9
     |true=>
      rw[en,dD]at qq;rw[if_pos rfl];refine⟨l2,xs.map fun y=>(eV (bX H y:Int):Key),rfl,by rw[ek2];exact s8.seq n2,by rw[ao];omega,fun c2 hc2=>?_⟩;refine .inr (.inr ⟨c2,_,rfl,az,?_⟩);show gv K .LtE (.int ((_root_.Q.met (xs.map fun y=>(eV (bX H y:Int):Key))).length:Int)) (.int 1) _ Q;rw[FP];have hone:decide (((_root_.Q.met (xs.map fun y=>(eV (bX H y:Int):Key))).length:Int)<=1)=decide (∀y∈xs,∀z∈xs,bX H y=bX H z):=by
       rw[decide_eq_decide];have h1:((_root_.Q.met (xs.map fun y=>(eV (bX H y:Int):Key))).length:Int)<=1↔(_root_.Q.met (xs.map fun y=>(eV (bX H y:Int):Key))).length<=1:=by omega
       rw[h1,_root_.Q.met_one];constructor
       ·intro z y hy1 y' hy2
        have :=z _ (aO.mpr ⟨y,hy1,rfl⟩) _ (aO.mpr ⟨y',hy2,rfl⟩)
        injection this with this;omega
       ·intro z k1 hk1 k2 hk2
        obtain⟨y,hy1,rfl⟩:=aO.mp hk1;obtain⟨y',hy2,rfl⟩:=aO.mp hk2;rw[z y hy1 y' hy2]
      rw[hone];exact qq _ (s9.trans (aK hc2))
   ·rw[decide_eq_true (by omega:(40:Int)<xs.length),if_pos rfl]
    have q1:Q (.bl (decide (xs.length<=40)&&(xs.all (cF H)&&(decide ((xs.map (aN H)).Nodup)&&decide (∀y∈xs,∀z∈xs,bX H y=bX H z))))) H:=q0 H (aP.refl H);rw[decide_eq_false hle,dG]at q1;exact q1
 |_=>exact q H (aP.refl H)
noncomputable def XC(K:ae)(C:Addr):Prop:=bH K (.ref C)=true/\PySem.W.excIn K C bmV "ValueError.__new__"=true
theorem xZ:(1:Nat)<=sizeLine:=by decide
noncomputable def oS(C:Addr):Sp:=fun vs H Q E=>∃x,vs=[x]/\Kn4 H x/\(cV H x=true->∀H',aP H H'->Q .non H')/\(cV H x=false->∀H',aP H H'->E (.ref C) none H')
theorem tf{G:Gam}{K:ae}{C:Addr}(g1:G.fn "is_table" 1=some (spT,[]))(v1:G.val "NoTable"=some (.ref C))(xc:XC K C):
  Sat G K (oS C) oa nS:=by
 rintro vs H Q E ⟨x,rfl,hk,q1,q2⟩;unfold oa;change wpB G K _ _ _ [some x] H;walk_at "wp";refine⟨_,_,g1,x,rfl,hk,fun H1 s1=>⟨_,rfl,?_⟩⟩;cases e:cV H x with
 |true=>
  rw[if_neg (by simp)];exact q1 e H1 s1
 |false=>
  rw[if_pos (by rfl)];exact⟨C,v1,xc.1,xc.2,xZ,q2 e H1 s1⟩
noncomputable def count(H:Hp):V->Nat
 |.ref a=>match dY (H a)with
  |some (y::_)=>bX H y
  |_=>0
 |_=>0
theorem d9{H:Hp}{x:V}(h:cV H x=true):∃a xs,x=.ref a/\dY (H a)=some xs/\xs.length<=40/\(∀y∈xs,cF H y=true)/\(xs.map (aN H)).Nodup/\∀y∈xs,bX H y=count H x:=by
 cases x with
 |ref a=>
  have h':(match dY (H a)with |some xs=>decide (xs.length<=40)&&(xs.all (cF H)&&(decide ((xs.map (aN H)).Nodup)&&decide (∀y∈xs,∀z∈xs,bX H y=bX H z))) |none=>false)=true:=h;split at h'
  ·rename_i xs e
   rw[aj,aj,aj,decide_eq_true_eq,decide_eq_true_eq,decide_eq_true_eq,bD]at h';obtain⟨h1,h2,h3,h4⟩:=h';refine⟨a,xs,rfl,e,h1,h2,h3,fun y hy=>?_⟩;show _=(match dY (H a)with |some (y::_)=>bX H y|_=>0);rw[e];cases xs with
   |nil=>cases hy
   |cons z r=>exact h4 y hy z (.head _)
  ·cases h'
 |_=>cases h
noncomputable def vB(C:Addr):Sp:=fun vs H Q E=>∃x,vs=[x]/\Kn4 H x/\(cV H x=true->∀H',aP H H'->Q (.int (count H x)) H')/\(cV H x=false->∀H',aP H H'->E (.ref C) none H')
theorem qL{G:Gam}{K:ae}{C:Addr}(g1:G.fn "need_table" 1=some (oS C,[])):
  Sat G K (vB C) mD mo:=by
 rintro vs H Q E ⟨x,rfl,hk,q1,q2⟩;unfold mD;change wpB G K _ _ _ [some x] H;walk_at "wp";refine⟨_,_,g1,x,rfl,hk,fun e H1 s1=>?_,q2⟩;obtain⟨a,xs,rfl,h1,h2,h3,h4,h5⟩:=d9 e;have sq:SqL K H1 a xs:=s1.seq (jb h1);refine Or.inl ⟨a,xs,rfl,.inl sq,?_⟩;show gv K .Eq (.int (xs.length:Int)) (.int 0) H1 _;rw[uK];refine⟨_,rfl,?_⟩;cases xs with
 |nil=>
  rw[if_pos (by rfl)];have z:=q1 e H1 s1;have ec:count H (.ref a)=0:=by
   show(match dY (H a)with |some (y::_)=>bX H y|_=>0)=0;rw[h1]
  rw[ec]at z;exact z
 |cons y r=>
  rw[if_neg (by simp;omega)];obtain⟨b,z,c,ys,rfl,k1,k2,_,_,_,_,k8⟩:=gM (h3 y (.head _));refine .inl ⟨a,_,0,.ref b,rfl,rfl,sq,cH (j:=0) rfl,?_⟩;refine .inr (.inl ⟨b,_,1,.ref c,rfl,rfl,s1.tup (SqT.of k1),rfl,?_⟩);refine Or.inl ⟨c,ys,rfl,.inr (s1.tup (SqT.of k2)),?_⟩;have w:=q1 e H1 s1;rw[<-h5 _ (.head _),k8]at w;exact w
noncomputable def isPlace(H:Hp)(x:V):V->Bool
 |.int i=>decide (0<=i/\i<count H x)
 |_=>false
noncomputable def nM(H:Hp):V->List V
 |.ref a=>match cG (H a)with
  |some [_,.ref b]=>(cG (H b)).getD []
  |_=>[]
 |_=>[]
noncomputable def at_(H:Hp)(i:Int)(y:V):V:=(nM H y).getD i.toNat .non
theorem iT{H:Hp}{x:V}(h:cF H x=true):∃a b,x=.ref a/\H a=some (.tup [.str (aN H x),.ref b])/\H b=some (.tup (nM H x))/\(nM H x).length=bX H x/\∀y∈nM H x,bG y=true:=by
 obtain⟨a,z,b,ys,rfl,h1,h2,_,_,h6,h7,h8⟩:=gM h;have e:nM H (.ref a)=ys:=by
  show(match cG (H a)with |some [_,.ref b]=>(cG (H b)).getD [] |_=>[])=ys;rw[h1];show(cG (H b)).getD []=ys;rw[h2];rfl
 refine⟨a,b,rfl,by rw[h7];exact h1,by rw[e];exact h2,by rw[e,h8],by rw[e];exact h6⟩
theorem AJ{H:Hp}{x y:V}{i:Int}(h:cF H y=true)(hc:bX H y=count H x)(hi:isPlace H x (.int i)=true):atI (nM H y) i=some (at_ H i y)/\bG (at_ H i y)=true:=by
 have hi':0<=i/\i<count H x:=of_decide_eq_true hi;obtain⟨a,b,_,_,_,h4,h5⟩:=iT h;have hlt:i.toNat<(nM H y).length:=by omega
 have e:(nM H y)[i.toNat]? =some (at_ H i y):=by
  unfold at_;rw[ah,af hlt];rfl
 refine⟨?_,h5 _ (aR e)⟩;have :=cH (j:=i.toNat) e
 rwa [show((i.toNat:Nat):Int)=i by omega]at this
theorem ed{v:V}(h:bG v=true):v=.int 0\/v=.int 1:=by
 cases v with
 |int i=>
  have h':(i==0||i==1)=true:=h;rw[cS,beq_iff_eq,beq_iff_eq]at h';rcases h' with rfl|rfl
  ·exact .inl rfl
  ·exact .inr rfl
 |_=>cases h
theorem lT{J:It}{Hc:Hp->Prop}{g:TG}{tc:TT}{te:TE}{Q:VK}{τ0:L2.St}{H1:Hp}{xs:List V}(S:sN J xs.length (fun i x _=>xs[i]? =some x) Hc)(hn:xs.length<=sizeLine)(hc:∀H,aP H1 H->Hc H)
  (t:V->Bool)(f:V->V)(T:L2.St->Prop)(hT:T τ0)
  (step:∀x τ H3 (Rt:L2.St->V->Hp->Prop)(Rf:L2.St->Hp->Prop),x∈xs->T τ->aP H1 H3->(∀τ' H6,T τ'->aP H3 H6->t x=true->Rt τ' (f x) H6)->(∀τ' H6,T τ'->aP H3 H6->t x=false->Rf τ' H6)->
   g x τ H3 fun τ4 H4=>tc τ4 H4 fun b H5=>if b=true then te τ4 H5 (Rt τ4)else Rf τ4 H5)
  (fin:∀H2 l,aP H1 H2->H2 l=none->Q (.ref l) (upd H2 l (.lst ((xs.filter t).map f)))):BV J g tc te τ0 H1 Q:=by
 refine⟨fun i m τ acc H2=>m=xs.length-i/\i<=xs.length/\T τ/\acc=((xs.take i).filter t).map f/\aP H1 H2,⟨xs.length,by simp,bf _,hT,by simp,aP.refl _⟩,?_⟩;rintro i m τ acc H2 ⟨rfl,hi,ht,rfl,sm⟩;have q:=hc H2 sm;by_cases hlt:i<xs.length
 ·refine .inr ⟨S.go i H2 q hlt,fun τ' acc' H'=>T τ'/\acc'=((xs.take (i+1)).filter t).map f/\aP H1 H',fun τ' acc' H' ⟨a,b,c⟩=>⟨xs.length-(i+1),by omega,rfl,hlt,a,b,c⟩,fun x H3 y=>?_⟩
  obtain⟨y1,y2⟩:=S.yld i H2 x H3 q hlt y;have e:xs.take (i+1)=xs.take i++[x]:=by rw[dj,y1];rfl
  have hlen:(((xs.take i).filter t).map f).length<=i:=by
   rw[ao];refine aI (mP _ _) ?_;rw[cJ];omega
  refine step x τ H3 _ _ (aR y1) ht (sm.trans y2) (fun τ' H6 h1 h2 h3=>⟨by omega,h1,?_,(sm.trans y2).trans h2⟩) (fun τ' H6 h1 h2 h3=>⟨h1,?_,(sm.trans y2).trans h2⟩)
  ·rw[e,jT,du]
   simp[h3]
  ·rw[e,jT,du]
   simp[h3]
 ·have e:i=xs.length:=by omega
  subst e;rw[dv];exact .inl ⟨S.stop _ H2 q (ax _),fun l hl'=>fin H2 l sm hl'⟩
end Cp
namespace Lt
open PySem R
noncomputable def tE:List Str:=["_law_script","_law_k"]
noncomputable def mq:List Str:=["_law_script","_law_k"]
noncomputable def mM:CB:=
  (.cons (.iff (.cmp .Lt (.var 1) (.bfn .len (.cons (.var 0) .nil)))
  (.cons (.ret (.idx (.var 0) (.var 1)))
  .nil)
  .nil)
  (.cons (.ret (.con (.int 0)))
  .nil))
end Lt
namespace Lt
open PySem PySem.Spec PyProof.Rows L2 R Cp
theorem rX{i j:Int}(h0:0<=j)(h1:j<18446744073709551616):wX i j:=.inr ⟨by omega,by omega⟩
theorem cmulL{i j:Int}(h0:0<=i)(h1:i<18446744073709551616):wX i j:=.inl ⟨by omega,by omega⟩
noncomputable def vD(K:ae):Sp:=fun vs H Q _=>∃(a:Addr)(ns:List Int)(k:Nat),vs=[.ref a,.int k]/\SqL K H a (ns.map V.int)/\Q (.int (ns.getD k 0)) H
theorem wp_cell{G:Gam}{K:ae}:Sat G K (vD K) mM mq:=by
 rintro vs H Q E ⟨a,ns,k,rfl,hs,q⟩;unfold mM;change wpB G K _ _ _ [some (.ref a),some (.int k)] H;walk_at "wp";refine Or.inl ⟨a,_,rfl,.inl hs,?_⟩;show gv K .Lt (.int (k:Int)) (.int ((ns.map V.int).length:Int)) H _;rw[FL,ao];refine⟨_,rfl,?_⟩;by_cases hk:k<ns.length
 ·rw[decide_eq_true (by omega:(k:Int)<(ns.length:Int)),if_pos rfl]
  refine .inl ⟨a,_,k,_,rfl,rfl,hs,cH (j:=k) (v:=.int (ns.getD k 0)) ?_,q⟩;rw[aA,af hk,ah,af hk];rfl
 ·rw[decide_eq_false (by omega:¬(k:Int)<(ns.length:Int)),if_neg aC]
  rw[ah,bN (by omega)]at q;exact q
theorem short{n:Nat}(h:n<=40):n<=sizeLine:=aI h (by decide)
end Lt
namespace Q
open PySem PySem.Spec PySem.W PyProof.Rows L2
theorem xY{ks:List Str}(nd:ks.Nodup):(ord ks).Perm (aq ks.length):=by
 unfold ord;split
 ·exact eW _
 ·have P:=(fv (qN nd) (by omega)).1
  have :=gA.mp P.perm
  simpa using this
theorem range_getD{α:Type}(d:α)(ys:List α):(aq ys.length).map (fun i=>ys.getD i d)=ys:=by
 apply cX
 ·simp
 ·intro i h1 h2
  simp[h2]
theorem fT{α:Type}(d:α){ks:List Str}{ys:List α}(nd:ks.Nodup)(hl:ks.length=ys.length):(sortBy d ks ys).Perm ys:=by
 unfold sortBy;have h:=(xY nd).map fun i=>ys.getD i d;rw[hl,range_getD]at h;exact h
theorem qW{α β:Type}(d:α)(f:α->β)(ks:List Str)(ys:List α):(sortBy d ks ys).map f=sortBy (f d) ks (ys.map f):=by
 unfold sortBy;rw[b9];apply cL;intro i _;show f (ys.getD i d)=(ys.map f).getD i (f d);rw[ah,ah,aA];cases ys[i]? <;>rfl
theorem gF{ks:List Str}(nd:ks.Nodup):(sortBy ("":Str) ks ks).Pairwise fun a b=>tlt a b=true:=by
 unfold sortBy ord;split
 ·rename_i h
  rw[range_getD]
  match ks,h with
  | [],_=>exact .nil
  | [x],_=>simp
  |_::_::_,h=>simp at h;omega
 ·rename_i h
  obtain⟨P,U,_⟩:=fv (qN nd) (by omega:1<=ks.length);rw[gO];intro i j hi hj hij;have hi':i<ks.length:=by simpa[P.size]using hi
  have hj':j<ks.length:=by simpa[P.size]using hj
  have u:=U i j hij hj';rw[cB,cB];have e:∀(k:Nat)(hk:k<(run (lA ks) (dB ks.length)).toList.length),(run (lA ks) (dB ks.length)).toList[k]=at' (run (lA ks) (dB ks.length)) k:=fun k hk=>by
   have hk':k<(run (lA ks) (dB ks.length)).size:=by simpa using hk
   simp[at',hk']
  rw[e,e];exact u
theorem tY{x y:Str}(a:tlt x y=true)(b:tlt y x=true):False:=by
 have c:=tX a b;unfold tlt at c;exact List.lt_irrefl _ (of_decide_eq_true c)
theorem jD:∀{l m:List Str},l.Perm m->l.Pairwise (fun a b=>tlt a b=true)->m.Pairwise (fun a b=>tlt a b=true)->l=m
 | [],m,p,_,_=>by rw[List.nil_perm.mp p]
 |x::l,[],p,_,_=>by simpa using p.length_eq
 |x::l,y::m,p,h1,h2=>by
  rw[List.pairwise_cons]at h1 h2;have e:x=y:=by
   by_cases e:x=y
   ·exact e
   ·have hx:x∈m:=by
     have :=p.mem_iff.mp (aG (a:=x) (l:=l))
     rcases ay.mp this with z|z
     ·exact absurd z e
     ·exact z
    have hy:y∈l:=by
     have :=p.mem_iff.mpr (aG (a:=y) (l:=m))
     rcases ay.mp this with z|z
     ·exact absurd z.symm e
     ·exact z
    exact(tY (h1.1 y hy) (h2.1 x hx)).elim
  subst e;rw[jD (List.perm_cons x |>.mp p) h1.2 h2.2]
theorem pG{α:Type}(d:α)(f:α->Str)(p:α->Bool){ys:List α}(nd:(ys.map f).Nodup):((sortBy d (ys.map f) ys).filter p).map f=sortBy ("":Str) ((ys.filter p).map f) ((ys.filter p).map f):=by
 have nd2:((ys.filter p).map f).Nodup:=nd.sublist (de.map _);refine jD ?_ ?_ (gF nd2)
 ·exact(((fT d nd (by simp)).filter p).map f).trans (fT ("":Str) nd2 rfl).symm
 ·have h:((sortBy d (ys.map f) ys).map f).Pairwise fun a b=>tlt a b=true:=by
   have r:=gF nd;unfold sortBy at r⊢;rw[b9];have e:(ord (ys.map f)).map (f∘fun i=>ys.getD i d)=(ord (ys.map f)).map fun i=>(ys.map f).getD i ("":Str):=by
    apply cL
    intro i hi;have hi':i<ys.length:=by
     have :=(xY nd).mem_iff.mp hi
     simpa using this
    show f (ys.getD i d)=(ys.map f).getD i ("":Str);rw[ah,ah,aA,af hi'];rfl
   rw[e];exact r
  exact h.sublist (de.map _)
end Q
namespace Lt
open PySem PySem.Spec PyProof.Rows L2 R Cp
mutual
theorem n8:∀d:D,eqD d d=true
 |.non=>rfl
 |.bl b=>by cases b<;>rfl
 |.int i=>by show(i==i)=true;simp
 |.str x=>by show(x==x)=true;simp
 |.tup ds=>pk ds
 |.lst ds=>pk ds
theorem pk:∀ds:List D,kT ds ds=true
 | []=>rfl
 |d::ds=>by show(eqD d d&&kT ds ds)=true;rw[n8 d,pk ds];rfl
end
end Lt
namespace L2
open PySem PySem.Spec PyProof.Rows
section
variable {κ α:Type}[DecidableEq κ](kf:α->κ)(vf:α->V)
noncomputable def nZ(acc:List (κ×V))(y:α):List (κ×V):=if(eh acc (kf y)).isSome then acc else putK acc (kf y) (vf y)
noncomputable def fnd(ys:List α):List (κ×V):=ys.foldl (nZ kf vf) []
theorem Gi(acc:List (κ×V))(y:α)(k:κ):eh (nZ kf vf acc y) k=if(eh acc k).isSome then eh acc k else if k=kf y then some (vf y)else none:=by
 unfold nZ;cases h:eh acc (kf y)with
 |some v=>
  show eh acc k=_;cases hk:eh acc k with
  |some u=>rfl
  |none=>
   rw[if_neg (by simp),if_neg];intro e;rw[e,h]at hk;cases hk
 |none=>
  rw[if_neg (by simp),Ee];by_cases e:k=kf y
  ·rw[if_pos e,e,h]
   simp
  ·rw[if_neg e]
   cases hk:eh acc k<;>simp[e]
theorem fndS_nd{acc:List (κ×V)}(y:α)(h:(acc.map (·.1)).Nodup):((nZ kf vf acc y).map (·.1)).Nodup:=by
 unfold nZ;cases e:eh acc (kf y)with
 |some v=>exact h
 |none=>rw[if_neg (by simp)];exact nd_putK _ h e
theorem Gj(acc:List (κ×V))(y:α):(nZ kf vf acc y).length<=acc.length+1:=by
 unfold nZ;split
 ·omega
 ·exact pQ _ _ _
theorem yD:∀(ys:List α)(acc:List (κ×V)),(ys.foldl (nZ kf vf) acc).length<=acc.length+ys.length
 | [],acc=>ax _
 |y::ys,acc=>by
  have :=yD ys (nZ kf vf acc y)
  have :=Gj kf vf acc y
  simp only[dJ,ba];omega
theorem BE:∀(ys:List α){acc:List (κ×V)},(acc.map (·.1)).Nodup->((ys.foldl (nZ kf vf) acc).map (·.1)).Nodup
 | [],_,h=>h
 |y::ys,_,h=>BE ys (fndS_nd kf vf y h)
theorem yC:∀(ys:List α)(acc:List (κ×V))(k:κ),eh (ys.foldl (nZ kf vf) acc) k=if(eh acc k).isSome then eh acc k else(ys.find? fun y=>decide (kf y=k)).map vf
 | [],acc,k=>by
  show eh acc k=_;cases eh acc k<;>rfl
 |y::ys,acc,k=>by
  rw[dJ,yC ys,Gi];cases hk:eh acc k with
  |some u=>simp
  |none=>
   simp only[DV,aJ,if_false];by_cases e:k=kf y
   ·rw[if_pos e,hU]
    simp[e]
   ·have e':¬kf y=k:=fun z=>e z.symm
    rw[if_neg e,hU];simp[e']
theorem wA(ys:List α)(k:κ):eh (fnd kf vf ys) k=(ys.find? fun y=>decide (kf y=k)).map vf:=by
 unfold fnd;rw[yC];rfl
theorem fnd_nd(ys:List α):((fnd kf vf ys).map (·.1)).Nodup:=BE kf vf ys iA
theorem fnd_len(ys:List α):(fnd kf vf ys).length<=ys.length:=by
 have :=yD kf vf ys []
 rw[mi,sR]at this;exact this
theorem wB{ys:List α}{k:κ}:k∈(fnd kf vf ys).map (·.1)↔∃y∈ys,kf y=k:=by
 constructor
 ·intro h
  cases e:eh (fnd kf vf ys) k with
  |none=>exact absurd h (xu e)
  |some v=>
   rw[wA]at e;obtain⟨y,hy,_⟩:=zt.mp e;exact⟨y,List.mem_of_find?_eq_some hy,by have :=List.find?_some hy;simpa using this⟩
 ·rintro⟨y,hy,e⟩
  cases h:eh (fnd kf vf ys) k with
  |some v=>exact valV_in h
  |none=>
   rw[wA,Option.map_eq_none_iff,qb]at h;exact absurd e (by have :=h y hy;simpa using this)
theorem FA:∀{l m:List κ},l.Nodup->(∀x∈l,x∈m)->l.length<=m.length
 | [],_,_,_=>bf _
 |a::l,m,h,hs=>by
  obtain⟨h1,h2⟩:=cA.mp h;have ha:=hs a (.head _);have :=FA (l:=l) (m:=m.erase a) h2 fun x hx=>(DX (fun e:x=a=>h1 (by rw[<-e];exact hx))).mpr (hs x (.tail _ hx));rw[List.length_erase_of_mem ha]at this;have :=List.length_pos_of_mem ha;simp only[ba];omega
theorem fnd_all{ys:List α}{ks:List κ}(hk:ks.Nodup)(hs:∀y∈ys,kf y∈ks):(fnd kf vf ys).length<ks.length↔∃k∈ks,∀y∈ys,kf y≠k:=by
 have hsub:∀k∈(fnd kf vf ys).map (·.1),k∈ks:=fun k h=>by
  obtain⟨y,hy,e⟩:=(wB kf vf).mp h;rw[<-e];exact hs y hy
 have hnd:=fnd_nd kf vf ys;constructor
 ·intro hl
  apply sY
  intro hno;have hall:∀k∈ks,k∈(fnd kf vf ys).map (·.1):=fun k hk=>by
   apply sY
   intro hn;exact hno ⟨k,hk,fun y hy e=>hn ((wB kf vf).mpr ⟨y,hy,e⟩)⟩
  have :=FA hk hall
  rw[ao]at this;omega
 ·rintro⟨k,hkm,hk2⟩
  have hn:k∉(fnd kf vf ys).map (·.1):=fun h=>by
   obtain⟨y,hy,e⟩:=(wB kf vf).mp h;exact hk2 y hy e
  have :(k::(fnd kf vf ys).map (·.1)).Nodup:=cA.mpr ⟨hn,hnd⟩;have :=FA this (fun x hx=>by
   rcases ay.mp hx with rfl|hx
   ·exact hkm
   ·exact hsub x hx)
  rw[ba,ao]at this;omega
end
end L2
namespace Kc
open PySem R
noncomputable def oY:List Str:=["copies","one","other"]
noncomputable def jY:List Str:=["copies","one","other","found","name","readings"]
noncomputable def jZ:CB:=
  (.cons (.asg (.name 3) (.dicT))
  (.cons (.forr (.tup (.cons (.name 4) (.cons (.name 5) .nil))) (.seq (.var 0))
  (.cons (.expr (.setd (.var 3) (.tup (.cons (.idx (.var 5) (.var 1)) (.cons (.idx (.var 5) (.var 2)) .nil))) (.var 4)))
  .nil))
  (.cons (.iff (.cmp .Lt (.bfn .lend (.cons (.var 3) .nil)) (.bfn .len (.cons (.glo "KINDS") .nil)))
  (.cons (.ret (.con .none))
  .nil)
  .nil)
  (.cons (.ret (.bfn .tuple (.cons (.comp ["kind"] [3] (.name 0) (.seq (.glo "KINDS")) .no (.idxd (.var 1) (.var 0))) .nil)))
  .nil))))
end Kc
namespace Kc
open PySem PySem.Spec PyProof.Rows L2 R Cp Lt
theorem gX{J:It}{n:Nat}{it:Nat->V->Hp->Prop}{Hc:Hp->Prop}{g:TG}{tb:TS}{D:Ends}{σ:L2.St}{H:Hp}(S:sN J n it Hc)(Pv:Nat->L2.St->Hp->Prop)(h0:Pv 0 σ H)(hl:∀i σ H,i<=n->Pv i σ H->Hc H)
  (hs:∀i x σ H H' (D2:Ends),i<n->Pv i σ H->it i x H'->aP H H'->(∀σ2 H2,Pv (i+1) σ2 H2->D2.nx σ2 H2)->D2.rt=D.rt->g x σ H' fun σ2 H2=>tb D2 σ2 H2)(hd:∀σ H,Pv n σ H->D.nx σ H):ForB J g tb D σ H:=
 BD S Pv h0 hl (fun i x σ H H' a b c d=>hs i x σ H H' _ a b c d (fun _ _ h=>h) rfl) hd
theorem fG{us:List Value}(h:us.length=1):∃a,us=[a]:=by
 cases us with
 |nil=>exact nomatch h
 |cons a r=>exact⟨a,by rw[cg.mp (kQ h)]⟩
theorem jB{us:List Value}(h:us.length=2):∃a b,us=[a,b]:=by
 cases us with
 |nil=>exact nomatch h
 |cons a r=>
  obtain⟨b,e⟩:=fG (kQ h);exact⟨a,b,by rw[e]⟩
theorem jX{us:List Value}(h:us.length=3):∃a b c,us=[a,b,c]:=by
 cases us with
 |nil=>exact nomatch h
 |cons a r=>
  obtain⟨b,c,e⟩:=jB (kQ h);exact⟨a,b,c,by rw[e]⟩
theorem bW{α:Type}{F:α->Prop}{vs:List V}{n:Nat}(h:∃a,F a)(k:∀a,F a->vs.length=n):vs.length=n:=let⟨a,f⟩:=h;k a f
theorem gy{P:Prop}{l vs:List V}{n:Nat}(h:vs=l/\P)(e:l.length=n):vs.length=n:=by rw[h.1];exact e
noncomputable def num(H:Hp)(i:Int)(y:V):Int:=match at_ H i y with
 |.int n=>n
 |_=>0
noncomputable def KP:List (Int×Int):=[(0,0),(0,1),(1,0),(1,1)]
noncomputable def mV(k:Int×Int):List Key:=[.inl k.1,.inl k.2]
noncomputable def kf(H:Hp)(i j:Int)(y:V):List Key:=mV (num H i y,num H j y)
noncomputable def jF(H:Hp)(xs:List V)(i j:Int):Bool:=KP.all fun k=>xs.any fun y=>decide (num H i y=k.1/\num H j y=k.2)
noncomputable def firstOf(H:Hp)(xs:List V)(i j:Int)(k:Int×Int):V:=((xs.find? fun y=>decide (kf H i j y=mV k)).map fun y=>V.str (aN H y)).getD .non
noncomputable def Kinds(K:ae)(kd:Addr):Prop:=∃a0 a1 a2 a3:Addr,∀H:Hp,SqT K H kd [.ref a0,.ref a1,.ref a2,.ref a3]/\SqT K H a0 [.int 0,.int 0]/\SqT K H a1 [.int 0,.int 1]/\SqT K H a2 [.int 1,.int 0]/\SqT K H a3 [.int 1,.int 1]
theorem Kinds.at{K:ae}{kd:Addr}(h:Kinds K kd):∃as:List V,as.length=4/\(∀H:Hp,SqT K H kd as)/\∀(H:Hp)(i:Nat) x,as[i]? =some x->∃(b:Addr)(k:Int×Int),x=.ref b/\KP[i]? =some k/\SqT K H b ((mV k).map kV):=by
 obtain⟨a0,a1,a2,a3,h⟩:=h;refine⟨[.ref a0,.ref a1,.ref a2,.ref a3],rfl,fun H=>(h H).1,fun H i x e=>?_⟩;obtain⟨_,h0,h1,h2,h3⟩:=h H
 match i,e with
 | 0,e=>cases e;exact⟨a0,_,rfl,rfl,h0⟩
 | 1,e=>cases e;exact⟨a1,_,rfl,rfl,h1⟩
 | 2,e=>cases e;exact⟨a2,_,rfl,rfl,h2⟩
 | 3,e=>cases e;exact⟨a3,_,rfl,rfl,h3⟩
 |n+4,e=>simp at e
theorem wc{H:Hp}{x y:V}{i:Int}(h:cF H y=true)(hc:bX H y=count H x)(hi:isPlace H x (.int i)=true):at_ H i y=.int (num H i y)/\(num H i y=0\/num H i y=1):=by
 have :=(AJ h hc hi).2
 unfold num;rcases ed this with e|e
 ·rw[e];exact⟨rfl,.inl rfl⟩
 ·rw[e];exact⟨rfl,.inr rfl⟩
theorem FX{k l:Int×Int}(h:mV k=mV l):k=l:=by
 unfold mV at h;injection h with h1 h2
 injection h2 with h2 _;injection h1 with h1;injection h2 with h2;exact Prod.ext h1 h2
theorem FT:(KP.map mV).Nodup:=by decide+kernel
theorem kf_eq{H:Hp}{i j:Int}{y:V}{k:Int×Int}:kf H i j y=mV k↔(num H i y=k.1/\num H j y=k.2):=by
 constructor
 ·intro h
  have :=FX h
  rw[<-this];exact⟨rfl,rfl⟩
 ·rintro⟨h1,h2⟩
  unfold kf;rw[h1,h2]
theorem Gg{H:Hp}{xs:List V}{i j:Int}(vf:V->V)(hs:∀y∈xs,kf H i j y∈KP.map mV):(fnd (kf H i j) vf xs).length<4↔jF H xs i j=false:=by
 rw[show(4:Nat)=(KP.map mV).length from rfl,fnd_all (kf H i j) vf FT hs];unfold jF;rw[List.all_eq_false];constructor
 ·rintro⟨k,hk,h⟩
  obtain⟨p,hp,rfl⟩:=aO.mp hk;refine⟨p,hp,?_⟩;intro z;obtain⟨y,hy,e⟩:=bP.mp z;exact h y hy (kf_eq.mpr (of_decide_eq_true e))
 ·rintro⟨p,hp,h⟩
  refine⟨mV p,aO.mpr ⟨p,hp,rfl⟩,fun y hy e=>h ?_⟩;exact bP.mpr ⟨y,hy,decide_eq_true (kf_eq.mp e)⟩
theorem kf_in{H:Hp}{x:V}{xs:List V}{i j:Int}(h3:∀y∈xs,cF H y=true)(h5:∀y∈xs,bX H y=count H x)(hi:isPlace H x (.int i)=true)(hj:isPlace H x (.int j)=true):∀y∈xs,kf H i j y∈KP.map mV:=by
 intro y hy;have ei:=(wc (h3 y hy) (h5 y hy) hi).2;have ej:=(wc (h3 y hy) (h5 y hy) hj).2;unfold kf;refine aO.mpr ⟨_,?_,rfl⟩;rcases ei with e|e<;>rcases ej with f|f<;>rw[e,f]<;>simp[KP]
noncomputable def vz:Sp:=fun vs H Q _=>∃a xs i j H0,vs=[.ref a,.int i,.int j]/\aP H0 H/\cV H0 (.ref a)=true/\dY (H0 a)=some xs/\isPlace H0 (.ref a) (.int i)=true/\isPlace H0 (.ref a) (.int j)=true/\
 (jF H0 xs i j=false->∀H',aP H H'->Q .non H')/\(jF H0 xs i j=true->∀H' l,aP H H'->H l=none->H' l=some (.tup (KP.map (firstOf H0 xs i j)))->Q (.ref l) H')
theorem Ea{G:Gam}{K:ae}{kd:Addr}(v1:G.val "KINDS"=some (.ref kd))(hk:Kinds K kd):
  Sat G K vz jZ jY:=by
 rintro vs H Q E ⟨a,xs,i,j,H0,rfl,s0,ht,hx,hi,hj,q1,q2⟩;unfold jZ;change wpB G K _ _ _ [some (.ref a),some (.int i),some (.int j),none,none,none] H;walk_at "wp";intro d hd;obtain⟨a',xs',ea,h1,h2,h3,h4,h5⟩:=d9 ht;cases ea;rw[hx]at h1;cases h1;obtain⟨as,hal,hka,hkb⟩:=hk.at;have sq:∀{H1:Hp},aP H0 H1->SqL K H1 a xs:=fun s1=>s1.seq (jb hx);have sd:aP H (upd H d (.dT [])):=aK hd;refine iJ (cI rfl (sq (s0.trans sd)) (gX d8 (fun k σ H'=>aP H H'/\H' d=some (.dT (fnd (kf H0 i j) (fun y=>V.str (aN H0 y)) (xs.take k)))/\∃u v,σ=[some (.ref a),some (.int i),some (.int j),some (.ref d),u,v])
  ⟨sd,az,none,none,rfl⟩ (fun k σ H' _ p=>sq (s0.trans p.1)) ?_ ?_))
 ·rintro k y σ H1 H2 D2 hk1 ⟨s1,e1,u,v,rfl⟩ hy s2 hD _
  have hm:=aR hy;have ei:=wc (h3 y hm) (h5 y hm) hi;have ej:=wc (h3 y hm) (h5 y hm) hj;have gi:=(AJ (h3 y hm) (h5 y hm) hi).1;have gj:=(AJ (h3 y hm) (h5 y hm) hj).1;obtain⟨b,c,rfl,k1,k2,k3,k4⟩:=iT (h3 y hm);have s3:=s0.trans (s1.trans s2);refine⟨b,_,rfl,s3.tup (SqT.of k1),rfl,_,_,rfl,_,_,rfl,rfl,?_⟩;walk_at "wp";refine⟨.inr (.inr (.inl ⟨rfl,.inr ⟨_,s2 _ _ e1⟩⟩)),?_⟩;refine .inr (.inl ⟨c,_,i,_,rfl,rfl,s3.tup (SqT.of k2),gi,?_⟩);refine .inr (.inl ⟨c,_,j,_,rfl,rfl,s3.tup (SqT.of k2),gj,short (by simp),fun p hp=>?_⟩);have s4:aP H2 (upd H2 p (.tup [at_ H0 i (.ref b),at_ H0 j (.ref b)])):=aK hp;have hf:(fnd (kf H0 i j) (fun y=>V.str (aN H0 y)) (xs.take k)).length<=40:=aI (fnd_len _ _ _) (by rw[cJ];omega);have et:xs.take (k+1)=xs.take k++[V.ref b]:=by rw[dj,hy];rfl
  have ef:fnd (kf H0 i j) (fun y=>V.str (aN H0 y)) (xs.take (k+1))=nZ (kf H0 i j) (fun y=>V.str (aN H0 y)) (fnd (kf H0 i j) (fun y=>V.str (aN H0 y)) (xs.take k)) (.ref b):=by
   unfold fnd;rw[et,List.foldl_append];rfl
  refine⟨d,p,_,kf H0 i j (.ref b),_,rfl,rfl,s4 _ _ (s2 _ _ e1),?_,dX hf (by decide),fun z hz=>?_,fun hz=>?_⟩
  ·rw[az,ei.1,ej.1]
   rfl
  ·refine hD _ _ ⟨s1.trans (s2.trans s4),?_,_,_,rfl⟩
   rw[ef];unfold nZ;rw[hz];exact s4 _ _ (s2 _ _ e1)
  ·refine hD _ _ ⟨iD (s1.trans (s2.trans s4)) hd,?_,_,_,rfl⟩
   rw[ef];unfold nZ;rw[hz];exact az
 ·rintro σ H1 ⟨s1,e1,u,v,rfl⟩
  rw[dv]at e1;walk_at "wp";refine⟨d,_,rfl,e1,_,v1,Or.inl ⟨kd,as,rfl,.inr (hka _),?_⟩⟩;rw[hal];show gv K .Lt (.int _) (.int ((4:Nat):Int)) H1 _;rw[FL];refine⟨_,rfl,?_⟩;have hfi:=Gg (fun y=>V.str (aN H0 y)) (kf_in h3 h5 hi hj);cases hf:jF H0 xs i j with
  |false=>
   have :=hfi.mpr hf
   rw[decide_eq_true (by omega),if_pos rfl];exact q1 hf H1 s1
  |true=>
   have hge:¬(fnd (kf H0 i j) (fun y=>V.str (aN H0 y)) xs).length<4:=fun z=>by rw[hfi.mp z]at hf;cases hf
   rw[decide_eq_false (by omega),if_neg aC];refine dF ⟨_,v1,.inr (.inl ⟨kd,rfl,⟨_,hka _⟩,?_⟩)⟩;refine dP AZ (by rw[hal];exact short (by decide)) (fun H2 _=>hka H2) (fun n v _=>v=firstOf H0 xs i j (KP.getD n (0,0))) (fun _ _ _ _ _ h=>h) (fun τ=>∃t,τ=[t,some (.ref d)]) ⟨none,rfl⟩ ?_ ?_
   ·rintro n y τ H2 R hn ⟨t,rfl⟩ s2 hy k
    obtain⟨b,p,rfl,hp,hb⟩:=hkb H2 n y hy;walk_at "wp";have hall:xs.any (fun y=>decide (num H0 i y=p.1/\num H0 j y=p.2))=true:=by
     unfold jF at hf;exact bD.mp hf p (aR hp)
    obtain⟨y0,hy0,e0⟩:=bP.mp hall;cases hfi:xs.find? (fun y=>decide (kf H0 i j y=mV p))with
    |none=>
     rw[qb]at hfi;exact absurd (decide_eq_true (kf_eq.mpr (of_decide_eq_true e0))) (hfi y0 hy0)
    |some y1=>
     refine⟨d,b,_,mV p,V.str (aN H0 y1),rfl,rfl,s2 _ _ e1,hb,?_,?_⟩
     ·rw[wA,hfi]
      rfl
     ·refine k _ _ _ ⟨_,rfl⟩ (aP.refl _) ?_
      rw[getD_some hp];unfold firstOf;rw[hfi];rfl
   ·intro vs H2 l hvl hF s2 hl2
    have ev:vs=KP.map (firstOf H0 xs i j):=by
     rw[hal]at hvl;apply cX
     ·rw[hvl];rfl
     ·intro n m1 m2
      have :=hF n vs[n] (by simp[m1])
      rw[this,cB,ah,af (by simpa using m2)];rfl
    subst ev;refine⟨l,_,rfl,.inl ⟨SqL.of az,fun b hb=>?_⟩⟩;have s3:aP H (upd H2 l (.lst (KP.map (firstOf H0 xs i j)))):=s1.trans (s2.trans (aK hl2));exact q2 hf _ b (s3.trans (aK hb)) (s3.free hb) az
end Kc
namespace K21
open PySem PySem.Spec PyProof.Rows L2 R Cp Lt Kc
noncomputable def Dr(H:Hp)(nf:Nat->Str)(n:Nat)(ys:List V):Prop:=∀(i:Nat) y,ys[i]? =some y->∃b r zs,y=.ref b/\H b=some (.tup [.str (nf i),.ref r])/\H r=some (.tup zs)/\zs.length=n/\∀z∈zs,bG z=true
theorem n9{H:Hp}{nf:Nat->Str}{n:Nat}{ys:List V}(hnf:∀i,eH (nf i)=true)(d:Dr H nf n ys)(hn:n<=60){i:Nat}{y:V}(e:ys[i]? =some y):cF H y=true/\aN H y=nf i/\bX H y=n/\Kn3 H y:=by
 obtain⟨b,r,zs,rfl,h1,h2,h3,h4⟩:=d i y e;have ar:cq H (.ref r)=true:=by
  show(match cG (H r)with |some xs=>decide (xs.length<=60)&&xs.all bG|none=>false)=true;rw[h2];show(decide (zs.length<=60)&&zs.all bG)=true;rw[decide_eq_true (by omega),dD,bD];exact h4
 have hl:(nf i).length<=20000:=by
  have :=hnf i
  unfold eH at this;rw[aj,decide_eq_true_eq]at this;omega
 refine⟨?_,?_,?_,⟨rM h1,fun z e=>nomatch e⟩,fun a xs e hx=>?_⟩
 ·show(match cG (H b)with |some [n,r]=>isName n&&cq H r|_=>false)=true
  rw[h1];show(eH (nf i)&&cq H (.ref r))=true;rw[hnf,ar];rfl
 ·show(match cG (H b)with |some (.str z::_)=>z|_=>("":Str))=_
  rw[h1];rfl
 ·show(match cG (H b)with |some [_,.ref b]=>(cG (H b)).elim 0 il|_=>0)=n
  rw[h1];show(cG (H r)).elim 0 il=n;rw[h2];exact h3
 ·injection e with e
  subst e;rw[h1]at hx;cases hx;refine⟨by show 2<=20000;decide,fun y hy=>?_⟩;simp only[ay,bJ,or_false]at hy;rcases hy with rfl|rfl
  ·exact⟨⟨wt,fun z e=>by injection e with e;rw[<-e];exact hl⟩,fun a xs e=>nomatch e⟩
  ·refine⟨⟨rM h2,fun z e=>nomatch e⟩,fun a xs e hx=>?_⟩
   injection e with e;subst e;rw[h2]at hx;cases hx;refine⟨by omega,fun z hz=>?_⟩;rcases ed (h4 z hz)with rfl|rfl
   ·exact⟨rN,fun z e=>nomatch e⟩
   ·exact⟨rN,fun z e=>nomatch e⟩
theorem yH{H:Hp}{nf:Nat->Str}{n:Nat}{ys:List V}{t:Addr}(hnf:∀i,eH (nf i)=true)(hinj:∀i j,i<ys.length->j<ys.length->nf i=nf j->i=j)(ht:H t=some (.lst ys))(d:Dr H nf n ys)(hl:ys.length<=40)(hn:n<=60):Kn4 H (.ref t)/\cV H (.ref t)=true/\(∀y∈ys,cF H y=true)/\∀y∈ys,bX H y=n:=by
 have at':∀y∈ys,∃i,ys[i]? =some y:=fun y hy=>iO.mp hy;have cp:∀y∈ys,cF H y=true:=fun y hy=>let⟨i,e⟩:=at' y hy;(n9 hnf d hn e).1;have ct:∀y∈ys,bX H y=n:=fun y hy=>let⟨i,e⟩:=at' y hy;(n9 hnf d hn e).2.2.1;refine⟨⟨⟨FR ht,fun z e=>nomatch e⟩,fun a xs e hx=>?_⟩,?_,cp,ct⟩
 ·injection e with e
  subst e;rw[ht]at hx;cases hx;exact⟨by omega,fun y hy=>let⟨i,e⟩:=at' y hy;(n9 hnf d hn e).2.2.2⟩
 ·show(match dY (H t)with |some xs=>decide (xs.length<=40)&&(xs.all (cF H)&&(decide ((xs.map (aN H)).Nodup)&&decide (∀y∈xs,∀z∈xs,bX H y=bX H z))) |none=>false)=true
  rw[ht];show(decide (ys.length<=40)&&(ys.all (cF H)&&(decide ((ys.map (aN H)).Nodup)&&decide (∀y∈ys,∀z∈ys,bX H y=bX H z))))=true;rw[decide_eq_true hl,dD,aj,aj,bD,decide_eq_true_eq,decide_eq_true_eq];refine⟨cp,?_,fun y hy z hz=>by rw[ct y hy,ct z hz]⟩;show List.Pairwise (fun a b=>a≠b) _;rw[gO];intro i j hi hj hij e;rw[ao]at hi hj;rw[cB,cB,(n9 hnf d hn (af hi)).2.1,(n9 hnf d hn (af hj)).2.1]at e;have :=hinj i j hi hj e;omega
end K21
namespace K22
open PySem PySem.Spec PyProof.Rows L2 R Cp Lt Kc K21
section
variable {G:Gam}{K:ae}
section
variable {E:XS}{D2:Ends}{H:Hp}{a nd lk fr sm:Addr}{ns:List Int}{n k:Nat}{sd d0:Int}{ys ls:List V}
theorem yA{ns:List Int}(hk':k<ns.length):(ns.map V.int)[k]? =some (.int (ns.getD k 0)):=by
 rw[aA,af hk',ah,af hk'];rfl
end
end
end K22
namespace Lm
open PySem PySem.Spec PySem.W PyProof.Rows L2 Q
noncomputable abbrev Kp(h h':Heap):Prop:=∀b o,h.get? b=some o->h'.get? b=some o
section
variable {prog:Program}{w:World}{A:Around}{E:Value->Shared->Prop}{s:Shared}
theorem GN{Q:Value->Shared->Prop}{qual x:Str}{params:Arguments}{scope:Scope}{pm ctv k:Value}{c' f b:Addr}{p1 p2 p3:Pos}{j:Nat}{its:Array Value}
  (hf:s.heap.get? f=some (kla_obj "<lambda>" qual params (.Subscript (.Name x p1) (.Constant (.int 0) j p2) p3) scope [] pm c' ctv))(hc:s.heap.CodeRec (.ref c') qual)(hroom:A.depth<iV)(hnl:s.heap.NoLimit)
  (hb:∀v,iZ (kla_fn "<lambda>" qual params (.Subscript (.Name x p1) (.Constant (.int 0) j p2) p3) scope [] pm (.ref c') ctv) ⟨[v],[]⟩=pure [(x,v)])
  (hx:scope.names.lookup x=some .local)(hd:(x==("__debug__":Str))=false)(hk:scope.kind=.function)(hcell:∀y∈scope.names,y.2≠.cell)(hco:scope.isCoroutine=false)(hgen:scope.isGenerator=false)
  (ht:IsTup s.heap b its)(h0:its[0]? =some k)(h:∀h' t',Kp s.heap h'->Q k {s with heap:=h',toks:=t'}):wpAny (model prog w) A (call (.ref f) [.ref b]) Q E s:=by
 refine DE (kla_callFunE hroom hf rfl hco hgen rfl hc ?_);rw[hb];refine ai (wpAny_newFunctionEnv hcell (fun y hy=>?_) (fun h₁ hns hsb=>⟨hnl.fresh _ hsb,?_⟩) hk)
 ·have e:y=(x,.ref b):=by simpa using hy
  rw[e];exact hx
 have hk₁:Kp s.heap h₁:=fun b o e=>hsb.extBut b o (aB (aw e)) (ag _ e);refine kla_codeExpr (DP (DF (wpAny_loadName_local hk hx hns (v:=.ref b) (by simp) ?_) hd));refine wpAny_Constant_int ?_;have ht':IsTup h₁ b its:=by
  obtain⟨o,e,c⟩:=ht;exact⟨o,hk₁ _ _ e,c⟩
 have hsz:0<its.size:=by
  rcases Nat.eq_zero_or_pos its.size with z|z
  ·rw[lL (by omega)]at h0;cases h0
  ·exact z
 exact oI (x:=k) ht'.typeIs slot_tuple_getitem.lookup
  (getItem_tuple (j:=0) (Q:=fun r s'=>r=k/\_) ht' (by decide) (by decide) (by rw[zk (by decide) (by omega)];rfl) h0 ⟨rfl,h _ _ hk₁⟩) rfl
noncomputable def Keys(prog:Program)(w:World)(A:Around)(f:Value)(vs:List Value)(ks:List Str)(h0:Heap):Prop:=
 ∀(i:Nat)(v:Value)(k:Str),vs[i]? =some v->ks[i]? =some k->∀(s1:Shared)(E:Value->Shared->Prop)(Q':Value->Shared->Prop),Kp h0 s1.heap->
  (∀t h' t',Kp s1.heap h'->Q' (.str k t) {s1 with heap:=h',toks:=t'})->wpAny (model prog w) A (call f [v]) Q' E s1
theorem strs_snoc{k:Str}{t:Tok}:∀{vs:List Value}{ks:List Str},xa vs ks->xa (vs++[.str k t]) (ks++[k])
 |_,_,.nil=>.cons k t .nil
 |_,_,.cons y u h=>.cons y u (strs_snoc h)
theorem AR{a kS:Addr}{kv out:List Value}{e e1:Nat}{st:SortSt}{P:dS->Shared->Prop}(hout:(arrOf st).map (·.2)=dZ out)(hz:out.length<64)(hkz:kv.length<64)(hf:failedOf st=none)
  (hk:s.heap.get? kS=some (seqObj "list" kv.toArray e))(ha:s.heap.get? a=some (seqObj "list" #[] e1))(hne:kS≠a)
  (h:∀h' c,(∀b o,b≠a->b≠kS->s.heap.get? b=some o->h'.get? b=some o)->h'.get? a=some (seqObj "list" out.toArray c)->P (.done (.ret .none)) {s with heap:=h'}):
  wpAny (model prog w) A (ksk_tail a false e1 (.ref kS) st) P E s:=by
 have s1:=bU s.heap kS (aS fun _=>(#[]:Array Value));have ha1:(s.heap.update kS (aS fun _=>(#[]:Array Value))).get? a=some (seqObj "list" #[] e1):=(s1.2 a (bZ hne)).trans ha;have s2:=bU (s.heap.update kS (aS fun _=>(#[]:Array Value))) a (aS fun _=>dZ out);obtain⟨c2,hc2⟩:∃c2,((s.heap.update kS (aS fun _=>(#[]:Array Value))).update a (aS fun _=>dZ out)).get? a=some (seqObj "list" (dZ out) c2):=⟨_,oO ha1 fun _=>dZ out⟩;unfold ksk_tail;try dsimp only
 rw[hout];refine aa (fB hk rfl ?_ (by rw[av];exact fJ hkz) (bf _));refine aa (fk ?_);refine aa (qk ha1 rfl ?_);refine aa (fB ha1 rfl ?_ (bf _) (by simpa using AW hz));rw[hf];simp only[bne_self_eq_false,aJ,if_false];exact ai (h _ c2 (fun b o h1 h2 q=>(s2.2 b h1).trans ((s1.2 b h2).trans q)) hc2)
theorem end_ok{a kS:Addr}{kv vs:List Value}{ks:List Str}{e e1:Nat}{P:dS->Shared->Prop}(nd:ks.Nodup)(r:xa kv ks)(hl:ks.length=vs.length)(h64:vs.length<64)
  (hk:s.heap.get? kS=some (seqObj "list" kv.toArray e))(ha:s.heap.get? a=some (seqObj "list" #[] e1))(hne:kS≠a)
  (h:∀h' c,(∀b o,b≠a->b≠kS->s.heap.get? b=some o->h'.get? b=some o)->h'.get? a=some (seqObj "list" (gu (lA ks) vs).toArray c)->P (.done (.ret .none)) {s with heap:=h'}):
  wpAny (model prog w) A (ksk_end a false vs.toArray e1 (.ref kS) (dZ kv)) P E s:=by
 have hv:vs.toArray.size=vs.length:=by simp
 have hkl:=qQ r;have hlen:kv.length=vs.length:=hkl.trans hl;unfold ksk_end;simp only[aJ,if_false];by_cases hn:vs.length<2
 ·have eo:gu (lA ks) vs=vs:=if_pos hn
  rw[eo]at h;rw[if_pos (by rw[hv];exact hn),if_pos (by rw[hv];exact hn)];refine aa (ai (aa ?_));rw[StateT.run_pure];refine ai (AR (out:=vs) ?_ h64 (by omega) rfl hk ha hne h);show(kv.toArray.zip vs.toArray).map (·.2)=vs.toArray;apply Hl;simp[List.map_snd_zip,hlen]
 ·have h2:2<=vs.length:=by omega
  have eo:gu (lA ks) vs=(run (lA ks) (dB vs.length)).toList.map fun i=>vs.getD i .none:=if_neg hn;rw[eo]at h;rw[if_neg (by rw[hv];exact hn),if_neg (by rw[hv];exact hn)];obtain⟨κ,hk1,hk2⟩:=Dz (prog:=prog) (w:=w) (A:=A) (h0:=s.heap) r (by omega) s (fun _ _ q=>q);have T:Tot (lA ks) vs.length:=by rw[<-hl];exact qN nd
  obtain⟨P1,U1,O1⟩:=fv T (by omega:1<=vs.length);refine aa (hk1 _ _ (aa ?_));have key:=kat_run (prog:=prog) (w:=w) (A:=A) (E:=E) (κ:=κ) (ks:=kv) (vs:=vs) (s:=s)
   (Q:=fun st' s'=>s'=s/\arrOf st'=(run (lA ks) (dB vs.length)).map (kas_item (kv.toArray.zip vs.toArray))/\failedOf st'=none)
   (G:=fun p s'=>s'=s/\p=run (lA ks) (dB vs.length)) hlen h2 h64
   (fun p st' s' _ e1 e2 e3=>⟨e3.1,by rw[e1,e3.2],e2⟩)
   (wp_run (S:=fun s'=>s'=s) (fun i j C s' hi hj hij hs hC=>by
    subst hs;exact hk2 i j C (by omega) (by omega) hij (hC _ rfl)) _ _ O1 rfl fun s' hs=>⟨hs,rfl⟩)
  refine eD key ?_ fun _ _ z=>z;rintro⟨⟨⟩,st'⟩ s' ⟨rfl,har,hf⟩;exact AR (kat_snds hlen har) (by rw[ao,bY,P1.size];exact h64) (by omega) hf hk ha hne h
theorem EB{a:Addr}{n:Nat}{h0:Heap}{f:Value}{vs:List Value}{ks:List Str}{P:dS->Shared->Prop}(nd:ks.Nodup)(hl:ks.length=vs.length)(ho:s.heap.get? a=some (seqObj "list" vs.toArray n))
  (k0:∀b o,h0.get? b=some o->s.heap.get? b=some o/\b≠a)(h64:vs.length<64)(ky:Keys prog w A f vs ks h0)
  (h:∀h' t' c,(∀b o,b≠a->s.heap.get? b=some o->h'.get? b=some o)->h'.get? a=some (seqObj "list" (gu (lA ks) vs).toArray c)->P (.done (.ret .none)) {s with heap:=h',toks:=t'}):
  wpAny (model prog w) A (ksk_tree a f false) P E s:=by
 have hv:vs.toArray.size=vs.length:=by simp
 have ha0:a<s.heap.objs.size:=aw ho;have s1:=bU s.heap a (aS fun _=>(#[]:Array Value));obtain⟨e1,ho1⟩:∃e1,(s.heap.update a (aS fun _=>(#[]:Array Value))).get? a=some (seqObj "list" #[] e1):=⟨_,oO ho fun _=> #[]⟩;unfold ksk_tree;refine aa (listItems_at ho rfl ?_);refine aa (fB ho rfl ?_ (by rw[hv];exact fJ h64) (bf _));refine aa (qk ho1 rfl ?_);refine aa (DD ?_ (show vs.length<=_ from fJ h64));refine aa (me ?_ (bf _));refine bC ?_;have ha1:((s.heap.update a (aS fun _=>(#[]:Array Value))).push (seqObj "tuple" vs.toArray 0)).get? a=some (seqObj "list" #[] e1):=ag _ ho1;have kp1:∀b o,b≠a->s.heap.get? b=some o->((s.heap.update a (aS fun _=>(#[]:Array Value))).push (seqObj "tuple" vs.toArray 0)).get? b=some o:=fun b o hb q=>ag _ ((s1.2 b hb).trans q);have hsz:s.heap.objs.size<((s.heap.update a (aS fun _=>(#[]:Array Value))).push (seqObj "tuple" vs.toArray 0)).objs.size:=by rw[DI,fu];omega
 show wpAny _ _ (ksk_rest a f false vs.toArray e1 (.ref ((s.heap.update a (aS fun _=>(#[]:Array Value))).push (seqObj "tuple" vs.toArray 0)).objs.size)) _ _
  {s with heap:=((s.heap.update a (aS fun _=>(#[]:Array Value))).push (seqObj "tuple" vs.toArray 0)).push (seqObj "list" #[] 0)}
 generalize(s.heap.update a (aS fun _=>(#[]:Array Value))).push (seqObj "tuple" vs.toArray 0)=h1 at ha1 kp1 hsz⊢;have hne:h1.objs.size≠a:=cz (fP ha0 hsz);unfold ksk_rest;refine aa (fA ?_)
 first
  |rw[List.forIn_toArray]
  | (rw[<-jP];simp only[Hj])
  |rw[<-jP]
 refine aa (ksk_fold (fun i s'=>∃h2 t2 kv e,s'={s with heap:=h2,toks:=t2}/\xa kv (ks.take i)/\h2.get? h1.objs.size=some (seqObj "list" (dZ kv) e)/\h2.get? a=some (seqObj "list" #[] e1)/\∀b o,b≠a->s.heap.get? b=some o->h2.get? b=some o)
  vs 0 _ ⟨_,s.toks,[],0,rfl,by rw[List.take_zero];exact .nil,au _ rfl,ag _ ha1,fun b o hb q=>ag _ (kp1 b o hb q)⟩ ?_ ?_)
 ·rintro j x s' hx ⟨h2,t2,kv,e,rfl,r,hk,ha,kp⟩
  rw[sR]at r;have hj:j<vs.length:=(aF.mp hx).1;have hkj:ks[j]? =some (ks[j]'(by omega)):=af (by omega);have hkv:kv.length=j:=by rw[qQ r,cJ];omega
  refine aa (jA (ky j x _ hx hkj _ _ _ (fun b o q=>kp b o (k0 b o q).2 (k0 b o q).1) fun t h3 t3 k3=>?_));have s3:=bU h3 h1.objs.size (aS (·.push (gH (ks[j]'(by omega)) t)));have ea:(dZ kv).push (gH (ks[j]'(by omega)) t)=dZ (kv++[gH (ks[j]'(by omega)) t]):=by simp
  obtain⟨c2,hc2⟩:∃c2,(h3.update h1.objs.size (aS (·.push (gH (ks[j]'(by omega)) t)))).get? h1.objs.size=some (seqObj "list" (dZ (kv++[gH (ks[j]'(by omega)) t])) c2):=⟨_,by rw[<-ea];exact oO (k3 _ _ hk) (·.push _)⟩;try dsimp only
  refine aa (fB (k3 _ _ hk) rfl ?_ (by rw[av];exact fJ (by omega)) (aI (sT (Array.size_push ..)) (by rw[av];exact AW (by omega))));refine ai ⟨rfl,_,t3,kv++[gH (ks[j]'(by omega)) t],c2,rfl,?_,hc2,(s3.2 a (bZ hne)).trans (k3 _ _ ha),fun b o hb q=>(s3.2 b (aB (fP (aw q) hsz))).trans (k3 _ _ (kp b o hb q))⟩;rw[sR,dj,hkj];exact strs_snoc r
 ·rintro s' ⟨h2,t2,kv,e,rfl,r,hk,ha,kp⟩
  rw[sR,iz (by omega)]at r;try dsimp only
  refine aa (listItems_at hk rfl ?_);exact end_ok nd r hl h64 hk ha hne fun h' c k q=>h h' t2 c (fun b o hb z=>k b o hb (aB (fP (aw z) hsz)) (kp b o hb z)) q
theorem zS{l q:Addr}{vs:List Value}{ks:List Str}{Q:Value->Shared->Prop}(nd:ks.Nodup)(hlk:ks.length=vs.length)(hl:s.heap.IsList l vs.toArray)(h64:vs.length<64)(ky:Keys prog w A.in1.in1 (.ref q) vs ks s.heap)
  (h:∀h' t' c,Kp s.heap h'->h'.get? (s.heap.objs.size+1)=some (seqObj "list" (gu (lA ks) vs).toArray c)->Q (.ref (s.heap.objs.size+1)) {s with heap:=h',toks:=t'}):
  wpAny (model prog w) A (call (.builtin "sorted") [.ref l] [(bj "key",.ref q)]) Q E s:=by
 refine call_function_entry_kw kind_sorted plain_sorted entry_sorted (ksk_s1 _ _) ?_;unfold Builtin.«sorted»;refine aa (m:=checkCount "sorted" 1 1 _) (ai ?_);refine aa (collect_list hl ?_ (by simpa using fJ h64));refine aa (me ?_ (show vs.length<=_ from fJ h64));have hz:((s.heap.push (seqObj "list" #[] 0)).update s.heap.objs.size (aS (·++vs.toArray))).objs.size=s.heap.objs.size+1:=by rw[fu,DI]
 have kp:Kp s.heap ((s.heap.push (seqObj "list" #[] 0)).update s.heap.objs.size (aS (·++vs.toArray))):=fun b o e=>by
  have hb:=aw e;rw[aE _ _ (cz hb)];exact ag _ e
 have hg:(((s.heap.push (seqObj "list" #[] 0)).update s.heap.objs.size (aS (·++vs.toArray))).push (seqObj "list" vs.toArray 0)).get? (s.heap.objs.size+1)=some (seqObj "list" vs.toArray 0):=by
  rw[<-hz];exact au _ rfl
 show wpAny _ _ _ _ _ {s with heap:=((s.heap.push (seqObj "list" #[] 0)).update s.heap.objs.size (aS (·++vs.toArray))).push (seqObj "list" vs.toArray 0)};rw[hz];have kp2:Kp s.heap (((s.heap.push (seqObj "list" #[] 0)).update s.heap.objs.size (aS (·++vs.toArray))).push (seqObj "list" vs.toArray 0)):=fun b o e=>ag _ (kp b o e);generalize((s.heap.push (seqObj "list" #[] 0)).update s.heap.objs.size (aS (·++vs.toArray))).push (seqObj "list" vs.toArray 0)=h1 at hg kp2⊢;refine aa (bC (wpAny_call_entry_kw DG ⟨_,hg,rfl⟩ AN ?_ (ksk_l1 _ _)));show wpAny (model prog w) A.in1.in1 (Builtin.«list.sort» ⟨[.ref (s.heap.objs.size+1)],[(bj "key",.ref q)]⟩) _ _ _;rw[ksk_t1];exact EB (s:={s with heap:=h1}) nd hlk hg (fun b o e=>⟨kp2 b o e,aB (bx (aw e))⟩) h64 ky fun h' t' c k z=>⟨_,rfl,ai ⟨_,rfl,h h' t' c (fun b o e=>k b o (aB (bx (aw e))) (kp2 b o e)) z⟩⟩
end
structure Tb where
 P:Addr
 pos:Pos
 q:Str
noncomputable def Tab(T:Tb)(H:Hp):Prop:=H T.P=some (.tbl #[])\/∃c' oc u vs t,H T.P=some (.tbl #[rawInt T.pos.line,rawInt T.pos.col,.ref c'])/\H c'=some (.frz oc u)/\oc.data=.fields vs/\vs[1]? =some (.str T.q t)
structure Gr(T:Tb)(H H':Hp):Prop where
 keep:∀b o,b≠T.P->H b=some o->H' b=some o
 tab:Tab T H->Tab T H'
theorem Gr.refl(T:Tb)(H:Hp):Gr T H H:=⟨fun _ _ _ e=>e,fun t=>t⟩
theorem Gr.trans{T:Tb}{H H1 H2:Hp}(a:Gr T H H1)(b:Gr T H1 H2):Gr T H H2:=⟨fun c o n e=>b.keep c o n (a.keep c o n e),fun t=>b.tab (a.tab t)⟩
theorem Gr.of{T:Tb}{H H':Hp}(e:aP H H'):Gr T H H':=
 ⟨fun b o _ q=>e b o q,fun t=>by
  rcases t with t|⟨c',oc,u,vs,tk,h1,h2,h3,h4⟩
  ·exact .inl (e _ _ t)
  ·exact .inr ⟨c',oc,u,vs,tk,e _ _ h1,e _ _ h2,h3,h4⟩⟩
theorem Tab.ne{T:Tb}{H:Hp}(t:Tab T H){b:Addr}{o:HO}(e:H b=some o)(n:∀ps,o≠.tbl ps):b≠T.P:=by
 intro z;subst z;rcases t with t|⟨c',oc,u,vs,tk,h1,h2,h3,h4⟩
 ·rw[t]at e;exact n _ (aV e).symm
 ·rw[h1]at e;exact n _ (aV e).symm
section
variable {K:ae}{T:Tb}{H H':Hp}{a:Addr}{xs:List V}
theorem Gr.at(g:Gr T H H')(t:Tab T H){o:HO}(e:H a=some o)(n:∀ps,o≠.tbl ps):H' a=some o:=g.keep a o (t.ne e n) e
theorem Gr.lst(g:Gr T H H')(t:Tab T H)(e:H a=some (.lst xs)):H' a=some (.lst xs):=g.at t e fun _ z=>by cases z
theorem Gr.zH(g:Gr T H H')(t:Tab T H)(e:H a=some (.tup xs)):H' a=some (.tup xs):=g.at t e fun _ z=>by cases z
theorem Gr.frz(g:Gr T H H')(t:Tab T H){o:Obj}{u:HO}(e:H a=some (.frz o u)):H' a=some (.frz o u):=g.at t e fun _ z=>by cases z
theorem Gr.seq(g:Gr T H H')(t:Tab T H)(h:SqL K H a xs):SqL K H' a xs:=by
 rcases h with(h|⟨o,h⟩) |h
 ·exact .inl (.inl (g.lst t h))
 ·exact .inl (.inr ⟨o,g.frz t h⟩)
 ·exact .inr h
end
theorem un_tab{P:Program}{w:World}{fs:List Addr}{H:Hp}{h h':Heap}{p c':Addr}{oc:Obj}{ps more:Array Value}(hok:HOk P w H h)(hx:∀b o,b≠p->h.get? b=some o->h'.get? b=some o)(hP:H p=some (.tbl ps))(hge:h.objs.size<=c')
  (hp':h'.get? p=some (tabObj (ps++more)))(hc:h'.get? c'=some oc):
  Un fs [] H (upd (upd H c' (.frz oc (.ext fun _=>True))) p (.tbl (ps++more))) h h'/\HOk P w (upd (upd H c' (.frz oc (.ext fun _=>True))) p (.tbl (ps++more))) h':=by
 have hn:H c'=none:=hok.fresh hge;have ne:c'≠p:=bZ (cf hP hn);have out:∀{b:Addr}{o:HO},H b=some o->b≠p->upd (upd H c' (.frz oc (.ext fun _=>True))) p (.tbl (ps++more)) b=some o:=fun{b o} e n=>by
  rw[aY n,aY (cf e hn)];exact e
 have nt:∀{b:Addr}{o:HO},H b=some o->(∀vs,o≠.tbl vs)->b≠p:=fun{b o} e n z=>by
  subst z;rw[hP]at e;exact n _ (aV e).symm
 refine⟨⟨fun b o e n _ _=>hx b o (fun z=>by rw[z,hP]at n;cases n) e,fun b o e n _ _=>⟨o.slots,hx b o (fun z=>by rw[z,hP]at n;cases n) e⟩,fun b o e n _=>?_,fun b o e _=>?_,fun b xs e=>out e (nt e fun _ z=>by cases z),
  fun b o u e=>out e (nt e fun _ z=>by cases z),fun b vs e=>?_⟩,fun b o e=>?_⟩
 ·have hb:b≠p:=fun z=>by rw[z,hP]at n;cases n
  rw[aY hb,aY (aB (bh (aw e) hge))];exact n
 ·by_cases hb:b=p
  ·exact⟨_,by rw[hb];exact hp'⟩
  ·exact⟨o,hx b o hb e⟩
 ·by_cases hb:b=p
  ·subst hb
   rw[hP]at e;cases e;exact⟨more,az⟩
  ·exact⟨#[],by rw[out e hb];simp⟩
 ·by_cases hb:b=p
  ·subst hb
   rw[az]at e;cases e;exact hp'
  ·rw[aY hb]at e
   by_cases hc2:b=c'
   ·subst hc2
    rw[az]at e;cases e;exact⟨hc,trivial,⟨_,hc⟩,fun _ _ _ _=>trivial⟩
   ·rw[aY hc2]at e
    refine(hok b o e).qR (fun d v hd q=>hx d v ?_ q) (fun d q=>out q (nt q fun _ z=>by cases z)) fun d xs q=>out q (nt q fun _ z=>by cases z);rcases hd with z|z
    ·rw[z];exact hb
    ·exact nt z fun _ y=>by cases y
noncomputable def BM(mg:Str->Option Value)(h:Heap):Prop:=∃bm ob,mg "__builtins__"=some (.ref bm)/\bm≠kY/\bm≠bq/\h.get? bm=some ob/\ob.cls=.type "module"/\ob.dict=some kY/\ob.data=.plain
noncomputable def rSortK(K:ae)(T:Tb):List V->Hp->VK->Prop:=fun xs H Q=>∃a ys ks,xs=[V.ref a]/\SqL K H a ys/\ks.length<64/\ks.Nodup/\lU H ys ks/\Tab T H/\
 ∀H2 l,Gr T H H2->H2 l=none->Q (.ref l) (upd H2 l (.lst (sortBy .non ks ys)))
noncomputable def qO(K:ae)(T:Tb)(te:TE):TE:=fun σ H Q=>iC te jC σ H fun xs H1=>rSortK K T xs H1 Q
structure G2(env:Env)(params:Arguments)(x:Str)(body:Expr)(scope:Scope):Prop where
 cl:DN scope env=pure []
 df:defaultsOf params env=([],[])
 bd:∀(qual:Str)(pm ctv v:Value)(c':Addr),iZ (kla_fn "<lambda>" qual params body scope [] pm (.ref c') ctv) ⟨[v],[]⟩=pure [(x,v)]
 lk:scope.names.lookup x=some .local
 dbg:(x==("__debug__":Str))=false
 kd:scope.kind=.function
 nc:∀y∈scope.names,y.2≠.cell
 co:scope.isCoroutine=false
 gn:scope.isGenerator=false
section
variable {X:Cx}{e:Expr}{te:TE}{T:Tb}{c:Addr}{p kp pos p1 p2 p3:Pos}{x:Str}{j:Nat}{params:Arguments}{scope:Scope}
theorem qz{prog:Program}{w:World}{A:Around}{H:Hp}{s:Shared}{f c':Addr}{qual:Str}{pm ctv:Value}(O:G2 X.env params x (.Subscript (.Name x p1) (.Constant (.int 0) j p2) p3) scope)(ok:HOk X.prog X.w H s.heap)
  (hf:s.heap.get? f=some (kla_obj "<lambda>" qual params (.Subscript (.Name x p1) (.Constant (.int 0) j p2) p3) scope [] pm c' ctv))(hc:s.heap.CodeRec (.ref c') qual)(hroom:A.depth<iV)(hnl:s.heap.NoLimit):
  ∀{ys:List V}{ks:List Str}{vs:List Value},lU H ys ks->bL ys vs->Keys prog w A (.ref f) vs ks s.heap
 |_,_,_,.nil,.nil=>fun i v k h1=>by simp at h1
 |_,_,_,.cons y t,.cons r q=>by
  intro i v k h1 h2 s1 E Q' kp hq;cases i with
  |zero=>
   obtain⟨a,rest,rfl,ea⟩:=y;cases r;have e1:v=bz a:=by simpa using h1.symm
   subst e1;obtain⟨_,its,rv,o,g1,g2,n,g3⟩:=ok a _ ea;cases rv with
   |cons r0 _=>
    obtain⟨tk,rfl⟩:=r0;obtain rfl:=aV h2;exact GN (kp _ _ hf) (hc.keeps kp) hroom (hnl.keeps kp) (fun v=>O.bd _ _ _ v _) O.lk O.dbg O.kd O.nc O.co O.gn ⟨o,kp _ _ g1,g2,n,g3⟩ (by simp) fun h' t' k'=>hq tk h' t' k'
  |succ i=>exact qz O ok hf hc hroom hnl t q i v k (by simpa using h1) (by simpa using h2) s1 E Q' kp hq
theorem ud{pins:List (Addr×Obj)}{σ:L2.St}{H:Hp}{s:Shared}{Q:VK}{a f c':Addr}{ys:List V}{ks:List Str}{pm ctv:Value}(O:G2 X.env params x (.Subscript (.Name x p1) (.Constant (.int 0) j p2) p3) scope)(I:Inv X pins σ H s)
  (hf:s.heap.get? f=some (kla_obj "<lambda>" T.q params (.Subscript (.Name x p1) (.Constant (.int 0) j p2) p3) scope [] pm c' ctv))(hc:s.heap.CodeRec (.ref c') T.q)(hroom:X.A.depth<iV)
  (hq:SqL X.K H a ys)(h64:ks.length<64)(nd:ks.Nodup)(hk:lU H ys ks)(q:∀l,H l=none->Q (.ref l) (upd H l (.lst (sortBy .non ks ys)))):
  wpAny (model X.prog X.w) X.A (call (.builtin "sorted") [.ref a] [(bj "key",.ref f)]) (EP X pins σ Q) X.xe s:=by
 obtain⟨its,r',pl,hz⟩:=I.list hq;have hl:ks.length=ys.length:=pF hk;have hlen:=r'.length;have hv:ks.length=its.length:=by omega
 refine zS nd hv pl.isList (by omega) (qz (A:=X.A.in1.in1) O I.hok hf hc hroom I.nolimit hk r') fun h' t' cc k hc'=>?_;have hz2:(sortBy V.non ks ys).length<=sizeLine:=by
  unfold sortBy;rw[ao,ord_len ks nd];omega
 exact⟨.ref (s.heap.objs.size+1),_,I.laid (t':=t') k (eG _) (show dR X.prog X.w _ _ _ (.lst (sortBy .non ks ys))from⟨hz2,_,cc,Fq nd hl r',hc'⟩),rfl,q _ (I.hok.fresh (eG _))⟩
theorem Fe(he:PE X e te)(hs:bc [e] X.env=(false,eval e X.env)::bc [] X.env)(hg:Gl X "sorted")(hm:X.mg "sorted"=none)(hcode:X.env.code=.ref c)(hC:CodeHd X.base c T.P)(hq:X.env.qual++"<lambda>"=T.q)(hb:BM X.mg X.base)
  (O:G2 X.env params x (.Subscript (.Name x p1) (.Constant (.int 0) j p2) p3) scope)(hroom:X.A.depth<iV):
  PE X (.Call (.Name "sorted" p) [e] [⟨some (bj "key"),.Lambda params (.Subscript (.Name x p1) (.Constant (.int 0) j p2) p3) scope T.pos,kp⟩] pos) (qO X.K T te):=by
 intro pins s σ H Q I h;refine eM (iu (u:=.builtin "sorted") I hg hm (by decide+kernel) ?_);refine callWith_kw (thn (fg he ja hs pos pins s σ H _ I h) fun us s1 ⟨vs,H1,I1,r,a,ys,ks,ev,sq,h64,nd,hk,tb,q⟩=>?_) (by rw[hs];rfl) (by rw[hs];rfl);subst ev;obtain⟨u,rfl,rx⟩:=vals1 r;cases rx;obtain⟨bm,ob,b1,b2,b0,b3,b4,b5,b6⟩:=hb;have hgs:s1.heap.Ns bq X.mg:=I1.mod.glob.keeps I1.bk;have hbP:bm≠T.P:=fun z=>by
  have n:=(I1.bs _ _ b3).2;rw[z]at n;rcases tb with t|⟨_,_,_,_,_,t,_⟩<;>(rw[t]at n;cases n)
 have hgP:bq≠T.P:=fun z=>by
  obtain⟨o,es,ep,g1,g2,_⟩:=I1.mod.glob;have n:=(I1.bs _ _ g1).2;rw[z]at n;rcases tb with t|⟨_,_,_,_,_,t,_⟩<;>(rw[t]at n;cases n)
 have hB:s1.heap.BuiltinsAt X.mg T.P:=⟨bm,ob,b1,b2,b0,hbP,I1.bk _ _ b3,b4,b5,b6⟩;refine kws_cons (kla_eval O.df ?_);rw[hq];rcases tb with t|⟨c',oc,u,vs,tk,t,hcT,hoc,hvs⟩
 ·refine kla_makeFunction (mg:=X.mg) O.cl I1.ok.glob hgs hcode (hC.keeps I1.bk) (ps:= #[]) (I1.hok _ _ t) True.intro rfl hgP hB fun c' ctv h' tk hx hge hlt hrec htb=>kws_nil ?_
  obtain⟨c2,oc,vs,t2,ec,hoc,hd,hv⟩:=hrec;cases ec;have hx':∀b o,b≠T.P->s1.heap.get? b=some o->(h'.push (kla_obj "<lambda>" T.q params (.Subscript (.Name x p1) (.Constant (.int 0) j p2) p3) scope [] ((X.mg "__name__").getD .none) c' ctv)).get? b=some o:=fun b o n e=>ag _ (hx b o n e);obtain⟨un,ok⟩:=un_tab (fs:=frs X.stack) I1.hok hx' t hge (ag _ htb) (ag _ hoc);have I2:=I1.call (g':=s1.gens) (t':=tk) (d':=s1.drawn) un ok I1.bare (fun b z=>absurd z (by simp));have tb1:Tab T H1:=.inl t;have gr:Gr T H1 (upd (upd H1 c' (.frz oc (.ext fun _=>True))) T.P (.tbl (#[]++ #[rawInt T.pos.line,rawInt T.pos.col,bz c']))):=by
   have hn:H1 c'=none:=I1.hok.fresh hge;refine⟨fun b o n e=>by rw[aY n,aY (cf e hn)];exact e,fun _=>.inr ⟨c',oc,.ext fun _=>True,vs,t2,?_,?_,hd,hv⟩⟩
   ·rw[az];simp
   ·rw[aY (bZ (cf t hn)),az]
  exact ud O I2 (au _ rfl) ⟨c',oc,vs,t2,rfl,ag _ hoc,hd,hv⟩ hroom (gr.seq tb1 sq) h64 nd (Paired.qg hk fun v k ⟨b,rest,e1,e2⟩=>⟨b,rest,e1,gr.zH tb1 e2⟩) (q _ · gr)
 ·refine kla_makeFunctionHit (mg:=X.mg) O.cl I1.ok.glob hgs hcode (hC.keeps I1.bk) (I1.hok _ _ t) (by simp[TriplesOk,rawInt]) (cv:=.ref c') (by simp[codeAmong,rawInt]) hB fun ctv h' tk hk' hsz=>kws_nil ?_
  have I2:=I1.call (H':=H1) (h':=h'.push (kla_obj "<lambda>" T.q params (.Subscript (.Name x p1) (.Constant (.int 0) j p2) p3) scope [] ((X.mg "__name__").getD .none) c' ctv)) (g':=s1.gens) (t':=tk) (d':=s1.drawn) (ch:=[])
   (Un.kept fun b o e=>ag _ (hk' b o e)) (I1.hok.kept fun b o e=>ag _ (hk' b o e)) I1.bare (fun b z=>absurd z (by simp))
  exact ud O I2 (au _ rfl) ⟨c',oc,vs,_,rfl,ag _ (hk' _ _ (I1.hok _ _ hcT).1),hoc,hvs⟩ hroom sq h64 nd hk fun l hl=>q H1 l (Gr.refl _ _) hl
end
end Lm
namespace Lm
open PySem PySem.Spec PySem.W PyProof.Rows L2 Q R
noncomputable def nX(lx:Str)(p:Pos):Arguments:={posonlyargs:=[],args:=[⟨lx,none,p⟩],vararg:=none,kwonlyargs:=[],kw_defaults:=[],kwarg:=none,defaults:=[]}
noncomputable def isArg(lx:Str):List Arg->Bool
 |x::r=>r.isEmpty&&(x.annotation.isNone&&x.arg==lx)
 | []=>false
noncomputable def uF(lx:Str)(a:Arguments):Bool:=a.posonlyargs.isEmpty&&(a.vararg.isNone&&(a.kwonlyargs.isEmpty&&(a.kw_defaults.isEmpty&&(a.kwarg.isNone&&(a.defaults.isEmpty&&isArg lx a.args)))))
theorem iM{a b:Bool}(h:(a&&b)=true):a=true/\b=true:=by rwa [aj]at h
theorem emp{α:Type}{l:List α}(h:l.isEmpty=true):l=[]:=List.isEmpty_iff.mp h
theorem non{α:Type}{l:Option α}(h:l.isNone=true):l=none:=Option.isNone_iff_eq_none.mp h
theorem Au{lx:Str}{a:Arguments}(h:uF lx a=true):∃p,a=nX lx p:=by
 obtain⟨po,ar,va,ko,kd,kw,df⟩:=a;obtain⟨h1,h⟩:=iM h;obtain⟨h2,h⟩:=iM h;obtain⟨h3,h⟩:=iM h;obtain⟨h4,h⟩:=iM h;obtain⟨h5,h⟩:=iM h;obtain⟨h6,h⟩:=iM h;cases ar with
 |nil=>exact(aC h).elim
 |cons x r=>
  obtain⟨h7,h⟩:=iM h;obtain⟨h8,h9⟩:=iM h;obtain⟨y,an,p⟩:=x;cases emp h1;cases non h2;cases emp h3;cases emp h4;cases non h5;cases emp h6;cases emp h7;cases non h8;cases eq_of_beq h9;exact⟨p,rfl⟩
noncomputable def mX(lx:Str)(sc:Scope):Bool:=decide (sc.names=[(lx,.local)])&&(decide (sc.kind=.function)&&(decide (sc.isCoroutine=false)&&(decide (sc.isGenerator=false)&&(lx==("__debug__":Str))==false)))
noncomputable def isNm(lx:Str):Expr->Bool
 |.Name x _=>x==lx
 |_=>false
theorem Bx{lx:Str}{e:Expr}(h:isNm lx e=true):∃p,e=.Name lx p:=by
 cases e with
 |Name x p=>cases eq_of_beq h;exact⟨p,rfl⟩
 |_=>exact(aC h).elim
noncomputable def isZero:Expr->Bool
 |.Constant c _ _=>decide (c=.int 0)
 |_=>false
theorem C5{e:Expr}(h:isZero e=true):∃j p,e=.Constant (.int 0) j p:=by
 cases e with
 |Constant c j p=>cases of_decide_eq_true h;exact⟨j,p,rfl⟩
 |_=>exact(aC h).elim
noncomputable def By(lx:Str):Expr->Bool
 |.Subscript a b _=>isNm lx a&&isZero b
 |_=>false
theorem Ax{lx:Str}{e:Expr}(h:By lx e=true):∃p1 j p2 p3,e=.Subscript (.Name lx p1) (.Constant (.int 0) j p2) p3:=by
 cases e with
 |Subscript a b p=>
  obtain⟨h1,h2⟩:=iM h;obtain⟨p1,rfl⟩:=Bx h1;obtain⟨j,p2,rfl⟩:=C5 h2;exact⟨_,_,_,_,rfl⟩
 |_=>exact(aC h).elim
noncomputable def GJ(lx:Str)(pos:Pos):Expr->Bool
 |.Lambda params body scope lp=>decide (lp=pos)&&(uF lx params&&(mX lx scope&&By lx body))
 |_=>false
theorem Dm{lx:Str}{pos:Pos}{e:Expr}(h:GJ lx pos e=true):∃pa scope p1 j p2 p3,e=.Lambda (nX lx pa) (.Subscript (.Name lx p1) (.Constant (.int 0) j p2) p3) scope pos/\mX lx scope=true:=by
 cases e with
 |Lambda params body scope lp=>
  obtain⟨h1,h⟩:=iM h;obtain⟨h2,h⟩:=iM h;obtain⟨h3,h4⟩:=iM h;cases of_decide_eq_true h1;obtain⟨pa,rfl⟩:=Au h2;obtain⟨p1,j,p2,p3,rfl⟩:=Ax h4;exact⟨_,_,_,_,_,_,rfl,h3⟩
 |_=>exact(aC h).elim
noncomputable def chkKw(lx:Str)(pos:Pos):List Keyword->Bool
 |k::r=>r.isEmpty&&(decide (k.arg=some (bj "key"))&&GJ lx pos k.value)
 | []=>false
noncomputable def GK(sc:Scope)(N:List Str)(ce:CE)(lx:Str)(pos:Pos):Expr->Bool
 |.Call f es ks _=>isNm "sorted" f&&(km sc "sorted"&&(ku sc N (.cons ce .nil) es&&chkKw lx pos ks))
 |_=>false
noncomputable def chkTg(sc:Scope)(N:List Str)(i:Nat):List Expr->Bool
 |g::r=>r.isEmpty&&ma sc N true (.name i) g
 | []=>false
noncomputable def GL(sc:Scope)(N:List Str)(i:Nat)(ce:CE)(lx:Str)(pos:Pos):Stmt->Bool
 |.Assign ts v _=>chkTg sc N i ts&&GK sc N ce lx pos v
 |_=>false
theorem Dp{sc:Scope}{N:List Str}{i:Nat}{ce:CE}{lx:Str}{pos:Pos}{s:Stmt}(h:GL sc N i ce lx pos s=true):∃g e pa scope p1 j p2 p3 p kp cp sp,s=.Assign [g] (.Call (.Name "sorted" p) [e] [⟨some (bj "key"),.Lambda (nX lx pa) (.Subscript (.Name lx p1) (.Constant (.int 0) j p2) p3) scope pos,kp⟩] cp) sp/\
  ma sc N true (.name i) g=true/\km sc "sorted"=true/\aZ sc N ce e=true/\mX lx scope=true:=by
 cases s with
 |Assign ts v sp=>
  obtain⟨h1,h2⟩:=iM h;cases ts with
  |nil=>exact(aC h1).elim
  |cons g r=>
   obtain⟨h3,h4⟩:=iM h1;cases emp h3;cases v with
   |Call f es ks cp=>
    obtain⟨h5,h2⟩:=iM h2;obtain⟨h6,h2⟩:=iM h2;obtain⟨h7,h8⟩:=iM h2;obtain⟨p,rfl⟩:=Bx h5;obtain⟨e,r',rfl,h9,h10⟩:=eS h7;cases fW h10;cases ks with
    |nil=>exact(aC h8).elim
    |cons k ks=>
     obtain⟨h11,h12⟩:=iM h8;obtain⟨h13,h14⟩:=iM h12;cases emp h11;obtain⟨ka,kv,kp⟩:=k;cases of_decide_eq_true h13;obtain⟨pa,scope,p1,j,p2,p3,e1,h15⟩:=Dm h14;cases e1;exact⟨_,_,_,_,_,_,_,_,_,_,_,_,rfl,h4,h6,h9,h15⟩
   |_=>exact(aC h2).elim
 |_=>exact(aC h).elim
noncomputable def chkK(sc:Scope)(N:List Str)(c1:CS)(i:Nat)(ce:CE)(lx:Str)(pos:Pos)(c2:CB):List Stmt->Bool
 |s1::r=>m5 sc N c1 s1&&rst r
 | []=>false
where rst:List Stmt->Bool
 |s2::rest=>GL sc N i ce lx pos s2&&m6 sc N c2 rest
 | []=>false
section
variable {P:Program}{w:World}{K:ae}{mg:Str->Option Value}{base:Heap}
theorem Gk{x qual:Str}{st:Stmt}{f c:Addr}{fd:eN}{N ps:List Str}{k:Nat}{G:Gam}{sp:Sp}{c1:CS}{i:Nat}{ce:CE}{lx:Str}{c2:CB}{T:Tb}(F:Fun K x qual st f fd)(hd:kE N ps (aH st)=true)
  (hc:chkK (aH st) N c1 i ce lx T.pos c2 (aU st)=true)(hcd:fd.code=.ref c)(hC:CodeHd base c T.P)(hq:qual++".<locals>."++"<lambda>"=T.q)(hb:BM mg base)
  (hbd:∀(p:Pos)(body:Expr)(scope:Scope)(qual:Str)(pm ctv v:Value)(c':Addr),iZ (kla_fn "<lambda>" qual (nX lx p) body scope [] pm (.ref c') ctv) ⟨[v],[]⟩=pure [(lx,v)])
  (g:GOk P w K mg base (CXx P w) k G)(len:∀vs H Q E,sp vs H Q E->vs.length=ps.length)
  (h:∀vs H Q E,sp vs H Q E->tp (wpS G K (fun _=>E) c1) (tp (vq (qO K T (wpE G K (fun _=>E) ce)) (kG i)) (wpB G K (fun _=>E) c2)) {nx:=fun _ H'=>Q .non H',rt:=Q} (start N vs) H):gY P w K mg base (CXx P w) (k+1) f fd ps sp:=by
 have S:=ya hd;obtain⟨oc,od,kV,doc,pm,an,cdv,ct,osl,rfl,lk,hcd'⟩:=F.ex;have ecd:cdv=.ref c:=hcd;subst ecd;refine fn_of lk hcd' S len fun A outer s H vs Q E hr hsp=>?_;have o:Ok (CXx P w) G (fun _=>E) (aH st) N true (tJ (CXx P w) P w K mg base N qual (aH st) f (.ref c) A outer s H E):=
  {names:=rfl,top:=fun _=>⟨rfl,rfl,rfl⟩,nd:=S.nd,loc:=fun _ z=>z,cel:=fun _ z=>z,fre:=fun y z=>absurd rfl (S.nofree _ (bw z)),glo:=fun _ z=>z,all:=fun _ _=>rfl,own:=fun _ _=>rfl,calm:=rfl,
   hu:=by have :=hr.units;show _+50<cLine;exact dX (Nat.add_le_add_left (by decide) _) this
   val:=g.val
   fn:=fun y n sp' dvs e=>by
    obtain⟨f',fd',ps',ds',j,hj,F',hm,hk,hb,hv⟩:=g.fn y n sp' dvs e;exact⟨f',fd',ps',ds',j,F',hr.mono hj,hm,hk,hb,hv⟩
   ini:=fun y n C sp' dvs e=>by
    obtain⟨f',fd',ps',ds',j,hj,M,F',hm,hb,hv⟩:=g.ini y n C sp' dvs e;exact⟨f',fd',ps',ds',j,M,F',hr.mono hj,hm,hb,hv⟩
   dic:=g.dic
   mak:=fun y n C sp' dvs e=>by
    obtain⟨f',fd',ps',ds',j,hj,M,F',hm,hb,hv⟩:=g.mak y n C sp' dvs e;exact⟨f',fd',ps',ds',j,M,F',hr.mono hj,hm,hb,hv⟩
   mth:=fun y n C sp' dvs e=>by
    obtain⟨f',fd',ps',ds',j,hj,c,M,F',hb,hv⟩:=g.mth y n C sp' dvs e;exact⟨f',fd',ps',ds',j,c,M,F',hr.mono hj,hb,hv⟩
   blt:=g.blt,px:=B0,pass:=uY,made:=uZ,madeX:=sI,cx:=rfl}
 refine⟨_,?_,h vs H Q E hsp⟩;generalize hB:aU st=body at hc;cases body with
 |nil=>exact(aC hc).elim
 |cons s1 r=>
  obtain⟨h1,hc⟩:=iM hc;cases r with
  |nil=>exact(aC hc).elim
  |cons s2 rest=>
  obtain⟨h2,h3⟩:=iM hc;obtain⟨g',e,pa,scope,p1,j,p2,p3,p,kp,cp,sp',rfl,h4,h6,h7,h12⟩:=Dp h2;obtain⟨n1,h12⟩:=iM h12;obtain⟨n2,h12⟩:=iM h12;obtain⟨n3,h12⟩:=iM h12;obtain⟨n4,n5⟩:=iM h12;rw[decide_eq_true_eq]at n1 n2 n3 n4;have hG:=oU (CX:=CXx P w) (fun _ _ _ _ _ z=>Dh z) (.name i) _ o h4;refine rf (Ey (fun _ _ _ _ _ z=>Dh z) c1 s1 o (fun _ _ _ _ _=>S.kind) h1) (rf ?_ (oV (fun _ _ _ _ _ z=>Dh z) c2 rest o (fun _ _ _ _ _=>S.kind) h3));refine E6 (Fe (c:=c) (T:=T) (bu (fun _ _ _ _ _ z=>Dh z) ce e o h7) (bB h7 [] _) (o.gl h6) (g.blt _ (by decide+kernel)) rfl hC hq hb ?_ ?_) hG (Fy rfl _ _ _) (rA h4 (jV _) _) (by rw[nR h4];rfl)
  ·refine⟨?_,rfl,fun qual pm ctv v c'=>hbd pa _ _ qual pm ctv v c',by rw[n1];simp,by simpa using n5,n2,?_,n3,n4⟩
   ·unfold DN
    rw[n1];rfl
   ·rw[n1]
    intro z hz;have :z=(lx,d7.local):=by simpa using hz
    rw[this];exact fun z=>by cases z
  ·exact hr.depth
end
noncomputable def jc(K:ae)(tabs:List Addr)(a:Addr)(vs:List Value)(ns:List Int):Hp:=fun b=>
 if b∈tabs then some (.tbl #[])else if b=a/\K.lookup a=none then some (.frz {cls:=.type "list",data:=.seq vs.toArray} (.lst (ns.map V.int)))else none
theorem C2{P:Program}{w:World}{K:ae}{mg mb:Str->Option Value}{CX:CXT}{k:Nat}{fa a:Addr}{fd:eN}{x:Str}{sp:Sp}{s₁:Shared}{vs:List Value}{ns:List Int}{tabs:List Addr}(KX:K.In s₁.heap)
  (hns:s₁.heap.Ns bq mg)(hb:s₁.heap.Ns kY mb)(hbb:∀x:Str,x≠"__name__"->mb x=eK x)(hlim:s₁.heap.NoLimit)(hg:s₁.gens= #[])(ha:s₁.heap.get? a=some {cls:=.type "list",data:=.seq vs.toArray})
  (hi:cb vs ns) (hl:ns.length<=sizeLine) (hr:hZ k BW) (hT:∀p∈tabs,s₁.heap.get? p=some (tabObj #[])/\isCodeTable s₁.heap p/\K.lookup p=none)
  (F:∀base:Heap,K.In base->base.Ns bq mg->(∀b o,s₁.heap.get? b=some o->o.cls≠.none->o.cls≠.type "list"->base.get? b=some o)->gY P w K mg base CX k fa fd [x] sp)
  (hbind:∀(s:Shared)(u:Value),BindsTo s fd ⟨[u],[]⟩ [(x,u)])
  (hsp:∀H:Hp,(∀p∈tabs,H p=some (.tbl #[]))->SqL K H a (ns.map V.int)->sp [.ref a] H (fun v _=>v=.bl true) fun _ _ _=>False) (hCX:∀H e s',CX [] H s₁ (fun _ _ _=>False) e s'->False):
  fo (model P w) BW (.call (.ref fa) ⟨[.ref a],[]⟩) (fun r s'=>r=.ok (.ret (.bool true))/\OldK s₁.heap s'.heap/\s'.os=s₁.os/\l9 s'.gens) s₁:=by
 have rv:=oQ hi;have lenV:=hi.length;have cases3:∀b,(b∈tabs/\jc K tabs a vs ns b=some (.tbl #[]))\/(b=a/\K.lookup a=none/\jc K tabs a vs ns b=some (.frz {cls:=.type "list",data:=.seq vs.toArray} (.lst (ns.map V.int))))\/jc K tabs a vs ns b=none:=fun b=>by
  unfold jc;by_cases h1:b∈tabs
  ·exact .inl ⟨h1,if_pos h1⟩
  ·rw[if_neg h1]
   by_cases h2:b=a/\K.lookup a=none
   ·exact .inr (.inl ⟨h2.1,h2.2,if_pos h2⟩)
   ·exact .inr (.inr (if_neg h2))
 have tabH:∀p∈tabs,jc K tabs a vs ns p=some (.tbl #[]):=fun p hp=>if_pos hp;have haT:a∉tabs:=fun z=>by
  have :=(hT a z).1
  rw[ha]at this;cases this
 --what is neither a table nor a list is not tracked
 have untr:∀{b:Addr}{o:Obj},s₁.heap.get? b=some o->o.cls≠.none\/(∃es ep,o.data=.dict es ep)->o.cls≠.type "list"\/(∃es ep,o.data=.dict es ep)->jc K tabs a vs ns b=none:=fun{b o} e h1 h2=>by
  rcases cases3 b with⟨q,_⟩ |⟨rfl,_⟩ |q
  ·have :=(hT b q).1
   rw[e]at this;cases this;rcases h1 with z|⟨_,_,z⟩
   ·exact absurd rfl z
   ·cases z
  ·rw[ha]at e;cases e
   rcases h2 with z|⟨_,_,z⟩
   ·exact absurd rfl z
   ·cases z
  ·exact q
 have nsK:∀{b:Addr}{m:Str->Option Value},s₁.heap.Ns b m->(yv s₁.heap (jc K tabs a vs ns)).Ns b m:=fun{b m} ⟨o,es,ep,e,d,r⟩=>⟨o,es,ep,rQ e (untr e (.inr ⟨_,_,d⟩) (.inr ⟨_,_,d⟩)),d,r⟩;have hKb:K.In (yv s₁.heap (jc K tabs a vs ns)):=fun b o e=>rQ (KX b o e) (by
  rcases cases3 b with⟨q,_⟩ |⟨rfl,z,_⟩ |q
  ·rw[(hT b q).2.2]at e;cases e
  ·rw[z]at e;cases e
  ·exact q)
 have hok:HOk P w (jc K tabs a vs ns) s₁.heap:=fun b o e=>by
  rcases cases3 b with⟨q,z⟩ |⟨rfl,_,z⟩ |z
  ·rw[z]at e;cases e
   exact(hT b q).1
  ·rw[z]at e;cases e
   exact⟨ha,by rw[ao];exact hl,vs,_,rv,ha⟩
  ·rw[z]at e;cases e
 have hS:SqL K (jc K tabs a vs ns) a (ns.map V.int):=by
  cases hk:K.lookup a with
  |none=>
   refine .inl (.inr ⟨{cls:=.type "list",data:=.seq vs.toArray},?_⟩);unfold jc;rw[if_neg haT,if_pos ⟨rfl,hk⟩]
  |some o=>
   have e:=KX a o hk;rw[ha]at e;cases e;exact .inr ⟨_,vs.toArray,_,hk,rfl,rfl,rfl,by rw[av,lenV];exact hl,by simpa using rv⟩
 have hM:Mod K mg (yv s₁.heap (jc K tabs a vs ns)):=⟨hKb,nsK hns,⟨mb,nsK hb,hbb⟩,let⟨mc,h1,h2⟩:=hlim;⟨mc,nsK h1,h2⟩⟩;have e0:AM P w K mg (yv s₁.heap (jc K tabs a vs ns)) BW [] s₁ (jc K tabs a vs ns):=⟨rfl,hM,fun b o e=>of_hidT e,sT (Dc _ _),trivial,fun b hb=>absurd (show b∈([]:List Addr)from hb) (by simp),hok,.of_eq hg⟩;have f0:=F _ hKb (nsK hns) fun b o e h1 h2=>rQ e (untr e (.inl h1) (.inl h2));refine iY (f0.run BW [] s₁ (jc K tabs a vs ns) ⟨[.ref a],[]⟩ [.ref a] [.ref a] _ _ hr e0 (hbind s₁ (.ref a)) (.cons rfl .nil) (hsp _ tabH hS)) fun r s' h=>?_;cases r with
 |error e=>exact(hCX _ e s' h).elim
 |ok fl=>
  cases fl with
  |next =>exact gz h
  |brk=>exact gz h
  |cont=>exact gz h
  |ret u=>
   obtain⟨v,H',os,bare,un,hok',r',q⟩:=h;have q':v=.bl true:=q;subst q';obtain rfl:u=pC true:=r';have kept:∀b o,s₁.heap.get? b=some o->b∉tabs->s'.heap.get? b=some o:=fun b o e nt=>by
    rcases cases3 b with⟨z,_⟩ |⟨rfl,_,z⟩ |z
    ·exact absurd z nt
    ·have z2:=un.frzs b _ _ z
     obtain⟨e2,_⟩:=hok' b _ z2;rw[ha]at e;cases e;exact e2
    ·exact un.keep b o e z (by intro z;exact absurd (show b∈([]:List Addr)from z) (by simp)) (by simp)
   have grown:∀b∈tabs,∃more,s'.heap.get? b=some (tabObj (#[]++more)):=fun b hb=>by
    obtain⟨more,z⟩:=un.tbls b _ (tabH b hb);exact⟨more,hok' b _ z⟩
   refine⟨rfl,⟨fun b o e=>?_,fun b o e=>?_⟩,os,bare⟩
   ·by_cases hb:b∈tabs
    ·obtain⟨e1,ct,_⟩:=hT b hb
     rw[e]at e1;cases e1;obtain⟨more,z⟩:=grown b hb;exact .inr (.inl ⟨ct,rfl,#[],more,rfl,z⟩)
    ·exact .inl (kept b o e hb)
   ·by_cases hb:b∈tabs
    ·obtain⟨more,z⟩:=grown b hb
     exact⟨_,z⟩
    ·exact⟨o,kept b o e hb⟩
theorem bm_of{mg:Str->Option Value}{h:Heap}(hg:h.Ns bq mg)(hb:∃bm ob,mg "__builtins__"=some (.ref bm)/\bm≠kY/\h.get? bm=some ob/\ob.cls=.type "module"/\ob.dict=some kY/\ob.data=.plain):BM mg h:=by
 obtain⟨bm,ob,b1,b2,b3,b4,b5,b6⟩:=hb;refine⟨bm,ob,b1,b2,fun q=>?_,b3,b4,b5,b6⟩;obtain⟨o,es,ep,e,hd,_⟩:=hg;rw[q,e]at b3;cases b3;rw[hd]at b6;cases b6
theorem Ed{l:PySem.W.OpenLaw}{n k:Nat}{q:Program}{loose:List Str}{XP:(Str->Option Value)->Heap->Prop}{YP:World->Heap->Prop}{d:DefRec}{K:Params->ae}{CX:CXT}{sp:ae->Sp}{x:Str}{tabs:List Addr}
  (hn:l.most=some n)(hn2:n<=sizeLine)(hdf:d.params.defaults=[])(hr:hZ k BW)(hY:∀(w:World)(h:Heap),YP w h->(K w.params).In h)
  (hT:∀(w:World)(s₀:Shared)(mg mb:Str->Option Value)(h:Heap),Ground q loose [] XP w s₀ mg mb h->YP w h->∀p∈tabs,h.get? p=some (tabObj #[])/\isCodeTable h p/\(K w.params).lookup p=none)
  (F:∀(w:World)(mg:Str->Option Value)(fa:Addr)(h:Heap),(K w.params).In h->h.Ns bq mg->mg d.name=some (.ref fa)->
   ∃fd:eN,(∀(s:Shared)(u:Value),BindsTo s fd ⟨[u],[]⟩ [(x,u)])/\
    ∀base:Heap,(K w.params).In base->base.Ns bq mg->BM mg base->gY l.prog w (K w.params) mg base CX k fa fd [x] (sp (K w.params)))
  (hsp:∀(K:ae)(H:Hp)(a:Addr)(ns:List Int),ns.length<=n->(∀p∈tabs,H p=some (.tbl #[]))->SqL K H a (ns.map V.int)->sp K [.ref a] H (fun v _=>v=.bl true) fun _ _ _=>False)
  (hCX:∀(H:Hp)(s:Shared)(e:Value)(s':Shared),CX [] H s (fun _ _ _=>False) e s'->False):
  PySem.W.WalkO q loose XP YP l.row.toRowW d [] (fun f vs=>PySem.call f vs):=by
 refine Att.yY hn hdf fun w s₀ s₁ mg mb fa o pm cd doc a vs ns G Y ho hd hcd hmg hobj hints hlen hg=>?_;have KX:=hY w _ Y;obtain⟨fd,hb,hF⟩:=F w mg fa _ KX G.T.g hmg;have hbm:=bm_of G.T.g G.T.bmain;refine C2 KX G.T.g G.T.b G.T.builtins G.T.nolimit hg hobj hints (aI hlen hn2) hr (hT w s₀ mg mb _ G Y) (fun base k1 k2 k3=>hF base k1 k2 ?_) hb (fun H t S=>hsp _ H a ns hlen t S) fun H e s'=>hCX H s₁ e s';obtain⟨bm,ob,b1,b2,b0,b3,b4,b5,b6⟩:=hbm;exact⟨bm,ob,b1,b2,b0,k3 bm ob b3 (by rw[b4];nofun) (by rw[b4];decide),b4,b5,b6⟩
end Lm
namespace Cp
open PySem PySem.Spec PyProof.Rows L2 R Lm
noncomputable def nP:List Str:=["table"]
noncomputable def iS:List Str:=["table","ordered"]
noncomputable def jM:CS:=.expr (.call "need_table" (.cons (.var 0) .nil))
noncomputable def jL:CB:=.cons (.ret (.comp ["name","readings"] [] (.tup (.cons (.name 0) (.cons (.name 1) .nil))) (.seq (.var 1)) .no (.tup (.cons (.var 0) (.cons (.bfn .tuple (.cons (.bfn .list (.cons (.var 1) .nil)) .nil)) .nil))))) .nil
theorem _root_.Lm.Gr.free{T:Tb}{H H':Hp}(g:Gr T H H')(t:Tab T H){l:Addr}(h:H' l=none):H l=none:=by
 cases e:H l with
 |none=>rfl
 |some o=>
  by_cases n:l=T.P
  ·rcases g.tab t with z|⟨_,_,_,_,_,z,_⟩
   ·rw[n,z]at h;cases h
   ·rw[n,z]at h;cases h
  ·rw[g.keep l o n e]at h;cases h
noncomputable def srt(H:Hp):V->List V
 |.ref a=>match dY (H a)with
  |some ys=>_root_.Q.sortBy .non (ys.map (aN H)) ys
  |none=>[]
 |_=>[]
noncomputable def Copied(H H':Hp)(us zs:List V):Prop:=zs.length=us.length/\∀(i:Nat) z,zs[i]? =some z->∃b r,z=.ref b/\H' b=some (.tup [.str (aN H (us.getD i .non)),.ref r])/\H' r=some (.tup (nM H (us.getD i .non)))
noncomputable def qT(C:Addr)(T:Tb):Sp:=fun vs H Q E=>∃x,vs=[x]/\Kn4 H x/\Tab T H/\(cV H x=true->∀H' l zs,Gr T H H'->H l=none->H' l=some (.lst zs)->Copied H H' (srt H x) zs->Q (.ref l) H')/\(cV H x=false->∀H',aP H H'->E (.ref C) none H')
theorem tk_of{H H':Hp}(s:aP H H'):∀{xs:List V},(∀y∈xs,cF H y=true)->_root_.Q.lU H' xs (xs.map (aN H))
 | [],_=>.nil
 |y::xs,h=>by
  obtain⟨a,b,e,h1,_⟩:=iT (h y (.head _));exact .cons ⟨a,_,e,s _ _ h1⟩ (tk_of s fun z hz=>h z (.tail _ hz))
theorem td{G:Gam}{K:ae}{C:Addr}{T:Tb}(g1:G.fn "need_table" 1=some (oS C,[])):
  ∀vs H Q E,qT C T vs H Q E->tp (R.wpS G K (fun _=>E) jM) (tp (vq (qO K T (wpE G K (fun _=>E) (.var 0))) (kG 1)) (wpB G K (fun _=>E) jL)) {nx:=fun _ H'=>Q .non H',rt:=Q} (L2.start iS vs) H:=by
 rintro vs H Q E ⟨x,rfl,hk,tb,q1,q2⟩;unfold jM jL;change tp _ _ _ [some x,none] H;unfold qO;walk_at "wp";refine⟨_,_,g1,x,rfl,hk,fun e H1 s1=>?_,q2⟩;obtain⟨a,ys,rfl,h1,h2,h3,h4,h5⟩:=d9 e;have tb1:Tab T H1:=(Gr.of s1).tab tb;refine⟨a,ys,ys.map (aN H),rfl,s1.seq (jb h1),by rw[ao];omega,h4,tk_of s1 h3,tb1,fun H2 l gr hl=>?_⟩;have eu:srt H (.ref a)=_root_.Q.sortBy V.non (ys.map (aN H)) ys:=by
  show(match dY (H a)with |some ys=>_root_.Q.sortBy V.non (ys.map (aN H)) ys|none=>[])=_;rw[h1]
 have zp:(_root_.Q.sortBy V.non (ys.map (aN H)) ys).Perm ys:=_root_.Q.fT V.non h4 (by simp);have q0:=q1 e;rw[eu]at q0;generalize _root_.Q.sortBy V.non (ys.map (aN H)) ys=us at zp q0⊢;have gr0:Gr T H (upd H2 l (.lst us)):=(Gr.of s1).trans (gr.trans (Gr.of (aK hl)));have el:upd H2 l (.lst us) l=some (.lst us):=az;generalize upd H2 l (.lst us)=H3 at gr0 el⊢;have hul:us.length<=40:=by rw[zp.length_eq];exact h2
 refine dF (cI rfl (SqL.of el) (dP d8 (aI hul (by decide)) (fun H4 s4=>SqL.of (s4 _ _ el)) (fun i v H'=>∃b r,v=V.ref b/\H' b=some (.tup [.str (aN H (us.getD i .non)),.ref r])/\H' r=some (.tup (nM H (us.getD i .non))))
  (fun i v H4 H5 s5 ⟨b,r,z1,z2,z3⟩=>⟨b,r,z1,s5 _ _ z2,s5 _ _ z3⟩) (fun τ=>∃t u,τ=[t,u]) ⟨none,none,rfl⟩ ?_ ?_))
 ·rintro j y τ H4 R hi ⟨t,u,rfl⟩ s4 hy k
  have hm:y∈ys:=zp.mem_iff.mp (aR hy);obtain⟨b,c,rfl,k1,k2,k3,k4⟩:=iT (h3 y hm);have f1:=s4 _ _ (gr0.zH tb k1);have f2:=s4 _ _ (gr0.zH tb k2);refine⟨b,_,rfl,SqT.of f1,rfl,_,_,rfl,_,_,rfl,rfl,?_⟩;walk_at "wp";refine⟨c,_,rfl,.inr (SqT.of f2),fun l1 hl1=>⟨l1,_,rfl,.inl ⟨SqL.of az,fun r hr=>⟨aI (by simp :_<=2) (by decide),fun p hp=>k _ _ _ ⟨_,_,rfl⟩ ((aK hl1).trans ((aK hr).trans (aK hp))) ?_⟩⟩⟩⟩;rw[getD_some hy];exact⟨p,r,rfl,az,by rw[aY (cf az hp)];exact az⟩
 ·intro vs H4 l2 hvl hF s4 hl2
  have gr4:Gr T H H4:=gr0.trans (Gr.of s4);have s5:aP H4 (upd H4 l2 (.lst vs)):=aK hl2;refine q0 _ l2 vs (gr4.trans (Gr.of s5)) (gr4.free tb hl2) az ⟨hvl,fun i z hz=>?_⟩;obtain⟨b,r,z1,z2,z3⟩:=hF i z hz;exact⟨b,r,z1,s5 _ _ z2,s5 _ _ z3⟩
end Cp
namespace K22
open PySem R
noncomputable def p_clash:List Str:=["table"]
noncomputable def Bp:List Str:=["table","copies","count","one","other","names"]
noncomputable def uV:CB:=
  (.cons (.ret (.con .none))
  .nil)
noncomputable def uW:CB:=
  (.cons (.forr (.name 3) (.range1 (.var 2))
  (.cons (.forr (.name 4) (.range2 (.bin .Add (.var 3) (.con (.int 1))) (.var 2))
  (.cons (.asg (.name 5) (.call "first_of_kinds" (.cons (.var 1) (.cons (.var 3) (.cons (.var 4) .nil)))))
  (.cons (.iff (.cmp .IsNot (.var 5) (.con .none))
  (.cons (.ret (.tup (.cons (.var 3) (.cons (.var 4) (.cons (.var 5) .nil)))))
  .nil)
  .nil)
  .nil)))
  .nil))
  uV)
noncomputable def uX:CB:=
  (.cons (.asg (.name 2) (.call "place_count" (.cons (.var 1) .nil)))
  uW)
noncomputable def BR:CB:=
  (.cons (.asg (.name 1) (.call "table_list" (.cons (.var 0) .nil)))
  uX)
end K22
namespace K22
open PySem PySem.Spec PyProof.Rows L2 R Cp Lt Kc K21 Lm
noncomputable def cd(H:Hp)(y:V):Str×List V:=(aN H y,nM H y)
noncomputable def numD(i:Int)(p:Str×List V):Int:=match p.2.getD i.toNat .non with
 |.int n=>n
 |_=>0
noncomputable def isK(i j:Int)(k:Int×Int)(p:Str×List V):Bool:=decide (numD i p=k.1/\numD j p=k.2)
noncomputable def kH(rows:List (Str×List V))(i j:Int):Bool:=KP.all fun k=>rows.any (isK i j k)
noncomputable def Bn(rows:List (Str×List V))(i j:Int)(k:Int×Int):Str:=((rows.find? (isK i j k)).map (·.1)).getD ""
theorem BC{H:Hp}{xs:List V}{i j:Int}:jF H xs i j=kH (xs.map (cd H)) i j:=by
 unfold jF kH;congr 1;funext k;rw[qG];rfl
theorem FC{H:Hp}{xs:List V}{i j:Int}(h:jF H xs i j=true):KP.map (firstOf H xs i j)=(KP.map (Bn (xs.map (cd H)) i j)).map V.str:=by
 rw[b9];refine cL fun k hk=>?_;have hall:xs.any (fun y=>decide (num H i y=k.1/\num H j y=k.2))=true:=by
  unfold jF at h;exact bD.mp h k hk
 have ep:(fun y=>decide (kf H i j y=mV k))=(isK i j k)∘(cd H):=by
  funext y
  exact decide_eq_decide.mpr kf_eq
 show firstOf H xs i j k=V.str (Bn (xs.map (cd H)) i j k);unfold firstOf Bn;rw[ep,List.find?_map];obtain⟨y0,hy0,e0⟩:=bP.mp hall;cases hf:xs.find? ((isK i j k)∘(cd H))with
 |none=>
  rw[qb]at hf;exact absurd e0 (hf y0 hy0)
 |some y=>rfl
structure First(rows:List (Str×List V))(n i j:Nat):Prop where
 ij:i<j
 jn:j<n
 four:kH rows i j=true
 no:∀a b:Nat,a<b->b<n->(a<i\/a=i/\b<j)->kH rows a b=false
noncomputable def NoC(rows:List (Str×List V))(n:Nat):Prop:=∀a b:Nat,a<b->b<n->kH rows a b=false
noncomputable def Res(H:Hp)(rows:List (Str×List V))(n:Nat)(v:V):Prop:=(v=.non/\NoC rows n)\/∃(i j:Nat)(a l:Addr),v=.ref a/\First rows n i j/\H a=some (.tup [.int i,.int j,.ref l])/\H l=some (.tup ((KP.map (Bn rows i j)).map V.str))
noncomputable def rowsOf(H:Hp)(x:V):List (Str×List V):=(srt H x).map (cd H)
theorem EU{H:Hp}{b r:Addr}{z:Str}{zs:List V}(h1:H b=some (.tup [.str z,.ref r]))(h2:H r=some (.tup zs)):cd H (.ref b)=(z,zs):=by
 have e1:aN H (.ref b)=z:=by
  show(match cG (H b)with |some (.str z::_)=>z|_=>("":Str))=_;rw[h1];rfl
 have e2:nM H (.ref b)=zs:=by
  show(match cG (H b)with |some [_,.ref b]=>(cG (H b)).getD [] |_=>[])=zs;rw[h1];show(cG (H r)).getD []=zs;rw[h2];rfl
 unfold cd;rw[e1,e2]
theorem vv{H:Hp}{t:Addr}{ys:List V}(h:dY (H t)=some ys):srt H (.ref t)=_root_.Q.sortBy .non (ys.map (aN H)) ys:=by
 show(match dY (H t)with |some ys=>_root_.Q.sortBy V.non (ys.map (aN H)) ys|none=>[])=_;rw[h]
theorem uy{H:Hp}{x:V}(h:cF H x=true):eH (aN H x)=true:=by
 obtain⟨_,_,_,_,_,_,_,h4,_,_,h7,_⟩:=gM h;rw[h7];exact h4
theorem mZ{H H':Hp}{x:V}{l:Addr}{zs:List V}(e:cV H x=true)(el:H' l=some (.lst zs))(c:Copied H H' (srt H x) zs):
  Kn4 H' (.ref l)/\cV H' (.ref l)=true/\count H' (.ref l)=count H x/\zs.map (cd H')=rowsOf H x:=by
 obtain⟨a,ys,rfl,h1,h2,h3,h4,h5⟩:=d9 e;have eu:=vv h1;have zp:(srt H (.ref a)).Perm ys:=by rw[eu];exact _root_.Q.fT V.non h4 (by simp)
 unfold rowsOf;generalize srt H (.ref a)=us at c zp⊢;have hul:us.length<=40:=by rw[zp.length_eq];exact h2
 have hu:∀u∈us,cF H u=true/\bX H u=count H (.ref a):=fun u hm=>⟨h3 u (zp.mem_iff.mp hm),h5 u (zp.mem_iff.mp hm)⟩;have nd:(us.map (aN H)).Nodup:=(zp.map (aN H)).nodup_iff.mpr h4;have get:∀{i:Nat}{z:V},zs[i]? =some z->us[i]? =some (us.getD i .non)/\us.getD i .non∈us:=fun{i z} hz=>by
  have hi:i<us.length:=by
   have :=(aF.mp hz).1
   rw[<-c.1];exact this
  have e:us[i]? =some (us.getD i .non):=by rw[ah,af hi];rfl
  exact⟨e,aR e⟩
 let nf:Nat->Str:=fun i=>if i<us.length then aN H (us.getD i .non)else "a"
 have hnf:∀i,eH (nf i)=true:=fun i=>by
  show eH (if i<us.length then aN H (us.getD i .non)else "a")=true;split
  ·rename_i hi
   have e:us[i]? =some (us.getD i .non):=by rw[ah,af hi];rfl
   exact uy (hu _ (aR e)).1
  ·decide+kernel
 have dr:Dr H' nf (count H (.ref a)) zs:=fun i z hz=>by
  obtain⟨b,r,hb,h6,h7⟩:=c.2 i z hz;obtain⟨g1,g2⟩:=get hz;have hi:i<us.length:=(aF.mp g1).1;obtain⟨c1,c2⟩:=hu _ g2;obtain⟨_,_,_,_,_,k3,k4⟩:=iT c1;refine⟨b,r,_,hb,?_,h7,by rw[k3,c2],k4⟩;show H' b=some (.tup [.str (if i<us.length then aN H (us.getD i .non)else "a"),.ref r]);rw[if_pos hi];exact h6
 have hn60:ys=[]\/count H (.ref a)<=60:=by
  cases ys with
  |nil=>exact .inl rfl
  |cons y r=>
   right
   rw[<-h5 y (.head _)];obtain⟨_,_,_,_,_,_,_,_,h60,_,_,h8⟩:=gM (h3 y (.head _));rw[h8];exact h60
 have hinj:∀i j,i<zs.length->j<zs.length->nf i=nf j->i=j:=fun i j hi hj e=>by
  rw[c.1]at hi hj;have e':(if i<us.length then aN H (us.getD i .non)else "a")=(if j<us.length then aN H (us.getD j .non)else "a"):=e;rw[if_pos hi,if_pos hj]at e';have g:∀k (hk:k<us.length),(us.map (aN H))[k]'(by simpa using hk)=aN H (us.getD k .non):=fun k hk=>by
   rw[cB,ah,af hk];rfl
  rw[<-g i hi,<-g j hj]at e';exact(cW nd).mp e'
 have hz0:zs=[]↔us=[]:=by
  rw[<-cg,c.1,cg]
 have map_eq:zs.map (cd H')=us.map (cd H):=by
  apply gh
  intro i;rw[aA,aA];cases hz:zs[i]? with
  |none=>
   have :us.length<=i:=by
    have :=zg.mp hz
    rw[c.1]at this;exact this
   rw[bN this];rfl
  |some z=>
   obtain⟨b,r,rfl,h6,h7⟩:=c.2 i z hz;rw[(get hz).1];show some (cd H' (.ref b))=some (cd H (us.getD i .non));rw[EU h6 h7];rfl
 rcases hn60 with hy|hn60
 ·have hus:us=[]:=by rw[hy]at zp;exact List.perm_nil.mp zp
  have hzs:=hz0.mpr hus;subst hzs;have dr0:Dr H' nf 0 []:=fun i y e=>by simp at e
  obtain⟨t1,t2,_,_⟩:=yH hnf (fun i j hi=>absurd hi (by simp)) el dr0 (by simp) (by decide);refine⟨t1,t2,?_,map_eq⟩;have e1:count H' (.ref l)=0:=by
   show(match dY (H' l)with |some (y::_)=>bX H' y|_=>0)=0;rw[el];rfl
  have e2:count H (.ref a)=0:=by
   show(match dY (H a)with |some (y::_)=>bX H y|_=>0)=0;rw[h1,hy]
  rw[e1,e2]
 ·obtain⟨t1,t2,_,t4⟩:=yH hnf hinj el dr (by rw[c.1];exact hul) hn60
  refine⟨t1,t2,?_,map_eq⟩;cases zs with
  |nil=>
   have hus:=hz0.mp rfl;have hy:ys=[]:=by rw[hus]at zp;exact List.nil_perm.mp zp
   have e1:count H' (.ref l)=0:=by
    show(match dY (H' l)with |some (y::_)=>bX H' y|_=>0)=0;rw[el];rfl
   have e2:count H (.ref a)=0:=by
    show(match dY (H a)with |some (y::_)=>bX H y|_=>0)=0;rw[h1,hy]
   rw[e1,e2]
  |cons z r=>
   show(match dY (H' l)with |some (y::_)=>bX H' y|_=>0)=_;rw[el];exact t4 z (.head _)
noncomputable def vC(C:Addr)(T:Tb):Sp:=fun vs H Q E=>∃x,vs=[x]/\Kn4 H x/\Tab T H/\(cV H x=true->∀H' v,Gr T H H'->Res H' (rowsOf H x) (count H x) v->Q v H')/\(cV H x=false->∀H',aP H H'->E (.ref C) none H')
theorem Ec{G:Gam}{K:ae}{C:Addr}{T:Tb}(g1:G.fn "table_list" 1=some (qT C T,[]))(g2:G.fn "place_count" 1=some (vB C,[]))(g3:G.fn "first_of_kinds" 3=some (vz,[])):
  Sat G K (vC C T) BR Bp:=by
 rintro vs H Q E ⟨x,rfl,hk,tb,q1,q2⟩;unfold BR uX;change wpB G K _ _ _ [some x,none,none,none,none,none] H;walk_at "wp";refine⟨_,_,g1,x,rfl,hk,tb,fun e H1 l zs gr hl el cpd=>?_,q2⟩;obtain⟨kn,tt,ct,rows⟩:=mZ e el cpd;have qq:=q1 e;generalize rowsOf H x=rw0 at rows qq;generalize hn:count H x=n at ct qq;refine⟨_,_,g2,.ref l,rfl,kn,fun _ H2 s2=>?_,fun z=>by rw[tt]at z;cases z⟩;rw[ct];have hx:dY (H1 l)=some zs:=by rw[el];rfl
 have pl:∀z:Nat,z<n->isPlace H1 (.ref l) (.int z)=true:=fun z hz=>decide_eq_true ⟨by omega,by omega⟩;have hn60:n<=60:=by
  obtain⟨a',xs',ea,f1,f2,f3,f4,f5⟩:=d9 tt;cases ea;rw[hx]at f1;cases f1;rw[<-ct];cases zs with
  |nil=>
   show(match dY (H1 l)with |some (y::_)=>bX H1 y|_=>0)<=60;rw[el];exact bf _
  |cons y r=>
   rw[<-f5 y (.head _)];obtain⟨_,_,_,_,_,_,_,_,h60,_,_,h8⟩:=gM (f3 y (.head _));rw[h8];exact h60
 unfold uW;walk_at "wp";refine iJ ?_;walk_at "wp";refine⟨(n:Int),rfl,by omega,by omega,?_⟩;refine gX dI (fun i σ H'=>aP H1 H'/\(∀a b:Nat,a<i->a<b->b<n->kH rw0 a b=false)/\∃u v w,σ=[some x,some (.ref l),some (.int n),u,v,w])
  ⟨s2,fun a b h=>absurd h (by omega),none,none,none,rfl⟩ (fun _ _ _ _ _=>trivial) ?_ ?_
 ·rintro i y σ H3 H4 D2 hi ⟨s3,no,u,v,w,rfl⟩ rfl s4 hD2 hr2
  have hi':i<n:=by omega
  walk_at "wp"
  simp only[eE];refine iJ ?_;walk_at "wp";refine⟨_,_,rfl,⟨by omega,by omega,by omega,by omega⟩,?_⟩;refine gX dI (fun m σ H'=>aP H1 H'/\(∀b:Nat,i<b->b<i+1+m->kH rw0 i b=false)/\∃v w,σ=[some x,some (.ref l),some (.int n),some (.int i),v,w])
   ⟨s3.trans s4,fun b h1 h2=>absurd h2 (by omega),_,_,rfl⟩ (fun _ _ _ _ _=>trivial) ?_ ?_
  ·rintro m y σ H5 H6 D3 hm ⟨s5,no2,v,w,rfl⟩ rfl s6 hD3 hr3
   have hj:i+1+m<n:=by omega
   have ej:(i:Int)+1+(m:Int)=((i+1+m:Nat):Int):=by omega
   walk_at "wp"
   rw[ej];generalize hjj:i+1+m=j at hj no2⊢;have s7:aP H1 H6:=s5.trans s6;refine⟨_,_,g3,l,zs,i,j,H1,rfl,s7,tt,hx,pl i hi',pl j hj,fun f H7 s8=>?_,fun f H7 p s8 hp ep=>?_⟩
   ·show if(!decide (V.non=V.non))=true then _ else _
    rw[if_neg (by simp)];refine hD3 _ _ ⟨s7.trans s8,fun b h1 h2=>?_,_,_,rfl⟩;by_cases hb:b=j
    ·rw[hb,<-rows,<-BC]
     exact f
    ·exact no2 b h1 (by omega)
   ·show if(!decide (V.ref p=V.non))=true then _ else _
    rw[if_pos (by simp)];refine⟨short (by simp),fun a ha=>?_⟩;rw[hr3,hr2];refine qq _ _ (gr.trans (Gr.of (s7.trans (s8.trans (aK ha))))) (.inr ⟨i,j,a,p,rfl,⟨by omega,hj,by rw[<-rows,<-BC];exact f,fun a' b' h1 h2 h3=>?_⟩,az,?_⟩)
    ·rcases h3 with h3|⟨rfl,h3⟩
     ·exact no a' b' h3 h1 h2
     ·exact no2 b' h1 (by omega)
    ·rw[aK ha _ _ ep,FC f,rows]
  ·rintro σ H5 ⟨s5,no2,v,w,rfl⟩
   refine hD2 _ _ ⟨s5,fun a b h1 h2 h3=>?_,_,_,_,rfl⟩;by_cases ha:a=i
   ·subst ha
    exact no2 b h2 (by omega)
   ·exact no a b (by omega) h2 h3
 ·rintro σ H3 ⟨s3,no,u,v,w,rfl⟩
  unfold uV;walk_at "wp";exact qq H3 .non (gr.trans (Gr.of s3)) (.inl ⟨rfl,fun a b h1 h2=>no a b (by simp;omega) h1 h2⟩)
theorem rK{α β:Type}{f:α->β}{ys:List α}(hf:∀a∈ys,∀b∈ys,f a=f b->a=b):∀{l m:List α},(∀a∈l,a∈ys)->(∀a∈m,a∈ys)->l.map f=m.map f->l=m
 | [],[],_,_,_=>rfl
 | [],_::_,_,_,e=>by simp at e
 |_::_,[],_,_,e=>by simp at e
 |a::l,b::m,h1,h2,e=>by
  rw[bK,bK]at e;injection e with e1 e2
  rw[hf a (h1 a (.head _)) b (h2 b (.head _)) e1,rK hf (fun x hx=>h1 x (.tail _ hx)) (fun x hx=>h2 x (.tail _ hx)) e2]
theorem CJ{α β:Type}{f:α->β}{ys:List α}(nd:(ys.map f).Nodup):∀a∈ys,∀b∈ys,f a=f b->a=b:=fun a ha b hb e=>by
 obtain⟨i,hi,rfl⟩:=cR.mp ha;obtain⟨j,hj,rfl⟩:=cR.mp hb;have e':(ys.map f)[i]'(by simpa using hi)=(ys.map f)[j]'(by simpa using hj):=by rw[cB,cB];exact e
 have :=(cW nd).mp e'
 subst this;rfl
end K22
namespace Q
open PySem PySem.Spec PySem.W PyProof.Rows L2
theorem uv{ns:List Int}(nd:ns.Nodup):(Ai ns).Perm (aq ns.length):=by
 unfold Ai;split
 ·exact eW _
 ·have P:=(fv (totI nd) (by omega)).1
  have :=gA.mp P.perm
  simpa using this
end Q
namespace M3
open PySem
theorem and_nat(m n:Nat):ip (m:Int) (n:Int)=((m&&& n:Nat):Int):=by
 unfold ip;simp
theorem xor_bit{a b:Int}(ha:a=0\/a=1)(hb:b=0\/b=1):jo a b=if a=b then 0 else 1:=by
 rcases ha with rfl|rfl<;>rcases hb with rfl|rfl<;>decide
noncomputable def num:List Bool->Nat->Nat
 | [],n=>n
 |b::bs,n=>num bs (n*2+b.toNat)
theorem yb:∀(bs:List Bool)(b:Bool)(n:Nat),num (bs++[b]) n=num bs n*2+b.toNat
 | [],_,_=>rfl
 |c::bs,b,n=>yb bs b _
end M3
namespace M4
open Q
noncomputable def bl(f:Nat->Int)(n:Nat)(P:Nat->Bool):List Int:=(aq n).map fun p=>if P p=true then 1-f p else f p
theorem jd(f:Nat->Int)(n:Nat)(P:Nat->Bool):(bl f n P).length=n:=by simp[bl]
theorem u4{f:Nat->Int}{n:Nat}{P Q:Nat->Bool}(h:bl f n P=bl f n Q)(hf:∀p,p<n->f p=0\/f p=1){p:Nat}(hp:p<n):P p=Q p:=by
 have e:(bl f n P)[p]? =(bl f n Q)[p]? :=by rw[h]
 simp[bl,hp]at e;rcases hf p hp with z|z<;>cases hP:P p<;>cases hQ:Q p<;>simp[hP,hQ,z]at e⊢
noncomputable def sub(grp:Nat->Nat)(g p:Nat):Bool:=decide (grp p&&& g=g)
noncomputable def above(grp:Nat->Nat)(g p:Nat):Bool:=decide (grp p&&& g=g/\grp p≠g)
variable {f:Nat->Int}{n:Nat}{grp:Nat->Nat}(hf:∀p,p<n->f p=0\/f p=1)
include hf
theorem yX{p:Nat}(hp:p<n):bl f n (sub grp (grp p))≠bl f n fun _=>false:=fun h=>by
 have :=u4 h hf hp
 simp[sub]at this
theorem yW{p q:Nat}(hp:p<n)(hq:q<n)(hne:grp p≠grp q):bl f n (sub grp (grp p))≠bl f n (sub grp (grp q)):=fun h=>by
 have a:=u4 h hf hp;have b:=u4 h hf hq;simp[sub]at a b;exact hne (by rw[<-b,Nat.and_comm,a])
theorem GD{p q:Nat}(hp:p<n)(hq:q<n)(h1:bl f n (sub grp (grp p))=bl f n (above grp (grp q)))(h2:bl f n (sub grp (grp q))=bl f n (above grp (grp p))):False:=by
 have a:=u4 h1 hf hp;have b:=u4 h2 hf hq;simp[sub,above]at a b;exact a.2 (by rw[<-b.1,Nat.and_comm,a.1])
theorem AX{p:Nat}(hp:p<n):bl f n (above grp (grp p))≠bl f n (sub grp (grp p)):=fun h=>by
 have :=u4 h hf hp
 simp[sub,above]at this
noncomputable def lo(a b:List Int):List Int:=if llt b a=true then b else a
noncomputable def hi(a b:List Int):List Int:=if llt a b=true then b else a
omit hf in
theorem lohi{a b c d:List Int}(h1:lo a b=lo c d)(h2:hi a b=hi c d)(nab:a≠b)(ncd:c≠d):(a=c/\b=d)\/(a=d/\b=c):=by
 have t1:=qx (bZ nab);have t2:=qx (bZ ncd);unfold lo at h1;unfold hi at h2;rw[t1,t2]at h1;cases x:llt a b<;>cases y:llt c d<;>rw[x,y]at h1 h2<;>simp only[Bool.not_false,eF,if_true,aJ,if_false]at h1 h2
 ·exact .inl ⟨h2,h1⟩
 ·exact .inr ⟨h2,h1⟩
 ·exact .inr ⟨h1,h2⟩
 ·exact .inl ⟨h1,h2⟩
theorem Dw{p q:Nat}(hp:p<n)(hq:q<n)(hne:grp p≠grp q):
  lo (bl f n (above grp (grp p))) (bl f n (sub grp (grp p)))++hi (bl f n (above grp (grp p))) (bl f n (sub grp (grp p)))≠
  lo (bl f n (above grp (grp q))) (bl f n (sub grp (grp q)))++hi (bl f n (above grp (grp q))) (bl f n (sub grp (grp q))):=fun h=>by
 have len:∀P Q:Nat->Bool,(lo (bl f n P) (bl f n Q)).length=n:=fun P Q=>by unfold lo;split <;>exact jd _ _ _
 obtain⟨h1,h2⟩:=List.append_inj h ((len _ _).trans (len _ _).symm);rcases lohi h1 h2 (AX hf hp) (AX hf hq)with⟨_,z⟩ |⟨z1,z2⟩
 ·exact yW hf hp hq hne z
 ·exact GD hf hp hq z2 z1.symm
end M4
namespace Q
open L2
theorem Cd{ns:List Int}(nd:ns.Nodup):∃qs:List Int,sortI ns=qs.map V.int/\qs.Perm ns:=by
 refine⟨(Ai ns).map fun i=>ns.getD i 0,?_,?_⟩
 ·unfold sortI
  rw[b9];refine cL fun i hi=>?_;have hi':i<ns.length:=aQ.mp ((uv nd).mem_iff.mp hi);show(ns.map V.int).getD i .non=V.int (ns.getD i 0);rw[ah,ah,aA,af hi'];rfl
 ·have h:=(uv nd).map fun i=>ns.getD i 0
  rw[range_getD]at h;exact h
end Q
namespace M5
open M3 M4 Q L2
noncomputable def plc(n:Nat)(P:Nat->Bool):List Int:=((aq n).filter P).map fun p:Nat=>(p:Int)
theorem qw{n:Nat}{P:Nat->Bool}{i:Nat}(h:i<n):(i:Int)∈plc n P↔P i=true:=by
 unfold plc;rw[aO];constructor
 ·rintro⟨p,hp,e⟩
  have :p=i:=by omega
  rw[<-this];exact(bF.mp hp).2
 ·intro e
  exact⟨i,bF.mpr ⟨aQ.mpr h,e⟩,rfl⟩
noncomputable def trn(zs:List Int)(ms:List Int):List Int:=(aq zs.length).map fun i:Nat=>if(i:Int)∈ms then 1-zs.getD i 0 else zs.getD i 0
theorem B9{zs:List Int}{P:Nat->Bool}:trn zs (plc zs.length P)=bl (fun p=>zs.getD p 0) zs.length P:=by
 unfold trn bl;refine cL fun i hi=>?_;have hi:=aQ.mp hi;by_cases h:P i=true
 ·rw[if_pos ((qw hi).mpr h),if_pos h]
 ·rw[if_neg (fun z=>h ((qw hi).mp z)),if_neg h]
theorem bl_getD{f:Nat->Int}{n:Nat}{P:Nat->Bool}{i:Nat}(h:i<n):(bl f n P).getD i 0=if P i=true then 1-f i else f i:=by
 unfold bl;rw[ah,aA,bR h];rfl
theorem trn_bl{f:Nat->Int}{n:Nat}{S E:Nat->Bool}(h:∀p,E p=true->S p=true):trn (bl f n S) (plc n E)=bl f n fun p=>S p&& !E p:=by
 unfold trn;rw[jd];refine cL fun i hi=>?_;have hi:=aQ.mp hi;rw[bl_getD hi];show _=if(S i&& !E i)=true then 1-f i else f i
 cases hE:E i with
 |true=>
  rw[if_pos ((qw hi).mpr hE),h i hE,if_pos rfl];show 1-(1-f i)=if(true&& !true)=true then _ else f i
  rw[if_neg (by simp)];omega
 |false=>
  rw[if_neg (fun z=>by rw[(qw hi).mp z]at hE;cases hE)];cases S i<;>rfl
theorem Gp(zs:List Int):bl (fun p=>zs.getD p 0) zs.length (fun _=>false)=zs:=by
 unfold bl;apply cX
 ·simp
 ·intro i h1 h2
  simp[h2]
noncomputable def own(grp:Nat->Nat)(g p:Nat):Bool:=decide (grp p=g)
theorem own_sub{grp:Nat->Nat}{g p:Nat}(h:own grp g p=true):sub grp g p=true:=by
 have :grp p=g:=of_decide_eq_true h;refine decide_eq_true ?_;rw[this];exact Nat.and_self g
theorem GZ(grp:Nat->Nat)(g:Nat):(fun p=>sub grp g p&& !own grp g p)=above grp g:=by
 funext p
 unfold sub own above;by_cases h1:grp p&&& g=g<;>by_cases h2:grp p=g<;>simp[h1,h2]
noncomputable def nB(f:Nat->Int)(n:Nat)(grp:Nat->Nat)(q:Int):List Int:=bl f n (sub grp q.toNat)
noncomputable def nA(f:Nat->Int)(n:Nat)(grp:Nat->Nat)(q:Int):List Int:=bl f n (above grp q.toNat)
noncomputable def fw(f:Nat->Int)(n:Nat)(grp:Nat->Nat)(qs:List Int):List (List Int):=bl f n (fun _=>false)::qs.map (nB f n grp)
noncomputable def brK(f:Nat->Int)(n:Nat)(grp:Nat->Nat)(qs:List Int):List (List Int×List Int):=qs.map fun q=>(lo (nA f n grp q) (nB f n grp q),hi (nA f n grp q) (nB f n grp q))
noncomputable def Grs(n:Nat)(grp:Nat->Nat)(qs:List Int):Prop:=qs.Nodup/\∀q∈qs,∃p,p<n/\q=(grp p:Int)
section
variable {f:Nat->Int}{n:Nat}{grp:Nat->Nat}{qs:List Int}(hf:∀p,p<n->f p=0\/f p=1)(hq:Grs n grp qs)
include hf hq
theorem FJ{β:Type}{F:Int->β}(h:∀p q,p<n->q<n->grp p≠grp q->F (grp p:Int)≠F (grp q:Int)):(qs.map F).Nodup:=by
 refine gf.mpr ?_;have p:List.Pairwise (fun a b=>a≠b) qs:=hq.1;refine(sX.mp p).imp ?_;rintro a b ⟨ha,hb,hne⟩;obtain⟨x,hx,rfl⟩:=hq.2 a ha;obtain⟨y,hy,rfl⟩:=hq.2 b hb;exact h x y hx hy (fun e=>hne (by rw[e]))
theorem ye:(fw f n grp qs).Nodup:=by
 unfold fw;refine cA.mpr ⟨fun z=>?_,FJ hf hq fun p q hp hq' hne=>?_⟩
 ·obtain⟨q,hq',e⟩:=aO.mp z
  obtain⟨p,hp,rfl⟩:=hq.2 q hq';exact yX hf hp (by unfold nB at e;rw[aX]at e;exact e)
 ·unfold nB
  rw[aX,aX];exact yW hf hp hq' hne
theorem GS:((brK f n grp qs).map kU).Nodup:=by
 unfold brK;rw[b9];refine FJ hf hq fun p q hp hq' hne=>?_;show lo (nA f n grp (grp p:Int)) (nB f n grp (grp p:Int))++hi (nA f n grp (grp p:Int)) (nB f n grp (grp p:Int))≠lo (nA f n grp (grp q:Int)) (nB f n grp (grp q:Int))++hi (nA f n grp (grp q:Int)) (nB f n grp (grp q:Int));unfold nA nB;rw[aX,aX];exact Dw hf hp hq' hne
end
theorem CK{f:Nat->Int}{n:Nat}{grp:Nat->Nat}{qs:List Int}:∀k∈fw f n grp qs,k.length=n:=fun k hk=>by
 rcases ay.mp hk with rfl|hk
 ·exact jd _ _ _
 ·obtain⟨q,_,rfl⟩:=aO.mp hk
  exact jd _ _ _
theorem lo_len{a b:List Int}{n:Nat}(ha:a.length=n)(hb:b.length=n):(lo a b).length=n:=by unfold lo;split <;>assumption
theorem hi_len{a b:List Int}{n:Nat}(ha:a.length=n)(hb:b.length=n):(hi a b).length=n:=by unfold hi;split <;>assumption
theorem brK_len{f:Nat->Int}{n:Nat}{grp:Nat->Nat}{qs:List Int}:∀k∈brK f n grp qs,k.1.length=n/\k.2.length=n:=fun k hk=>by
 obtain⟨q,_,rfl⟩:=aO.mp hk;exact⟨lo_len (jd _ _ _) (jd _ _ _),hi_len (jd _ _ _) (jd _ _ _)⟩
theorem BA{n:Nat}{grp:Nat->Nat}{qs:List Int}(h:Grs n grp qs):qs.length<=n:=by
 have e:qs.length<=((aq n).map fun p:Nat=>(grp p:Int)).length:=by
  refine List.Nodup.length_le_of_subset h.1 fun q hq=>?_;obtain⟨p,hp,rfl⟩:=h.2 q hq;exact aO.mpr ⟨p,aQ.mpr hp,rfl⟩
 simpa using e
end M5
namespace K32
open PySem R
noncomputable def Af:List Str:=["copies","place"]
noncomputable def rF:List Str:=["copies","place","first","group","name","readings"]
noncomputable def oj:CB:=
  (.cons (.ret (.var 3))
  .nil)
noncomputable def om:CB:=
  (.cons (.forr (.tup (.cons (.name 4) (.cons (.name 5) .nil))) (.seq (.var 0))
  (.cons (.asg (.name 3) (.bin .Add (.bin .Mult (.var 3) (.con (.int 2))) (.bin .BitXor (.idx (.var 5) (.var 1)) (.var 2))))
  .nil))
  oj)
noncomputable def oq:CB:=
  (.cons (.asg (.name 3) (.con (.int 0)))
  om)
noncomputable def sF:CB:=
  (.cons (.asg (.name 2) (.idx (.idx (.idx (.var 0) (.con (.int 0))) (.con (.int 1))) (.var 1)))
  oq)
noncomputable def Fp:List Str:=["readings","places"]
noncomputable def yg:List Str:=["readings","places"]
noncomputable def yQ:CB:=
  (.cons (.ret (.bfn .tuple (.cons (.comp ["place","reading"] [1] (.tup (.cons (.name 0) (.cons (.name 1) .nil))) (.enumt (.var 0)) .no (.ite (.cmp .In (.var 0) (.var 2)) (.bin .Sub (.con (.int 1)) (.var 1)) (.var 1))) .nil)))
  .nil)
noncomputable def p_grown:List Str:=["copies"]
noncomputable def Bo:List Str:=["copies","first","groups","nodes","branches","group","places","around","below","above"]
noncomputable def uQ:CB:=
  (.cons (.ret (.tup (.cons (.bfn .sortl (.cons (.var 3) .nil)) (.cons (.bfn .sortt (.cons (.var 4) .nil)) .nil))))
  .nil)
noncomputable def lF:CB:=
  (.cons (.expr (.meth1 .append (.var 4) (.tup (.cons (.bfn .minl (.cons (.var 9) (.cons (.var 8) .nil))) (.cons (.bfn .maxl (.cons (.var 9) (.cons (.var 8) .nil))) (.cons (.bfn .tuple (.cons (.var 6) .nil)) .nil))))))
  .nil)
noncomputable def lG:CB:=
  (.cons (.expr (.meth1 .append (.var 3) (.var 8)))
  lF)
noncomputable def p7:CB:=
  (.cons (.asg (.name 9) (.call "turned" (.cons (.var 8) (.cons (.var 6) .nil))))
  lG)
noncomputable def lH:CB:=
  (.cons (.asg (.name 8) (.call "turned" (.cons (.var 1) (.cons (.var 7) .nil))))
  p7)
noncomputable def p8:CB:=
  (.cons (.asgc 7 (.comp ["place"] [5,2] (.name 0) (.range1 (.bfn .len (.cons (.var 1) .nil))) (.yes (.cmp .Eq (.bin .BitAnd (.idx (.var 2) (.var 0)) (.var 1)) (.var 1))) (.var 0)))
  lH)
noncomputable def lI:CB:=
  (.cons (.asgc 6 (.comp ["place"] [5,2] (.name 0) (.range1 (.bfn .len (.cons (.var 1) .nil))) (.yes (.cmp .Eq (.idx (.var 2) (.var 0)) (.var 1))) (.var 0)))
  p8)
noncomputable def uR:CB:=
  (.cons (.forr (.name 5) (.lseq (.sortset (.var 2)))
  (.cons (.iff (.cmp .Eq (.var 5) (.con (.int 0)))
  (.cons (.cont)
  .nil)
  .nil)
  lI))
  uQ)
noncomputable def uS:CB:=
  (.cons (.asg (.name 4) (.lst .nil))
  uR)
noncomputable def uT:CB:=
  (.cons (.asg (.name 3) (.lst (.cons (.var 1) .nil)))
  uS)
noncomputable def uU:CB:=
  (.cons (.asgc 2 (.comp ["place"] [0] (.name 0) (.range1 (.bfn .len (.cons (.var 1) .nil))) .no (.call "group_at" (.cons (.var 1) (.cons (.var 0) .nil)))))
  uT)
noncomputable def BQ:CB:=
  (.cons (.asg (.name 1) (.idx (.idx (.var 0) (.con (.int 0))) (.con (.int 1))))
  uU)
end K32
namespace K32
open PySem PySem.Spec PyProof.Rows L2 R Cp Lt Kc K21 K22 Lm M3 M4 M5
theorem vK{n:Nat}(h:n<=63):n<=sizeLine:=aI h (by decide)
theorem lt60{n:Nat}(h:n<=63):n<sizeLine:=dX h (by decide)
theorem xor_ii{K:ae}{i j:Int}{H:Hp}{Q:VK}:i8 K .BitXor (.int i) (.int j) H Q↔Q (.int (jo i j)) H:=by simp[i8,rI0]
theorem and_ii{K:ae}{i j:Int}{H:Hp}{Q:VK}:i8 K .BitAnd (.int i) (.int j) H Q↔Q (.int (ip i j)) H:=by simp[i8,rI0]
theorem in_ints(a:Int)(l:List Int):inV (V.int a) (l.map V.int)=decide (a∈l):=by
 unfold inV;rw[qG,ee,bP,decide_eq_true_eq];constructor
 ·rintro⟨x,hx,e⟩
  have :x=a:=by simpa[eqV]using e
  rw[<-this];exact hx
 ·intro h
  exact⟨a,h,by simp[eqV]⟩
theorem Dg(ms:List Int):(ms.map V.int).all mw=true:=by
 rw[bD];intro v hv;obtain⟨m,_,rfl⟩:=aO.mp hv;rfl
theorem Cj{K:ae}{a:Addr}{xs:List V}:sN (Itet K a) xs.length (fun i x H=>∃p v,x=.ref p/\H p=some (.tup [.int i,v])/\xs[i]? =some v) (fun H=>SqT K H a xs) where
 go:=fun i H h hi=>⟨xs,xs[i],h,by simp[hi]⟩
 stop:=fun i H h hi=>⟨xs,h,hi⟩
 yld:=fun i H x H' h hi y=>by
  obtain⟨p,v,hp,e,ex,y⟩:=y;subst e ex;exact⟨⟨p,v,rfl,az,y xs h⟩,aK hp⟩
theorem jr{zs:List Int}{i:Nat}(h:i<zs.length):(zs.map V.int)[i]? =some (.int (zs.getD i 0)):=by
 rw[aA,af h,ah,af h];rfl
structure Cps(H:Hp)(c:Addr)(ys:List V)(n:Nat)(rows:List (List Int)):Prop where
 ec:H c=some (.lst ys)
 len:ys.length<=40
 rl:rows.length=ys.length
 n60:n<=60
 at_:∀(i:Nat) y,ys[i]? =some y->∃b z r,y=.ref b/\H b=some (.tup [.str z,.ref r])/\H r=some (.tup ((rows.getD i []).map V.int))
 rd:∀zs∈rows,zs.length=n/\∀x∈zs,x=0\/x=1
theorem Cps.same{H H':Hp}{c:Addr}{ys:List V}{n:Nat}{rows:List (List Int)}(d:Cps H c ys n rows)(s:aP H H'):Cps H' c ys n rows:=
 {d with ec:=s _ _ d.ec,at_:=fun i y e=>let⟨b,z,r,h1,h2,h3⟩:=d.at_ i y e;⟨b,z,r,h1,s _ _ h2,s _ _ h3⟩}
theorem Cps.row{H:Hp}{c:Addr}{ys:List V}{n:Nat}{rows:List (List Int)}(d:Cps H c ys n rows){i:Nat}(hi:i<ys.length):(rows.getD i []).length=n/\∀p,p<n->(rows.getD i []).getD p 0=0\/(rows.getD i []).getD p 0=1:=by
 have hi':i<rows.length:=by rw[d.rl];exact hi
 have e:rows.getD i []=rows[i]:=by rw[ah,af hi'];rfl
 obtain⟨h1,h2⟩:=d.rd rows[i] (bO hi');rw[e];refine⟨h1,fun p hp=>h2 _ ?_⟩;rw[ah,af (by omega)];exact bO _
noncomputable def fr(rows:List (List Int))(p:Nat):Int:=(rows.getD 0 []).getD p 0
noncomputable def bt(rows:List (List Int))(p:Nat)(r:List Int):Bool:= !decide (r.getD p 0=fr rows p)
noncomputable def grp(rows:List (List Int))(p:Nat):Nat:=M3.num (rows.map (bt rows p)) 0
noncomputable def vy:Sp:=fun vs H Q _=>∃(c:Addr)(p:Nat)(ys:List V)(n:Nat)(rows:List (List Int)),vs=[.ref c,.int p]/\Cps H c ys n rows/\ys≠[]/\p<n/\∀H',aP H H'->Q (.int (grp rows p)) H'
theorem D9{G:Gam}{K:ae}:Sat G K vy sF rF:=by
 rintro vs H Q E ⟨c,p,ys,n,rows,rfl,d,hy,hp,q⟩;unfold sF;change wpB G K _ _ _ [some (.ref c),some (.int p),none,none,none,none] H;walk_at "wp";have h0:0<ys.length:=jl.mpr hy;obtain⟨b,z,r,e1,e2,e3⟩:=d.at_ 0 ys[0] (af h0);obtain⟨r1,r2⟩:=d.row h0;have g0:ys[0]? =some (.ref b):=by rw[af h0,e1]
 refine .inl ⟨c,ys,0,_,rfl,rfl,SqL.of d.ec,cH (j:=0) g0,?_⟩;refine .inr (.inl ⟨b,_,1,_,rfl,rfl,SqT.of e2,rfl,?_⟩);refine .inr (.inl ⟨r,_,p,_,rfl,rfl,SqT.of e3,cH (jr (by omega)),?_⟩);unfold oq;walk_at "wp";unfold om;walk_at "wp";refine iJ (cI rfl (SqL.of d.ec) (gX d8 (fun k σ H'=>aP H H'/\∃u v,σ=[some (.ref c),some (.int p),some (.int (fr rows p)),some (.int (M3.num ((rows.take k).map (bt rows p)) 0:Nat)),u,v])
  ⟨aP.refl _,none,none,rfl⟩ (fun k σ H' _ s=>s.1.seq (SqL.of d.ec)) ?_ ?_))
 ·rintro k y σ H1 H2 D2 hk ⟨s1,u,v,rfl⟩ hy' s2 hD _
  obtain⟨b',z',r',rfl,f2,f3⟩:=d.at_ k y hy';have s3:=s1.trans s2;obtain⟨t1,t2⟩:=d.row hk;have hk':k<rows.length:=by rw[d.rl];exact hk
  refine⟨b',_,rfl,SqT.of (s3 _ _ f2),rfl,_,_,rfl,_,_,rfl,rfl,?_⟩;walk_at "wp";refine⟨rX (by decide) (by decide),.inr (.inl ⟨r',_,p,_,rfl,rfl,SqT.of (s3 _ _ f3),cH (jr (by omega)),?_⟩)⟩;refine xor_ii.mpr (GY.mpr ?_);rw[show jo ((rows.getD k []).getD p 0) (fr rows p)=if(rows.getD k []).getD p 0=(rows.getD 0 []).getD p 0 then 0 else 1 from xor_bit (t2 p hp) (r2 p hp)];have et:rows.take (k+1)=rows.take k++[rows.getD k []]:=by
   rw[dj,ah,af hk'];rfl
  have eb:(if(rows.getD k []).getD p 0=(rows.getD 0 []).getD p 0 then(0:Int)else 1)=((bt rows p (rows.getD k [])).toNat:Int):=by
   unfold bt fr;by_cases h:(rows.getD k []).getD p 0=(rows.getD 0 []).getD p 0
   ·rw[if_pos h,decide_eq_true h];rfl
   ·rw[if_neg h,decide_eq_false h];rfl
  have e4:((M3.num ((rows.take k).map (bt rows p)) 0:Nat):Int)*2+((bt rows p (rows.getD k [])).toNat:Int)=((M3.num ((rows.take (k+1)).map (bt rows p)) 0:Nat):Int):=by
   rw[et,du,bK,l8,yb];push_cast;rfl
  rw[eb,e4];exact hD _ _ ⟨s3,_,_,rfl⟩
 ·rintro σ H1 ⟨s1,u,v,rfl⟩
  unfold oj;walk_at "wp";rw[<-d.rl,dv];exact q H1 s1
noncomputable def lb(K:ae):Sp:=fun vs H Q _=>∃(r b:Addr)(zs ms:List Int),vs=[.ref r,.ref b]/\SqT K H r (zs.map V.int)/\SqL K H b (ms.map V.int)/\zs.length<=60/\
 ∀(H':Hp)(p:Addr),aP H H'->H p=none->H' p=some (.tup ((trn zs ms).map V.int))->Q (.ref p) H'
theorem B6{G:Gam}{K:ae}:Sat G K (lb K) yQ yg:=by
 rintro vs H Q E ⟨r,b,zs,ms,rfl,hr,hb,hl,q⟩;unfold yQ;change wpB G K _ _ _ [some (.ref r),some (.ref b)] H;walk_at "wp";refine dF ⟨_,rfl,r,rfl,⟨_,hr⟩,?_⟩;refine dP Cj (vK (by rw[ao];omega)) (fun H3 s3=>s3.tup hr) (fun i v _=>v=.int (if(i:Int)∈ms then 1-zs.getD i 0 else zs.getD i 0)) (fun _ _ _ _ _ h=>h) (fun τ=>∃u v,τ=[u,v,some (.ref b)]) ⟨none,none,rfl⟩ ?_ ?_
 ·rintro i x τ H3 R hi ⟨u,v,rfl⟩ s3 ⟨p,v,rfl,hp,hv⟩ k
  rw[ao]at hi;rw[jr hi]at hv;cases hv;refine⟨p,_,rfl,SqT.of hp,rfl,_,_,rfl,_,_,rfl,rfl,?_⟩;walk_at "wp";refine .inr ⟨b,_,rfl,.inl (s3.seq hb),rfl,Dg ms,_,rfl,?_⟩;show if inV (V.int (i:Int)) (ms.map V.int)=true then _ else _
  rw[in_ints];by_cases h:(i:Int)∈ms
  ·rw[decide_eq_true h,if_pos rfl]
   exact k _ _ _ ⟨_,_,rfl⟩ (aP.refl _) (by rw[if_pos h])
  ·rw[decide_eq_false h,if_neg aC]
   exact k _ _ _ ⟨_,_,rfl⟩ (aP.refl _) (by rw[if_neg h])
 ·intro vs H2 l hvl hF s2 hl2
  rw[ao]at hvl;have e:vs=(trn zs ms).map V.int:=by
   unfold trn;apply gh;intro i;rw[aA,aA];by_cases hi:i<vs.length
   ·rw[af hi,bR (by omega),hF i _ (af hi)]
    rfl
   ·rw[bN (by omega),bN (by rw[bI];omega)]
    rfl
  rw[e];exact⟨l,_,rfl,.inl ⟨SqL.of az,fun p hp=>q _ p (s2.trans ((aK hl2).trans (aK hp))) ((s2.trans (aK hl2)).free hp) az⟩⟩
theorem Gh{J:It}{n:Nat}{it:Nat->V->Hp->Prop}{Hc:Hp->Prop}{g:TG}{tb:TS}{D:Ends}{σ:L2.St}{H:Hp}(S:sN J n it Hc)(Pv:Nat->L2.St->Hp->Prop)(h0:Pv 0 σ H)(hl:∀i σ H,i<=n->Pv i σ H->Hc H)
  (hs:∀i x σ H H' (D2:Ends),i<n->Pv i σ H->it i x H'->aP H H'->(∀σ2 H2,Pv (i+1) σ2 H2->D2.nx σ2 H2)->(∀σ2 H2,Pv (i+1) σ2 H2->D2.ct σ2 H2)->g x σ H' fun σ2 H2=>tb D2 σ2 H2)(hd:∀σ H,Pv n σ H->D.nx σ H):ForB J g tb D σ H:=
 BD S Pv h0 hl (fun i x σ H H' a b c d=>hs i x σ H H' _ a b c d (fun _ _ h=>h) (fun _ _ h=>h)) hd
theorem EC{n:Nat}:sN (Itr 0 n) (nats n).length (fun i x _=>(nats n)[i]? =some x) (fun _=>True) where
 go:=fun i H h hi=>dI.go i H h (by simpa[nats]using hi)
 stop:=fun i H h hi=>dI.stop i H h (by simpa[nats]using hi)
 yld:=fun i H x H' h hi y=>by
  have hi':i<n:=by simpa[nats]using hi
  obtain⟨e,s⟩:=dI.yld i H x H' h hi' y;refine⟨?_,s⟩;subst e;unfold nats;rw[aA,bR hi',eE];rfl
theorem CM{n:Nat}{t:V->Bool}{P:Nat->Bool}(h:∀p,p<n->t (.int p)=P p):((nats n).filter t).map id=(plc n P).map V.int:=by
 unfold nats plc;rw[ig,vg,b9];rw[show(aq n).filter (t∘fun i:Nat=>V.int (i:Int))=(aq n).filter P from qF fun p hp=>h p (aQ.mp hp)];rfl
theorem Paired.snoc{α β:Type}{F:α->β->Prop}{a:α}{b:β}(h:F a b){l:List α}{m:List β}(p:Paired F l m):Paired F (l++[a]) (m++[b]):=by
 induction p with
 |nil=>exact .cons h .nil
 |cons x r ih=>exact .cons x ih
noncomputable def Tk(H H':Hp):Prop:=∀a xs,H a=some (.tup xs)->H' a=some (.tup xs)
theorem Tk.of{H H':Hp}(s:aP H H'):Tk H H':=fun a _ e=>s a _ e
theorem Ek{H:Hp}{a:Addr}{xs ys:List V}(h:H a=some (.lst xs)):Tk H (upd H a (.lst ys)):=fun b _ e=>by
 rw[aY (fun z=>by rw[z,h]at e;cases e)];exact e
theorem ng{H H':Hp}(t:Tk H H'){ys:List V}{ps:List (List Int)}(h:_root_.Q.IntKeys H ys ps):_root_.Q.IntKeys H' ys ps:=Paired.qg h fun v k z=>by
 obtain⟨a,e,f⟩:=z;exact⟨a,e,t _ _ f⟩
noncomputable def BrOf(f:Nat->Int)(n:Nat)(g:Nat->Nat)(H:Hp)(v:V)(q:Int):Prop:=∃a x y z,v=V.ref a/\H a=some (.tup [.ref x,.ref y,.ref z])/\H x=some (.tup ((lo (nA f n g q) (nB f n g q)).map V.int))/\H y=some (.tup ((hi (nA f n g q) (nB f n g q)).map V.int))/\H z=some (.tup ((plc n (own g q.toNat)).map V.int))
noncomputable def kz(f:Nat->Int)(n:Nat)(g:Nat->Nat)(H:Hp)(bs:List V)(qs:List Int):Prop:=Paired (BrOf f n g H) bs qs
theorem kz.tk{f:Nat->Int}{n:Nat}{g:Nat->Nat}{H H':Hp}(t:Tk H H'){bs:List V}{qs:List Int}(h:kz f n g H bs qs):kz f n g H' bs qs:=Paired.qg h fun v k w=>by
 obtain⟨a,x,y,z,e,e1,e2,e3,e4⟩:=w;exact⟨a,x,y,z,e,t _ _ e1,t _ _ e2,t _ _ e3,t _ _ e4⟩
theorem kz.two{f:Nat->Int}{n:Nat}{g:Nat->Nat}{H:Hp}{bs:List V}{qs:List Int}(h:kz f n g H bs qs):_root_.Q.j4 H bs (brK f n g qs):=by
 unfold kz at h
 induction h with
 |nil=>exact .nil
 |cons x r ih=>
  obtain⟨a,x,y,z,e,e1,e2,e3,_⟩:=x;exact .cons ⟨a,x,y,_,e,e1,e2,e3⟩ ih
theorem i9{α β:Type}{F:α->β->Prop}{l:List α}{m:List β}(h:Paired F l m):m.length=l.length:=by
 induction h with
 |nil=>rfl
 |cons _ _ ih=>simp[ih]
noncomputable def gsI(rows:List (List Int))(n:Nat):List Int:=(aq n).map fun p:Nat=>(grp rows p:Int)
theorem wy{rows:List (List Int)}{n:Nat}:(gsI rows n).length=n:=by simp[gsI]
theorem Gc{rows:List (List Int)}{n p:Nat}(h:p<n):(gsI rows n).getD p 0=(grp rows p:Int):=by
 unfold gsI;rw[ah,aA,bR h];rfl
noncomputable def dn(qs:List Int)(k:Nat):List Int:=(qs.take k).filter fun q=> !decide (q=0)
theorem dn_zero{qs:List Int}{k:Nat}(h:qs[k]? =some 0):dn qs (k+1)=dn qs k:=by
 unfold dn;rw[dj,h,jT];simp
theorem BH{qs:List Int}{k:Nat}{q:Int}(h:qs[k]? =some q)(qne:q≠0):dn qs (k+1)=dn qs k++[q]:=by
 unfold dn;rw[dj,h,jT];simp[qne]
theorem GB{qs:List Int}{k n:Nat}{g:Nat->Nat}(h:Grs n g qs):Grs n g (dn qs k):=by
 have s:(dn qs k).Sublist qs:=de.trans (qE k qs);exact⟨h.1.sublist s,fun q hq=>h.2 q (s.subset hq)⟩
theorem GA{qs:List Int}{k n:Nat}{g:Nat->Nat}(h:Grs n g qs):(dn qs k).length<=n:=BA (GB h)
structure Fx(H:Hp)(gl nd br so:Addr):Prop where
 fnd:H nd=none
 fbr:H br=none
 n1:nd≠br
 n2:nd≠gl
 n3:nd≠so
 n4:br≠gl
 n5:br≠so
structure Gx(rows:List (List Int))(n:Nat)(qs:List Int)(H:Hp)(gl nd br so:Addr)(ds:List Int)(ks bs:List V)(H':Hp):Prop where
 s:aP H H'
 eg:H' gl=some (.lst ((gsI rows n).map V.int))
 eo:H' so=some (.lst (qs.map V.int))
 en:H' nd=some (.lst ks)
 eb:H' br=some (.lst bs)
 nk:_root_.Q.IntKeys H' ks (fw (fr rows) n (grp rows) ds)
 bk:kz (fr rows) n (grp rows) H' bs ds
section
variable {rows:List (List Int)}{n:Nat}{qs:List Int}{H:Hp}{gl nd br so c r0:Addr}{ds:List Int}{ks bs:List V}{H':Hp}{G:Gam}{K:ae}{E:XS}{D:Ends}
theorem Gx.same{H2:Hp}(g:Gx rows n qs H gl nd br so ds ks bs H')(s:aP H' H2):Gx rows n qs H gl nd br so ds ks bs H2:=
 ⟨g.s.trans s,s _ _ g.eg,s _ _ g.eo,s _ _ g.en,s _ _ g.eb,ng (Tk.of s) g.nk,g.bk.tk (Tk.of s)⟩
theorem Gx.ksl(g:Gx rows n qs H gl nd br so ds ks bs H'):ks.length=ds.length+1:=by
 have :=i9 g.nk
 simpa[fw]using this.symm
theorem Gx.bsl(g:Gx rows n qs H gl nd br so ds ks bs H'):bs.length=ds.length:=(i9 g.bk).symm
noncomputable def Gv(rows:List (List Int))(n:Nat)(qs:List Int)(H:Hp)(c r0 gl nd br so:Addr)(k:Nat)(σ:L2.St)(H':Hp):Prop:=
 (∃ks bs,Gx rows n qs H gl nd br so (dn qs k) ks bs H')/\∃u v w x y,σ=[some (.ref c),some (.ref r0),some (.ref gl),some (.ref nd),some (.ref br),u,v,w,x,y]
theorem Al{f:Nat->Int}{g:Nat->Nat}{q:Int}:fw f n g (ds++[q])=fw f n g ds++[nB f n g q]:=by simp[fw]
theorem pick{p:Prop}[Decidable p]{x y:Addr}{A B:List Int}(hx:H x=some (.tup (A.map V.int)))(hy:H y=some (.tup (B.map V.int))):∃z,(if p then V.ref y else V.ref x)=V.ref z/\H z=some (.tup ((if p then B else A).map V.int)):=by
 split
 ·exact⟨y,rfl,hy⟩
 ·exact⟨x,rfl,hx⟩
theorem vi(F:Fx H gl nd br so)(hn:n<=60)(hq:Grs n (grp rows) qs){k:Nat}{q:Int}(hk:qs[k]? =some q)(h0:q≠0)(hD:∀σ2 H2,Gv rows n qs H c r0 gl nd br so (k+1) σ2 H2->D.nx σ2 H2){pl ar be ab:Addr}
  (s:aP H H')(eg:H' gl=some (.lst ((gsI rows n).map V.int)))(eo:H' so=some (.lst (qs.map V.int)))(en:H' nd=some (.lst ks))(er:H' br=some (.lst bs))(nk:_root_.Q.IntKeys H' ks (fw (fr rows) n (grp rows) (dn qs (k+1))))(bk:kz (fr rows) n (grp rows) H' bs (dn qs k))
  (ep:H' pl=some (.lst ((plc n (own (grp rows) q.toNat)).map V.int)))(eb:H' be=some (.tup ((nB (fr rows) n (grp rows) q).map V.int)))(ea:H' ab=some (.tup ((nA (fr rows) n (grp rows) q).map V.int))):
  wpB G K E lF D [some (.ref c),some (.ref r0),some (.ref gl),some (.ref nd),some (.ref br),some (.int q),some (.ref pl),some (.ref ar),some (.ref be),some (.ref ab)] H':=by
 have hdn:(dn qs k).length<=n:=GA hq;have hbl:=i9 bk;unfold lF;walk_at "wp";have hlen:(nA (fr rows) n (grp rows) q).length=(nB (fr rows) n (grp rows) q).length:=(jd _ _ _).trans (jd _ _ _).symm;obtain⟨x,ex,hx⟩:=pick (p:=_root_.Q.llt (nB (fr rows) n (grp rows) q) (nA (fr rows) n (grp rows) q)=true) ea eb;obtain⟨y,ey,hy⟩:=pick (p:=_root_.Q.llt (nA (fr rows) n (grp rows) q) (nB (fr rows) n (grp rows) q)=true) ea eb;refine⟨.inl ⟨rfl,_,SqL.of er⟩,ab,be,_,_,rfl,SqT.of ea,SqT.of eb,hlen,ab,be,_,_,rfl,SqT.of ea,SqT.of eb,hlen,?_⟩;rw[ex,ey];refine⟨pl,_,rfl,.inl ⟨SqL.of ep,fun z hz=>⟨short (by simp),fun a ha=>?_⟩⟩⟩;have s1:aP H' (upd (upd H' z (.tup ((plc n (own (grp rows) q.toNat)).map V.int))) a (.tup [.ref x,.ref y,.ref z])):=(aK hz).trans (aK ha);have e1:upd (upd H' z (.tup ((plc n (own (grp rows) q.toNat)).map V.int))) a (.tup [.ref x,.ref y,.ref z]) a=some (.tup [.ref x,.ref y,.ref z]):=az;have e2:upd (upd H' z (.tup ((plc n (own (grp rows) q.toNat)).map V.int))) a (.tup [.ref x,.ref y,.ref z]) z=some (.tup ((plc n (own (grp rows) q.toNat)).map V.int)):=aK ha _ _ az;generalize upd (upd H' z (.tup ((plc n (own (grp rows) q.toNat)).map V.int))) a (.tup [.ref x,.ref y,.ref z])=H1 at s1 e1 e2⊢;have er1:=s1 _ _ er;refine⟨br,bs,_,rfl,rfl,er1,lt60 (by omega),hD _ _ ⟨⟨ks,bs++[.ref a],?_⟩,_,_,_,_,_,rfl⟩⟩;have t1:Tk H1 (upd H1 br (.lst (bs++[V.ref a]))):=Ek er1;have t2:Tk H' (upd H1 br (.lst (bs++[V.ref a]))):=fun b xs e=>t1 b xs (s1 _ _ e);refine⟨iD (s.trans s1) F.fbr,?_,?_,?_,az,ng t2 nk,?_⟩
 ·rw[aY (bZ F.n4)];exact s1 _ _ eg
 ·rw[aY (bZ F.n5)];exact s1 _ _ eo
 ·rw[aY F.n1];exact s1 _ _ en
 ·rw[BH hk h0]
  exact Paired.snoc ⟨a,x,y,z,rfl,t1 _ _ e1,t2 _ _ hx,t2 _ _ hy,t1 _ _ e2⟩ (bk.tk t2)
theorem vj(F:Fx H gl nd br so)(hn:n<=60)(hq:Grs n (grp rows) qs){k:Nat}{q:Int}(hk:qs[k]? =some q)(h0:q≠0)(hD:∀σ2 H2,Gv rows n qs H c r0 gl nd br so (k+1) σ2 H2->D.nx σ2 H2){pl ar be ab:Addr}
  (g:Gx rows n qs H gl nd br so (dn qs k) ks bs H')(np:pl≠nd)(ep:H' pl=some (.lst ((plc n (own (grp rows) q.toNat)).map V.int)))(eb:H' be=some (.tup ((nB (fr rows) n (grp rows) q).map V.int)))(ea:H' ab=some (.tup ((nA (fr rows) n (grp rows) q).map V.int))):
  wpB G K E lG D [some (.ref c),some (.ref r0),some (.ref gl),some (.ref nd),some (.ref br),some (.int q),some (.ref pl),some (.ref ar),some (.ref be),some (.ref ab)] H':=by
 have hdn:(dn qs k).length<=n:=GA hq;have hkl:=g.ksl;unfold lG;walk_at "wp";refine⟨.inl ⟨rfl,_,SqL.of g.en⟩,nd,ks,_,rfl,rfl,g.en,lt60 (by omega),?_⟩;have t1:Tk H' (upd H' nd (.lst (ks++[V.ref be]))):=Ek g.en;refine vi F hn hq hk h0 hD (iD g.s F.fnd) ?_ ?_ az ?_ ?_ (g.bk.tk t1) ?_ (t1 _ _ eb) (t1 _ _ ea)
 ·rw[aY (bZ F.n2)];exact g.eg
 ·rw[aY (bZ F.n3)];exact g.eo
 ·rw[aY (bZ F.n1)];exact g.eb
 ·rw[BH hk h0,Al]
  exact Paired.snoc ⟨be,rfl,t1 _ _ eb⟩ (ng t1 g.nk)
 ·rw[aY np];exact ep
theorem pT{P:Nat->Bool}{q:Int}{Q:VK}{tc:TT}{H1:Hp}(eg:H1 gl=some (.lst ((gsI rows n).map V.int)))(hn:n<=60)
  (step:∀(p:Nat)(u:Option V)(H3:Hp)(R:Bool->Hp->Prop),p<n->aP H1 H3->R (P p) H3->tc [some (.int p),some (.int q),some (.ref gl)] H3 R)
  (fin:∀H2 l,aP H1 H2->H2 l=none->Q (.ref l) (upd H2 l (.lst ((plc n P).map V.int)))):
  BV (Itr 0 n) (kG 0) tc (kR 0) [none,some (.int q),some (.ref gl)] H1 Q:=by
 refine lT (xs:=nats n) EC (vK (by unfold nats;simp;omega)) (fun _ _=>trivial) (fun v=>match v with |.int i=>P i.toNat|_=>false) id (fun τ=>∃u,τ=[u,some (.int q),some (.ref gl)]) ⟨none,rfl⟩ ?_ ?_
 ·rintro x τ H3 Rt Rf hx ⟨u,rfl⟩ s3 kt kf
  unfold nats at hx;obtain⟨p,hp,rfl⟩:=aO.mp hx;have hp:=aQ.mp hp;refine step p u H3 _ hp s3 ?_;have e:P ((p:Int)).toNat=P p:=by rw[aX]
  cases h:P p with
  |true=>
   rw[if_pos rfl];exact⟨_,rfl,kt _ _ ⟨_,rfl⟩ (aP.refl _) (e.trans h)⟩
  |false=>
   rw[if_neg aC];exact kf _ _ ⟨_,rfl⟩ (aP.refl _) (e.trans h)
 ·intro H2 l s2 hl
  rw[CM (P:=P) fun p hp=>by show P ((p:Int)).toNat=P p;rw[aX]];exact fin H2 l s2 hl
theorem vk(g2:G.fn "turned" 2=some (lb K,[]))(F:Fx H gl nd br so)(hn:n<=60)(hl:(rows.getD 0 []).length=n)(hr:H r0=some (.tup ((rows.getD 0 []).map V.int)))(hq:Grs n (grp rows) qs){k:Nat}{q:Int}(hk:qs[k]? =some q)(h0:q≠0)(hD:∀σ2 H2,Gv rows n qs H c r0 gl nd br so (k+1) σ2 H2->D.nx σ2 H2){pl ar:Addr}{x y:Option V}
  (g:Gx rows n qs H gl nd br so (dn qs k) ks bs H')(np:pl≠nd)(ep:H' pl=some (.lst ((plc n (own (grp rows) q.toNat)).map V.int)))(er:H' ar=some (.lst ((plc n (M4.sub (grp rows) q.toNat)).map V.int))):
  wpB G K E lH D [some (.ref c),some (.ref r0),some (.ref gl),some (.ref nd),some (.ref br),some (.int q),some (.ref pl),some (.ref ar),x,y] H':=by
 unfold lH;walk_at "wp";refine⟨_,_,g2,r0,ar,_,_,rfl,SqT.of (g.s _ _ hr),SqL.of er,by omega,fun H1 be s1 _ eb=>?_⟩;have e1:trn (rows.getD 0 []) (plc n (M4.sub (grp rows) q.toNat))=nB (fr rows) n (grp rows) q:=by
  rw[<-hl];exact B9
 rw[e1]at eb;unfold p7;walk_at "wp";refine⟨_,_,g2,be,pl,_,_,rfl,SqT.of eb,SqL.of (s1 _ _ ep),by unfold nB;rw[jd];exact hn,fun H2 ab s2 _ ea=>?_⟩;have e2:trn (nB (fr rows) n (grp rows) q) (plc n (own (grp rows) q.toNat))=nA (fr rows) n (grp rows) q:=by
  unfold nB nA;rw[trn_bl fun p=>own_sub,GZ]
 rw[e2]at ea;exact vj F hn hq hk h0 hD (g.same (s1.trans s2)) np (s2 _ _ (s1 _ _ ep)) (s2 _ _ eb) ea
theorem vm(g2:G.fn "turned" 2=some (lb K,[]))(F:Fx H gl nd br so)(hn:n<=60)(hl:(rows.getD 0 []).length=n)(hr:H r0=some (.tup ((rows.getD 0 []).map V.int)))(hq:Grs n (grp rows) qs){k:Nat}{q:Int}(hk:qs[k]? =some q)(h0:q≠0)(hD:∀σ2 H2,Gv rows n qs H c r0 gl nd br so (k+1) σ2 H2->D.nx σ2 H2){v w x y:Option V}
  (g:Gx rows n qs H gl nd br so (dn qs k) ks bs H'):
  wpB G K E lI D [some (.ref c),some (.ref r0),some (.ref gl),some (.ref nd),some (.ref br),some (.int q),v,w,x,y] H':=by
 obtain⟨p0,hp0,eq0⟩:=hq.2 q (aR hk);have hqt:q=(q.toNat:Int):=by rw[eq0,aX]
 have lenr:((rows.getD 0 []).map V.int).length=n:=by rw[ao];exact hl
 unfold lI;walk_at "wp";refine dF ?_;walk_at "wp";refine Or.inl ⟨r0,_,rfl,.inr (SqT.of (g.s _ _ hr)),_,rfl,by omega,by omega,?_⟩;rw[lenr,aX];refine pT (rows:=rows) (P:=own (grp rows) q.toNat) g.eg hn ?_ ?_
 ·intro p u H3 R hp s3 hR
  walk_at "wp"
  refine .inl ⟨gl,_,p,_,rfl,rfl,SqL.of (s3 _ _ g.eg),cH (jr (by rw[wy];exact hp)),?_⟩;rw[Gc hp];refine uK.mpr ?_;refine⟨_,rfl,?_⟩;have e:decide ((grp rows p:Int)=q)=own (grp rows) q.toNat p:=by
   unfold M5.own;rw[hqt,aX];exact decide_eq_decide.mpr (by omega)
  rw[e];exact hR
 intro H1 pl s1 hpl;have s2:aP H' (upd H1 pl (.lst ((plc n (own (grp rows) q.toNat)).map V.int))):=s1.trans (aK hpl);have ep:upd H1 pl (.lst ((plc n (own (grp rows) q.toNat)).map V.int)) pl=some (.lst ((plc n (own (grp rows) q.toNat)).map V.int)):=az;have np:pl≠nd:=fun z=>by rw[z,s1 _ _ g.en]at hpl;cases hpl
 have g:=g.same s2;generalize upd H1 pl (.lst ((plc n (own (grp rows) q.toNat)).map V.int))=H2 at ep g⊢;unfold p8;walk_at "wp";refine dF ?_;walk_at "wp";refine Or.inl ⟨r0,_,rfl,.inr (SqT.of (g.s _ _ hr)),_,rfl,by omega,by omega,?_⟩;rw[lenr,aX];refine pT (rows:=rows) (P:=M4.sub (grp rows) q.toNat) g.eg hn ?_ ?_
 ·intro p u H3 R hp s3 hR
  walk_at "wp"
  refine .inl ⟨gl,_,p,_,rfl,rfl,SqL.of (s3 _ _ g.eg),cH (jr (by rw[wy];exact hp)),?_⟩;rw[Gc hp];refine and_ii.mpr (uK.mpr ⟨_,rfl,?_⟩);have e:decide (ip (grp rows p:Int) q=q)=M4.sub (grp rows) q.toNat p:=by
   unfold M4.sub;rw[hqt,and_nat,aX];exact decide_eq_decide.mpr (by omega)
  rw[e];exact hR
 intro H3 ar s3 har;exact vk g2 F hn hl hr hq hk h0 hD (g.same (s3.trans (aK har))) np ((s3.trans (aK har)) _ _ ep) az
end
noncomputable def pB(rows:List (List Int))(n:Nat)(H:Hp)(H':Hp)(p:Addr):Prop:=∃(nl bl:Addr)(ks bs:List V)(qs:List Int),H' p=some (.tup [.ref nl,.ref bl])/\H nl=none/\H bl=none/\nl≠bl/\Grs n (grp rows) qs/\0∉qs/\(∀p,p<n->grp rows p≠0->(grp rows p:Int)∈qs)/\
 _root_.Q.IntKeys H' ks (fw (fr rows) n (grp rows) qs)/\kz (fr rows) n (grp rows) H' bs qs/\H' nl=some (.lst (_root_.Q.dM .non (fw (fr rows) n (grp rows) qs) ks))/\H' bl=some (.lst (_root_.Q.dM .non ((brK (fr rows) n (grp rows) qs).map _root_.Q.kU) bs))
noncomputable def qU:Sp:=fun vs H Q _=>∃(c:Addr)(ys:List V)(n:Nat)(rows:List (List Int)),vs=[.ref c]/\Cps H c ys n rows/\ys≠[]/\∀H' p,aP H H'->H p=none->pB rows n H H' p->Q (.ref p) H'
theorem B8{G:Gam}{K:ae}(g1:G.fn "group_at" 2=some (vy,[]))(g2:G.fn "turned" 2=some (lb K,[])):Sat G K qU BQ Bo:=by
 rintro vs H Q E ⟨c,ys,n,rows,rfl,d,hy,q⟩;unfold BQ;change wpB G K _ _ _ [some (.ref c),none,none,none,none,none,none,none,none,none] H;walk_at "wp";have h0:0<ys.length:=jl.mpr hy;obtain⟨b,z,r0,e1,e2,e3⟩:=d.at_ 0 ys[0] (af h0);obtain⟨hl,hf⟩:=d.row h0;have hf:∀p,p<n->fr rows p=0\/fr rows p=1:=hf;have hn:=d.n60;have lenr:((rows.getD 0 []).map V.int).length=n:=by rw[ao];exact hl
 have g0:ys[0]? =some (.ref b):=by rw[af h0,e1]
 refine .inl ⟨c,ys,0,_,rfl,rfl,SqL.of d.ec,cH (j:=0) g0,?_⟩;refine .inr (.inl ⟨b,_,1,_,rfl,rfl,SqT.of e2,rfl,?_⟩);unfold uU;walk_at "wp";refine dF ?_;walk_at "wp";refine Or.inl ⟨r0,_,rfl,.inr (SqT.of e3),_,rfl,by omega,by omega,?_⟩;rw[lenr,aX];refine dP dI (vK (by omega)) (fun _ _=>trivial) (fun i v _=>v=.int (grp rows i)) (fun _ _ _ _ _ h=>h) (fun τ=>∃u,τ=[u,some (.ref c)]) ⟨none,rfl⟩ ?_ ?_
 ·rintro i x τ H3 R hi ⟨u,rfl⟩ s3 rfl k
  walk_at "wp"
  simp only[eE];exact⟨_,_,g1,c,i,ys,n,rows,rfl,d.same s3,hy,by omega,fun H4 s4=>k _ _ _ ⟨_,rfl⟩ s4 rfl⟩
 intro vs H1 gl hvl hF s1 hgl;have ev:vs=(gsI rows n).map V.int:=by
  unfold gsI;apply gh;intro i;rw[aA,aA];by_cases hi:i<vs.length
  ·rw[af hi,bR (by omega),hF i _ (af hi)]
   rfl
  ·rw[bN (by omega),bN (by rw[bI];omega)]
   rfl
 rw[ev];have s2:aP H (upd H1 gl (.lst ((gsI rows n).map V.int))):=s1.trans (aK hgl);have eg:upd H1 gl (.lst ((gsI rows n).map V.int)) gl=some (.lst ((gsI rows n).map V.int)):=az;generalize upd H1 gl (.lst ((gsI rows n).map V.int))=H2 at s2 eg⊢;unfold uT;walk_at "wp";refine⟨short (by simp),fun nd hnd=>?_⟩;have s3:aP H2 (upd H2 nd (.lst [.ref r0])):=aK hnd;have en:upd H2 nd (.lst [.ref r0]) nd=some (.lst [.ref r0]):=az;have n2:nd≠gl:=fun z=>by rw[z,eg]at hnd;cases hnd
 have fnd:H nd=none:=s2.free hnd;generalize upd H2 nd (.lst [.ref r0])=H3 at s3 en⊢;unfold uS;walk_at "wp";refine⟨short (by simp),fun br hbr=>?_⟩;have s4:aP H3 (upd H3 br (.lst [])):=aK hbr;have eb:upd H3 br (.lst []) br=some (.lst []):=az;have n1:nd≠br:=fun z=>by rw[<-z,en]at hbr;cases hbr
 have n4:br≠gl:=fun z=>by rw[z,s3 _ _ eg]at hbr;cases hbr
 have fbr:H br=none:=(s2.trans s3).free hbr;have en:=s4 _ _ en;have eg:=s4 _ _ (s3 _ _ eg);have s5:=s2.trans (s3.trans s4);generalize upd H3 br (.lst [])=H4 at s5 eb en eg⊢;unfold uR;walk_at "wp";refine iJ ?_;walk_at "wp";refine⟨_,rfl,gl,gsI rows n,rfl,SqL.of eg,by rw[wy];omega,fun ms so nd' mem hso=>?_⟩;obtain⟨qs,eq,pm⟩:=_root_.Q.Cd nd';have hq:Grs n (grp rows) qs:=⟨pm.nodup_iff.mpr nd',fun q hq=>by
  have h:=(mem q).mp (pm.mem_iff.mp hq);unfold gsI at h;obtain⟨p,hp,e⟩:=aO.mp h;exact⟨p,aQ.mp hp,e.symm⟩⟩
 rw[eq];have s6:aP H4 (upd H4 so (.lst (qs.map V.int))):=aK hso;have eo:upd H4 so (.lst (qs.map V.int)) so=some (.lst (qs.map V.int)):=az;have n3:nd≠so:=fun z=>by rw[<-z,en]at hso;cases hso
 have n5:br≠so:=fun z=>by rw[<-z,eb]at hso;cases hso
 have F:Fx H gl nd br so:=⟨fnd,fbr,n1,n2,n3,n4,n5⟩;generalize upd H4 so (.lst (qs.map V.int))=H5 at s6 eo⊢;have gx:Gx rows n qs H gl nd br so (dn qs 0) [.ref r0] [] H5:=by
  refine⟨s5.trans s6,s6 _ _ eg,eo,s6 _ _ en,s6 _ _ eb,?_,.nil⟩;refine .cons ⟨r0,rfl,?_⟩ .nil;have ef:bl (fr rows) n (fun _=>false)=rows.getD 0 []:=by rw[<-hl];exact Gp _
  rw[ef];exact(s5.trans s6) _ _ e3
 refine⟨so,rfl,⟨_,SqL.of eo⟩,Gh (d8 (xs:=qs.map V.int)) (Gv rows n qs H c r0 gl nd br so) ⟨⟨_,_,gx⟩,_,_,_,_,_,rfl⟩ (fun k σ H' _ g=>?_) ?_ ?_⟩
 ·obtain⟨⟨ks,bs,g⟩,_⟩:=g
  exact SqL.of g.eo
 ·rintro k x σ H6 H7 D2 hk ⟨⟨ks,bs,g⟩,u,v,w,x',y,rfl⟩ hx s7 hD hC
  have g:=g.same s7;rw[ao]at hk;have hk':qs[k]? =some qs[k]:=af hk;rw[aA,hk']at hx;cases hx;generalize qs[k]=q at hk';walk_at "wp";by_cases h0:q=0
  ·rw[decide_eq_true h0,if_pos rfl]
   refine hC _ _ ⟨⟨ks,bs,?_⟩,_,_,_,_,_,rfl⟩;rw[dn_zero (by rw[hk',h0])];exact g
  ·rw[decide_eq_false h0,if_neg aC]
   exact vm g2 F hn hl e3 hq hk' h0 hD g
 ·rintro σ H6 ⟨⟨ks,bs,g⟩,u,v,w,x',y,rfl⟩
  rw[ao]at g;have gq:Grs n (grp rows) (dn qs qs.length):=GB hq;have edn:dn qs qs.length=qs.filter fun q=> !decide (q=0):=by unfold dn;rw[dv]
  have z0:(0:Int)∉dn qs qs.length:=fun z=>by
   rw[edn]at z;simpa using(bF.mp z).2
  have all:∀p,p<n->grp rows p≠0->(grp rows p:Int)∈dn qs qs.length:=fun p hp h=>by
   rw[edn];refine bF.mpr ⟨pm.mem_iff.mpr ((mem _).mpr ?_),?_⟩
   ·unfold gsI
    exact aO.mpr ⟨p,aQ.mpr hp,rfl⟩
   ·have :¬((grp rows p:Int)=0):=by omega
    rw[decide_eq_false this];rfl
  generalize dn qs qs.length=ds at g gq z0 all;have hds:ds.length<=n:=BA gq;have hkl:=g.ksl;have hbl:=g.bsl;have nkl:=i9 g.nk;have bkl:=i9 g.bk.two;unfold uQ;walk_at "wp";refine⟨nd,ks,_,n,rfl,SqL.of g.en,by omega,ye hf gq,CK,g.nk,fun nl hnl=>?_⟩;have t1:aP H6 (upd H6 nl (.lst (_root_.Q.dM .non (fw (fr rows) n (grp rows) ds) ks))):=aK hnl;have enl:upd H6 nl (.lst (_root_.Q.dM .non (fw (fr rows) n (grp rows) ds) ks)) nl=some (.lst (_root_.Q.dM .non (fw (fr rows) n (grp rows) ds) ks)):=az;have g':=g.same t1;generalize upd H6 nl (.lst (_root_.Q.dM .non (fw (fr rows) n (grp rows) ds) ks))=H7 at t1 enl g'⊢;refine⟨br,bs,_,n,rfl,SqL.of g'.eb,by omega,GS hf gq,brK_len,g'.bk.two,fun bl hbl2=>⟨short (by simp),fun p hp=>?_⟩⟩;have t2:=aK (o:=.lst (_root_.Q.dM .non ((brK (fr rows) n (grp rows) ds).map _root_.Q.kU) bs)) hbl2;have t3:=aK (o:=.tup [.ref nl,.ref bl]) hp;have g2:=g'.same (t2.trans t3);refine q _ p g2.s (((g'.s).trans t2).free hp) ⟨nl,bl,ks,bs,ds,az,g.s.free hnl,g'.s.free hbl2,fun z=>by(rw[<-z,enl]at hbl2;cases hbl2),gq,z0,all,g2.nk,g2.bk,(t2.trans t3) _ _ enl,t3 _ _ az⟩
end K32
namespace K32
open PySem R
noncomputable def xR:List Str:=["table","name"]
noncomputable def pI:List Str:=["table","name"]
noncomputable def mE:CB:=
  (.cons (.iff (.or (.not (.call "is_name" (.cons (.var 1) .nil))) (.not (.bfn .any (.cons (.comp ["copy"] [1] (.name 0) (.seq (.var 0)) .no (.cmp .Eq (.var 1) (.idx (.var 0) (.con (.int 0))))) .nil))))
  (.cons (.rais "NoName" (.cons (.con (.str "this is no name of a copy of the table")) .nil))
  .nil)
  .nil)
  .nil)
noncomputable def pW:CB:=
  (.cons (.expr (.call "need_table" (.cons (.var 0) .nil)))
  mE)
noncomputable def p_tree:List Str:=["table"]
noncomputable def FD:List Str:=["table","copies"]
noncomputable def yR:CB:=
  (.cons (.ret (.call "grown" (.cons (.var 1) .nil)))
  .nil)
noncomputable def yS:CB:=
  (.cons (.iff (.cmp .Eq (.bfn .len (.cons (.var 1) .nil)) (.con (.int 0)))
  (.cons (.ret (.tup (.cons (.lst .nil) (.cons (.lst .nil) .nil))))
  .nil)
  .nil)
  yR)
noncomputable def yT:CB:=
  (.cons (.expr (.call "refuse_clash" (.cons (.var 1) .nil)))
  yS)
noncomputable def GQ:CB:=
  (.cons (.asg (.name 1) (.call "table_list" (.cons (.var 0) .nil)))
  yT)
end K32
namespace K32
open PySem PySem.Spec PyProof.Rows L2 R Cp Lt Kc K21 K22 Lm M5
theorem xG{H H':Hp}{x:V}{l:Addr}{zs:List V}(e:cV H x=true)(el:H' l=some (.lst zs))(hr:zs.map (cd H')=rowsOf H x)(tt:cV H' (.ref l)=true):rowsOf H' (.ref l)=rowsOf H x/\srt H' (.ref l)=zs:=by
 have hz:dY (H' l)=some zs:=by rw[el];rfl
 obtain⟨l',zs',ez,z1,z2,z3,z4,z5⟩:=d9 tt;cases ez;rw[hz]at z1;cases z1;obtain⟨a,ys,rfl,h1,h2,h3,h4,h5⟩:=d9 e;have ft:∀l:List V,l.filter (fun _=>true)=l:=fun l=>List.filter_eq_self.mpr fun _ _=>rfl;have r1:(_root_.Q.sortBy V.non (ys.map (aN H)) ys).map (aN H)=_root_.Q.sortBy ("":Str) (ys.map (aN H)) (ys.map (aN H)):=by
  have :=_root_.Q.pG V.non (aN H) (fun _=>true) h4
  rwa [ft,ft]at this
 have r2:(_root_.Q.sortBy V.non (zs.map (aN H')) zs).map (aN H')=_root_.Q.sortBy ("":Str) (zs.map (aN H')) (zs.map (aN H')):=by
  have :=_root_.Q.pG V.non (aN H') (fun _=>true) z4
  rwa [ft,ft]at this
 have en:zs.map (aN H')=_root_.Q.sortBy ("":Str) (ys.map (aN H)) (ys.map (aN H)):=by
  rw[<-r1,<-vv h1];have :=congrArg (DY Prod.fst) hr;unfold rowsOf at this;rw[b9,b9]at this;exact this
 have p2:=_root_.Q.fT V.non z4 (ys:=zs) (by simp);have e2:_root_.Q.sortBy V.non (zs.map (aN H')) zs=zs:=by
  refine rK (CJ z4) (fun a ha=>p2.mem_iff.mp ha) (fun a ha=>ha) ?_;rw[r2];refine _root_.Q.jD (_root_.Q.fT ("":Str) z4 rfl) (_root_.Q.gF z4) ?_;rw[en];exact _root_.Q.gF h4
 have e3:srt H' (.ref l)=zs:=by rw[vv hz,e2]
 refine⟨?_,e3⟩;show(srt H' (.ref l)).map (cd H')=_;rw[e3];exact hr
noncomputable def intOf:V->Int
 |.int i=>i
 |_=>0
theorem pf{zs:List V}(h:∀z∈zs,bG z=true):(zs.map intOf).map V.int=zs/\∀x∈zs.map intOf,x=0\/x=1:=by
 constructor
 ·rw[b9]
  conv =>rhs;rw[<-ig zs]
  refine cL fun z hz=>?_;rcases ed (h z hz)with e|e<;>rw[e]<;>rfl
 ·intro x hx
  obtain⟨z,hz,rfl⟩:=aO.mp hx;rcases ed (h z hz)with e|e<;>rw[e]
  ·exact .inl rfl
  ·exact .inr rfl
noncomputable def rI(R:List (Str×List V)):List (List Int):=R.map fun p=>p.2.map intOf
theorem cps_of{H:Hp}{l:Addr}{zs:List V}(el:H l=some (.lst zs))(tt:cV H (.ref l)=true):Cps H l zs (count H (.ref l)) (rI (zs.map (cd H))):=by
 have hz:dY (H l)=some zs:=by rw[el];rfl
 obtain⟨l',zs',ez,z1,z2,z3,z4,z5⟩:=d9 tt;cases ez;rw[hz]at z1;cases z1;refine⟨el,z2,by simp[rI],?_,fun i y e=>?_,fun r hr=>?_⟩
 ·cases zs with
  |nil=>
   show(match dY (H l)with |some (y::_)=>bX H y|_=>0)<=60;rw[hz];exact bf _
  |cons y r=>
   rw[<-z5 y (.head _)];obtain⟨_,_,_,_,_,_,_,_,h60,_,_,h8⟩:=gM (z3 y (.head _));rw[h8];exact h60
 ·obtain⟨b,r,rfl,k1,k2,k3,k4⟩:=iT (z3 y (aR e))
  refine⟨b,_,r,rfl,k1,?_⟩;have er:(rI (zs.map (cd H))).getD i []=(nM H (.ref b)).map intOf:=by
   unfold rI;rw[ah,aA,aA,e];rfl
  rw[er,(pf k4).1];exact k2
 ·obtain⟨p,hp,rfl⟩:=aO.mp hr
  obtain⟨y,hy,rfl⟩:=aO.mp hp;obtain⟨b,r,rfl,k1,k2,k3,k4⟩:=iT (z3 y hy);refine⟨?_,(pf k4).2⟩;rw[ao,<-z5 _ hy];exact k3
theorem gr_free{T:Tb}{H H':Hp}{p:Addr}(g:Gr T H H')(t:Tab T H')(h:H' p=none):H p=none:=by
 cases e:H p with
 |none=>rfl
 |some o=>
  have hp:p≠T.P:=fun z=>by
   rw[z]at h;rcases t with t|⟨_,_,_,_,_,t,_⟩<;>(rw[h]at t;cases t)
  rw[g.keep p o hp e]at h;cases h
theorem Cps.gr{T:Tb}{H H':Hp}{c:Addr}{ys:List V}{n:Nat}{rows:List (List Int)}(d:Cps H c ys n rows)(g:Gr T H H')(tt:Tab T H):Cps H' c ys n rows:=
 {d with ec:=g.lst tt d.ec,at_:=fun i y e=>let⟨b,z,r,h1,h2,h3⟩:=d.at_ i y e;⟨b,z,r,h1,g.zH tt h2,g.zH tt h3⟩}
theorem pB.old{rows:List (List Int)}{n:Nat}{H H0 H':Hp}{p:Addr}(g:pB rows n H H' p)(f:∀p,H p=none->H0 p=none):pB rows n H0 H' p:=by
 obtain⟨nl,bl,ks,bs,qs,h1,h2,h3,h4⟩:=g;exact⟨nl,bl,ks,bs,qs,h1,f _ h2,f _ h3,h4⟩
noncomputable def TreeK(R:List (Str×List V))(n:Nat)(H H':Hp)(p:Addr):Prop:=
 (R=[]/\∃a b,H' p=some (.tup [.ref a,.ref b])/\H a=none/\H b=none/\a≠b/\H' a=some (.lst [])/\H' b=some (.lst []))\/(R≠[]/\pB (rI R) n H H' p)
noncomputable def Dd(H:Hp)(x y:V):Prop:=∃(a:Addr)(ys:List V)(z:Str)(c:V),x=.ref a/\dY (H a)=some ys/\y=.str z/\c∈ys/\aN H c=z
noncomputable def qS(C CN:Addr):Sp:=fun vs H Q E=>∃x y,vs=[x,y]/\Kn4 H x/\Known H y/\(∀z,y=.str z->z.length<=20000)/\(cV H x=false->∀H',aP H H'->E (.ref C) none H')/\
 (cV H x=true->(Dd H x y->∀H',aP H H'->Q .non H')/\(¬Dd H x y->∀H',aP H H'->E (.ref CN) none H'))
theorem B7{G:Gam}{K:ae}{C CN:Addr}(g1:G.fn "need_table" 1=some (oS C,[]))(g2:G.fn "is_name" 1=some (spN,[]))(v1:G.val "NoName"=some (.ref CN))(xc:XC K CN):
  Sat G K (qS C CN) pW pI:=by
 rintro vs H Q E ⟨x,y,rfl,hk,ky,hyl,q1,q2⟩;unfold pW;change wpB G K _ _ _ [some x,some y] H;walk_at "wp";refine⟨_,_,g1,x,rfl,hk,fun e H1 s1=>?_,q1⟩;obtain⟨qy,qn⟩:=q2 e;obtain⟨a,ys,rfl,h1,h2,h3,h4,h5⟩:=d9 e;unfold mE;walk_at "wp";refine⟨_,_,g2,y,rfl,(ky.same s1).1,hyl,fun H2 s2=>⟨_,rfl,?_⟩⟩;have s2:aP H H2:=s1.trans s2;cases hn:isName y with
 |false=>
  rw[if_pos (by simp)];have hno:¬Dd H (.ref a) y:=by
   rintro⟨a',ys',z,c,e1,e2,rfl,hc,e4⟩;cases e1;rw[h1]at e2;cases e2;have :=uy (h3 c hc);rw[e4]at this;rw[show isName (V.str z)=eH z from rfl,this]at hn;cases hn
  exact⟨CN,v1,xc.1,xc.2,short (by simp),qn hno H2 s2⟩
 |true=>
  rw[if_neg (by simp)];obtain⟨z,rfl⟩:∃z,y=.str z:=by
   cases y with
   |str z=>exact⟨z,rfl⟩
   |_=>cases hn
  have et:SqL K H2 a ys:=s2.seq (jb h1);refine dF (cI rfl et (dP d8 (short h2) (fun H3 s3=>s3.seq et) (fun i v _=>∃c,ys[i]? =some c/\v=.bl (decide (z=aN H c))) (fun _ _ _ _ _ h=>h) (fun τ=>∃u,τ=[u,some (.str z)]) ⟨none,rfl⟩ ?_ ?_))
  ·rintro i c τ H3 R hi ⟨u,rfl⟩ s3 hc kk
   obtain⟨b,r,rfl,k1,k2,k3,k4⟩:=iT (h3 c (aR hc));walk_at "wp";refine .inr (.inl ⟨b,_,0,_,rfl,rfl,SqT.of (s3 _ _ (s2 _ _ k1)),rfl,?_⟩);walk_at "wp";exact kk _ _ _ ⟨_,rfl⟩ (aP.refl _) ⟨_,hc,rfl⟩
  ·intro vs H3 l hvl hF s3 hl3
   have ev:vs=(ys.map fun c=>decide (z=aN H c)).map V.bl:=by
    apply gh
    intro i;rw[aA,aA];by_cases hi:i<vs.length
    ·obtain⟨c,hc,hv⟩:=hF i _ (af hi)
     rw[af hi,hv,hc];rfl
    ·rw[bN (by omega),bN (by omega)]
     rfl
   rw[ev];have s4:=s2.trans (s3.trans (aK (o:=.lst ((ys.map fun c=>decide (z=aN H c)).map V.bl)) hl3));refine⟨l,_,rfl,SqL.of az,_,rfl,?_⟩;have ea:(ys.map fun c=>decide (z=aN H c)).any id=true↔Dd H (.ref a) (.str z):=by
    rw[qG,bP];constructor
    ·rintro⟨c,hc,e⟩
     exact⟨a,ys,z,c,rfl,h1,rfl,hc,(of_decide_eq_true e).symm⟩
    ·rintro⟨a',ys',z',c,e1,e2,e3,hc,e4⟩
     cases e1;rw[h1]at e2;cases e2;cases e3;exact⟨c,hc,decide_eq_true e4.symm⟩
   by_cases hh:Dd H (.ref a) (.str z)
   ·rw[ea.mpr hh,if_neg (by simp)]
    exact qy hh _ s4
   ·rw[Bool.eq_false_iff.mpr fun z=>hh (ea.mp z),if_pos (by simp)]
    exact⟨CN,v1,xc.1,xc.2,short (by simp),qn hh _ s4⟩
end K32
namespace K02
open PySem PySem.Spec PyProof.Rows L2 R Cp Lt Lm
theorem kn1_ref{H:Hp}{p:Addr}(h:Known H (.ref p)):Kn1 H (.ref p):=⟨h,fun z e=>nomatch e⟩
theorem Bu{H:Hp}{p:Addr}{xs:List V}(h:H p=some (.lst xs))(hl:xs.length<=20000)(hy:∀y∈xs,Kn3 H y):Kn4 H (.ref p):=⟨kn1_ref (FR h),fun a ys e g=>by
 injection e with e;subst e;rw[h]at g;cases g;exact⟨hl,hy⟩⟩
noncomputable def Sh(H:Hp)(ws:List V)(L:List (Str×List V)):Prop:=Paired (fun w l=>∃b r,w=V.ref b/\H b=some (.tup [.str l.1,.ref r])/\H r=some (.tup l.2)/\∀y∈l.2,bG y=true) ws L
theorem Sh.same{H H':Hp}{ws:List V}{L:List (Str×List V)}(h:Sh H ws L)(s:aP H H'):Sh H' ws L:=Paired.qg h fun w l ⟨b,r,e1,e2,e3,e4⟩=>⟨b,r,e1,s _ _ e2,s _ _ e3,e4⟩
theorem Sh.gr{T:Tb}{H H':Hp}{ws:List V}{L:List (Str×List V)}(h:Sh H ws L)(g:Gr T H H')(t:Tab T H):Sh H' ws L:=Paired.qg h fun w l ⟨b,r,e1,e2,e3,e4⟩=>⟨b,r,e1,g.zH t e2,g.zH t e3,e4⟩
noncomputable def rdD:V->D
 |.int i=>.int i
 |_=>.non
noncomputable def toD(l:Str×List V):D:=.tup [.str l.1,.tup (l.2.map rdD)]
theorem xJ{K:ae}{H:Hp}:∀{rs:List V},(∀y∈rs,bG y=true)->fX K H (rs.map rdD) rs
 | [],_=>rfl
 |y::rs,h=>by
  refine⟨y,rs,rfl,?_,xJ fun z hz=>h z (.tail _ hz)⟩;rcases ed (h y (.head _))with rfl|rfl<;>rfl
theorem yw:∀{rs:List V},(∀y∈rs,bG y=true)->hW (rs.map rdD)=0
 | [],_=>rfl
 |y::rs,h=>by
  have e:=yw (rs:=rs) fun z hz=>h z (.tail _ hz);rcases ed (h y (.head _))with rfl|rfl<;>(show max 0 (hW (rs.map rdD))=0;rw[e];rfl)
theorem vN{K:ae}{H:Hp}:∀{ws:List V}{L:List (Str×List V)},Sh H ws L->fX K H (L.map toD) ws
 |_,_,.nil=>rfl
 |_,_,.cons ⟨b,r,e1,e2,e3,e4⟩ t=>⟨_,_,rfl,⟨b,_,e1,SqT.of e2,_,_,rfl,rfl,_,_,rfl,⟨r,_,rfl,SqT.of e3,xJ e4⟩,rfl⟩,vN t⟩
theorem Bz{H:Hp}:∀{ws:List V}{L:List (Str×List V)},Sh H ws L->hW (L.map toD)<=2
 |_,_,.nil=>by decide
 |_,_,.cons ⟨b,r,e1,e2,e3,e4⟩ t=>by
  have :=Bz t
  show max (max 0 (max (hW (_:List D)+1) 0)+1) (hW _)<=2;rw[yw e4];omega
noncomputable def say(H:Hp)(us:List V):List (Str×List V):=us.map fun u=>(aN H u,nM H u)
theorem uf{H:Hp}:∀{us:List V},(∀u∈us,cF H u=true)->Sh H us (say H us)
 | [],_=>.nil
 |u::us,h=>by
  obtain⟨a,b,e,h1,h2,_,h4⟩:=iT (h u (.head _));exact .cons ⟨a,b,e,h1,h2,h4⟩ (uf fun z hz=>h z (.tail _ hz))
theorem srt_lst{H:Hp}{h:Addr}{ws:List V}(e:H h=some (.lst ws)):srt H (.ref h)=_root_.Q.sortBy V.non (ws.map (aN H)) ws:=by
 show(match dY (H h)with |some ys=>_root_.Q.sortBy V.non (ys.map (aN H)) ys|none=>[])=_;rw[e];rfl
end K02
namespace K11
open PySem PySem.Spec PyProof.Rows L2 R Cp Lt Lm K02
theorem wU{H:Hp}:∀{ws:List V}{L:List (Str×List V)}{i:Nat}{w:V},Sh H ws L->ws[i]? =some w->∃l,L[i]? =some l/\∃b r,w=V.ref b/\H b=some (.tup [.str l.1,.ref r])/\H r=some (.tup l.2)/\∀y∈l.2,bG y=true
 |_,_,0,w,.cons p t,e=>by
  cases e;exact⟨_,rfl,p⟩
 |_,_,i+1,w,.cons p t,e=>by
  obtain⟨l,e1,h⟩:=wU (i:=i) t (by simpa using e);exact⟨l,by simpa using e1,h⟩
end K11
namespace K12
open PySem PySem.Spec PyProof.Rows L2 R Cp Lt Lm K02 K11
theorem AY{H:Hp}{w:V}{l:Str×List V}(h:∃b r,w=V.ref b/\H b=some (.tup [.str l.1,.ref r])/\H r=some (.tup l.2)/\∀y∈l.2,bG y=true)(hn:eH l.1=true)(hl:l.2.length<=60):
  cF H w=true/\aN H w=l.1/\bX H w=l.2.length/\Kn3 H w:=by
 obtain⟨b,r,rfl,h1,h2,h4⟩:=h;have ar:cq H (.ref r)=true:=by
  show(match cG (H r)with |some xs=>decide (xs.length<=60)&&xs.all bG|none=>false)=true;rw[h2];show(decide (l.2.length<=60)&&l.2.all bG)=true;rw[decide_eq_true hl,dD,bD];exact h4
 have hz:l.1.length<=20000:=by
  have :=hn
  unfold eH at this;rw[aj,decide_eq_true_eq]at this;omega
 refine⟨?_,?_,?_,⟨rM h1,fun z e=>nomatch e⟩,fun a xs e hx=>?_⟩
 ·show(match cG (H b)with |some [n,r]=>isName n&&cq H r|_=>false)=true
  rw[h1];show(eH l.1&&cq H (.ref r))=true;rw[hn,ar];rfl
 ·show(match cG (H b)with |some (.str z::_)=>z|_=>("":Str))=_
  rw[h1];rfl
 ·show(match cG (H b)with |some [_,.ref b]=>(cG (H b)).elim 0 il|_=>0)=l.2.length
  rw[h1];show(cG (H r)).elim 0 il=l.2.length;rw[h2];rfl
 ·injection e with e
  subst e;rw[h1]at hx;cases hx;refine⟨by show 2<=20000;decide,fun y hy=>?_⟩;simp only[ay,bJ,or_false]at hy;rcases hy with rfl|rfl
  ·exact⟨⟨wt,fun z e=>by injection e with e;rw[<-e];exact hz⟩,fun a xs e=>nomatch e⟩
  ·refine⟨⟨rM h2,fun z e=>nomatch e⟩,fun a xs e hx=>?_⟩
   injection e with e;subst e;rw[h2]at hx;cases hx;refine⟨by omega,fun z hz=>?_⟩;rcases ed (h4 z hz)with rfl|rfl
   ·exact⟨rN,fun z e=>nomatch e⟩
   ·exact⟨rN,fun z e=>nomatch e⟩
structure Good(L:List (Str×List V)):Prop where
 len:L.length<=40
 nm:∀l∈L,eH l.1=true
 rd:∀l∈L,∀y∈l.2,bG y=true
 nd:(L.map (·.1)).Nodup
 ct:∃n≤60,∀l∈L,l.2.length=n
theorem lh{H:Hp}{ws:List V}{L:List (Str×List V)}(sh:Sh H ws L)(hn:∀l∈L,eH l.1=true)(hl:∀l∈L,l.2.length<=60):ws.map (aN H)=L.map (·.1)/\∀w∈ws,cF H w=true/\Kn3 H w/\∃l∈L,bX H w=l.2.length:=by
 induction sh with
 |nil=>exact⟨rfl,fun w h=>nomatch h⟩
 | @cons w l ws L h t ih=>
  obtain⟨e,k⟩:=ih (fun l h=>hn l (aM _ h)) (fun l h=>hl l (aM _ h));obtain⟨c1,c2,c3,c4⟩:=AY h (hn l aG) (hl l aG);refine⟨by rw[bK,bK,e,c2],fun x hx=>?_⟩;rcases ay.mp hx with rfl|hx
  ·exact⟨c1,c4,l,aG,c3⟩
  ·obtain⟨a,b,l',hl',d⟩:=k x hx
   exact⟨a,b,l',aM _ hl',d⟩
theorem lj{H:Hp}{ws:List V}{L:List (Str×List V)}(sh:Sh H ws L):ws.length=L.length:=iN sh
theorem nL{H:Hp}{t:Addr}{ws:List V}{L:List (Str×List V)}(ht:H t=some (.lst ws))(sh:Sh H ws L)(g:Good L):Kn4 H (.ref t)/\cV H (.ref t)=true/\∀y∈ws,cF H y=true:=by
 obtain⟨n,hn,hc⟩:=g.ct;obtain⟨e,k⟩:=lh sh g.nm fun l hl=>by rw[hc l hl];exact hn
 have hwl:ws.length<=40:=by rw[lj sh];exact g.len
 have cp:∀y∈ws,cF H y=true:=fun y hy=>(k y hy).1;have ct:∀y∈ws,bX H y=n:=fun y hy=>let⟨_,_,l,hl,z⟩:=k y hy;z.trans (hc l hl);refine⟨Bu ht (by omega) fun y hy=>(k y hy).2.1,?_,cp⟩;show(match dY (H t)with |some xs=>decide (xs.length<=40)&&(xs.all (cF H)&&(decide ((xs.map (aN H)).Nodup)&&decide (∀y∈xs,∀z∈xs,bX H y=bX H z))) |none=>false)=true;rw[ht];show(decide (ws.length<=40)&&(ws.all (cF H)&&(decide ((ws.map (aN H)).Nodup)&&decide (∀y∈ws,∀z∈ws,bX H y=bX H z))))=true;rw[decide_eq_true hwl,dD,aj,aj,bD,decide_eq_true_eq,decide_eq_true_eq];exact⟨cp,by rw[e];exact g.nd,fun y hy z hz=>by rw[ct y hy,ct z hz]⟩
end K12
namespace K91
open PySem PySem.Spec PyProof.Rows L2 R Cp Lt Lm K02 K11 K12
theorem yf{n:Str}(h:eH n=true):n.length<=8:=by
 unfold eH at h;rw[aj,decide_eq_true_eq]at h;exact h.1.2
end K91
namespace K13
open PySem PySem.Spec PyProof.Rows L2 R Cp Lt Lm K02 K11 K12 K91
structure Fine(l:Str×List V):Prop where
 nm:eH l.1=true
 len:l.2.length<=60
 rd:∀y∈l.2,bG y=true
theorem sh_tab2{H:Hp}{t:Addr}{ws:List V}{L:List (Str×List V)}(ht:H t=some (.lst ws))(sh:Sh H ws L)(f:∀l∈L,Fine l)(hl:L.length<=41):Kn4 H (.ref t)/\(cV H (.ref t)=true->Good L):=by
 obtain⟨e,k⟩:=lh sh (fun l h=>(f l h).nm) (fun l h=>(f l h).len);refine⟨Bu ht (by rw[lj sh];omega) fun y hy=>(k y hy).2.1,fun h=>?_⟩;change(match dY (H t)with |some xs=>decide (xs.length<=40)&&(xs.all (cF H)&&(decide ((xs.map (aN H)).Nodup)&&decide (∀y∈xs,∀z∈xs,bX H y=bX H z))) |none=>false)=true at h;rw[ht]at h;change(decide (ws.length<=40)&&(ws.all (cF H)&&(decide ((ws.map (aN H)).Nodup)&&decide (∀y∈ws,∀z∈ws,bX H y=bX H z))))=true at h;rw[aj,aj,aj,decide_eq_true_eq,decide_eq_true_eq,decide_eq_true_eq]at h;obtain⟨h1,_,h2,h3⟩:=h;have at':∀(i:Nat)(l:Str×List V),L[i]? =some l->∃w∈ws,bX H w=l.2.length:=fun i l hi=>by
  have hlt:i<L.length:=(aF.mp hi).1;obtain⟨l',e1,o⟩:=wU (i:=i) (w:=ws[i]'(by rw[lj sh];exact hlt)) sh (af _);obtain rfl:l'=l:=aV (e1.symm.trans hi);have hm:=aR hi;exact⟨_,bO _,(AY o (f _ hm).nm (f _ hm).len).2.2.1⟩
 refine⟨by rw[<-lj sh];exact h1,fun l h=>(f l h).nm,fun l h=>(f l h).rd,by rw[<-e];exact h2,?_⟩;cases hL:L with
 |nil=>exact⟨0,by decide,fun l h=>nomatch h⟩
 |cons l0 L0=>
  refine⟨l0.2.length,(f l0 (by rw[hL];exact aG)).len,fun l hl=>?_⟩;rw[<-hL]at hl;obtain⟨i,hi⟩:=D1 hl;obtain⟨w,hw,ew⟩:=at' i l hi;obtain⟨w0,hw0,ew0⟩:=at' 0 l0 (by rw[hL];rfl);rw[<-ew,<-ew0];exact h3 w hw w0 hw0
end K13
namespace K82
open PySem R
noncomputable def xQ:List Str:=["table","name","readings"]
noncomputable def pH:List Str:=["table","name","readings","behind"]
noncomputable def mz:CB:=
  (.cons (.ret (.var 3))
  .nil)
noncomputable def mB:CB:=
  (.cons (.expr (.call "need_table" (.cons (.var 3) .nil)))
  mz)
noncomputable def mC:CB:=
  (.cons (.asg (.name 3) (.bin .Add (.var 0) (.lst (.cons (.tup (.cons (.var 1) (.cons (.bfn .tuple (.cons (.bfn .list (.cons (.var 2) .nil)) .nil)) .nil))) .nil))))
  mB)
noncomputable def pV:CB:=
  (.cons (.iff (.bfn .any (.cons (.comp ["copy"] [1] (.name 0) (.seq (.var 0)) .no (.cmp .Eq (.var 1) (.idx (.var 0) (.con (.int 0))))) .nil))
  (.cons (.rais "Twice" (.cons (.con (.str "a copy has this name already")) .nil))
  .nil)
  .nil)
  mC)
noncomputable def rj:List Str:=["table","name"]
noncomputable def lq:List Str:=["table","name"]
noncomputable def lD:CB:=
  (.cons (.expr (.call "need_name" (.cons (.var 0) (.cons (.var 1) .nil))))
  (.cons (.ret (.comp ["copy"] [1] (.name 0) (.seq (.var 0)) (.yes (.cmp .NotEq (.idx (.var 0) (.con (.int 0))) (.var 1))) (.var 0)))
  .nil))
noncomputable def qf:List Str:=["self"]
noncomputable def kF:List Str:=["self"]
noncomputable def kM:CB:=
  (.cons (.fldI (.var 0) "copies" (.lst .nil))
  .nil)
noncomputable def Ah:List Str:=["self","name"]
noncomputable def rH:List Str:=["self","name"]
noncomputable def sH:CB:=
  (.cons (.fldI (.var 0) "copies" (.call "without_copy" (.cons (.fldI (.var 0) "copies") (.cons (.var 1) .nil))))
  .nil)
noncomputable def vX:List Str:=["self"]
noncomputable def nU:List Str:=["self"]
noncomputable def ot:CB:=
  (.cons (.ret (.call "table_list" (.cons (.fldI (.var 0) "copies") .nil)))
  .nil)
noncomputable def xX:List Str:=["self"]
noncomputable def pO:List Str:=["self"]
noncomputable def p9:CB:=
  (.cons (.ret (.call "tree_trees" (.cons (.fldI (.var 0) "copies") .nil)))
  .nil)
end K82
namespace K82
open PySem PySem.Spec PyProof.Rows L2 R Cp Lt Lm K02 K11 K12
noncomputable abbrev Row:=Str×List V
noncomputable def sL(L:List Row):List Row:=_root_.Q.sortBy (("":Str),([]:List V)) (L.map (·.1)) L
theorem sL_perm{L:List Row}(nd:(L.map (·.1)).Nodup):(sL L).Perm L:=_root_.Q.fT _ nd (by simp)
theorem sh_cd{H:Hp}{ys:List V}{L:List Row}(sh:Sh H ys L):ys.map (K22.cd H)=L:=by
 induction sh with
 |nil=>rfl
 | @cons w l ws L h t ih=>
  obtain⟨b,r,rfl,h1,h2,h3⟩:=h;rw[bK,ih,K22.EU h1 h2]
theorem A2{H:Hp}{t:Addr}{ys:List V}{L:List Row}(et:H t=some (.lst ys))(sh:Sh H ys L)(g:Good L):K22.rowsOf H (.ref t)=sL L:=by
 obtain⟨n,hn,hc⟩:=g.ct;obtain⟨e,_⟩:=lh sh g.nm fun l hl=>by rw[hc l hl];exact hn
 unfold K22.rowsOf sL;rw[srt_lst et,_root_.Q.qW,sh_cd sh,e];rfl
theorem uI{R L:List Row}(p:R.Perm L)(i j:Int):K22.kH R i j=K22.kH L i j:=by
 unfold K22.kH;congr 1;funext k;rw[ee,bP,bP];exact⟨fun⟨x,hx,h⟩=>⟨x,p.mem_iff.mp hx,h⟩,fun⟨x,hx,h⟩=>⟨x,p.mem_iff.mpr hx,h⟩⟩
theorem noC_of{L:List Row}{n:Nat}(nd:(L.map (·.1)).Nodup)(h:K22.NoC L n):K22.NoC (sL L) n:=fun a b hab hb=>by rw[uI (sL_perm nd)];exact h a b hab hb
theorem count_is{H:Hp}{t:Addr}{ys:List V}{L:List Row}(et:H t=some (.lst ys))(sh:Sh H ys L)(g:Good L){l:Row}(hl:l∈L):count H (.ref t)=l.2.length:=by
 obtain⟨n,hn,hc⟩:=g.ct;obtain⟨_,k⟩:=lh sh g.nm fun l hl=>by rw[hc l hl];exact hn
 show(match dY (H t)with |some (y::_)=>bX H y|_=>0)=_;rw[et];cases ys with
 |nil=>rw[show L=[]from cg.mp (lj sh).symm]at hl;cases hl
 |cons y ys=>
  show bX H y=_;obtain⟨_,_,l',hl',e⟩:=k y aG;rw[e,hc l' hl',hc l hl]
structure Tl(H:Hp)(t:Addr)(ys:List V)(L:List Row):Prop where
 et:H t=some (.lst ys)
 sh:Sh H ys L
 gd:Good L
theorem Tl.same{H H':Hp}{t:Addr}{ys:List V}{L:List Row}(h:Tl H t ys L)(s:aP H H'):Tl H' t ys L:=⟨s _ _ h.et,h.sh.same s,h.gd⟩
noncomputable def spWc(CT C:Addr):Sp:=fun vs H Q E=>∃t ys L z r rs,vs=[.ref t,.str z,.ref r]/\Tl H t ys L/\K13.Fine (z,rs)/\H r=some (.tup rs)/\
 (z∈L.map (·.1)->∀H',aP H H'->E (.ref CT) none H')/\(z∉L.map (·.1)->¬Good (L++[(z,rs)])->∀H',aP H H'->E (.ref C) none H')/\
 (Good (L++[(z,rs)])->∀H' t' b,aP H H'->Tl H' t' (ys++[.ref b]) (L++[(z,rs)])->Q (.ref t') H')
theorem Gd{L:List Row}{l:Row}(g:Good (L++[l])):l.1∉L.map (·.1):=fun h=>by
 have :=g.nd
 rw[du,eQ]at this;exact this.2.2 l.1 h l.1 (by simp) rfl
theorem y8{L:List Row}{z:Str}:((aq L.length).map fun i=>decide (z=(L.getD i ("",[])).1)).any id=true↔z∈L.map (·.1):=by
 simp only[qG,bP,aQ,Function.comp,id,decide_eq_true_eq,aO];constructor
 ·rintro⟨i,hi,e⟩
  rw[ah,af hi]at e;exact⟨L[i],bO hi,e.symm⟩
 ·rintro⟨l,hl,e⟩
  obtain⟨i,hi,rfl⟩:=List.getElem_of_mem hl;exact⟨i,hi,by rw[ah,af hi];exact e.symm⟩
theorem wp_wc{G:Gam}{K:ae}{CT C:Addr}(v1:G.val "Twice"=some (.ref CT))(xc:XC K CT)(g1:G.fn "need_table" 1=some (oS C,[])):
  Sat G K (spWc CT C) pV pH:=by
 rintro vs H Q E ⟨t,ys,L,z,r,rs,rfl,tl,fz,hr,q1,q2,q3⟩;unfold pV;change wpB G K _ _ _ [some (.ref t),some (.str z),some (.ref r),none] H;walk_at "wp";have hyl:ys.length<=40:=by rw[lj tl.sh];exact tl.gd.len
 refine dF (cI rfl (SqL.of tl.et) (dP d8 (short hyl) (fun H1 s1=>SqL.of (s1 _ _ tl.et)) (fun i v _=>v=.bl (decide (z=(L.getD i ("",[])).1))) (fun _ _ _ _ _ h=>h) (fun τ=>∃t,τ=[t,some (.str z)]) ⟨none,rfl⟩ ?_ ?_))
 ·rintro i x τ H3 R hi ⟨t0,rfl⟩ s3 hx k
  obtain⟨l,el,b,r',rfl,hb,_,_⟩:=wU tl.sh hx;walk_at "wp";refine .inr (.inl ⟨b,_,0,.str l.1,rfl,rfl,SqT.of (s3 _ _ hb),rfl,?_⟩);refine eq_ss.mpr (k _ _ _ ⟨_,rfl⟩ (aP.refl _) ?_);rw[ah,el];rfl
 ·intro vs H2 m hvl hF s2 hm
  have e1:=bool_list hvl hF;subst e1;refine⟨m,_,rfl,SqL.of az,_,rfl,?_⟩;rw[lj tl.sh];have s3:=s2.trans (aK (o:=.lst (((aq L.length).map fun i=>decide (z=(L.getD i ("",[])).1)).map V.bl)) hm);generalize upd H2 m (.lst (((aq L.length).map fun i=>decide (z=(L.getD i ("",[])).1)).map V.bl))=H3 at s3;by_cases hz:z∈L.map (·.1)
  ·rw[if_pos (y8.mpr hz)]
   exact⟨CT,v1,xc.1,xc.2,xZ,q1 hz H3 s3⟩
  ·rw[if_neg (fun e=>hz (y8.mp e))]
   unfold mC;walk_at "wp";refine⟨r,_,rfl,.inr (SqT.of (s3 _ _ hr)),fun l1 hl1=>?_⟩;have s4:=aK (o:=.lst rs) hl1;have h4:upd H3 l1 (.lst rs) l1=_:=az;generalize upd H3 l1 (.lst rs)=H4 at s4 h4;refine⟨l1,_,rfl,.inl ⟨SqL.of h4,fun r5 hr5=>?_⟩⟩;have s5:=aK (o:=.tup rs) hr5;have h5:upd H4 r5 (.tup rs) r5=_:=az;generalize upd H4 r5 (.tup rs)=H5 at s5 h5;refine⟨short (by show 2<=40;decide),fun b hb=>⟨short (by show 1<=40;decide),fun l6 hl6=>?_⟩⟩;have s6:=aK (o:=.tup [V.str z,V.ref r5]) hb;have h6:upd H5 b (.tup [V.str z,V.ref r5]) b=_:=az;generalize upd H5 b (.tup [V.str z,V.ref r5])=H6 at s6 h6 hl6;have s7:=aK (o:=.lst [V.ref b]) hl6;have h7:upd H6 l6 (.lst [V.ref b]) l6=_:=az;generalize upd H6 l6 (.lst [V.ref b])=H7 at s7 h7;have s37:=s4.trans (s5.trans (s6.trans s7));refine .inr (.inr (.inl ⟨t,l6,_,_,rfl,rfl,s37 _ _ (s3 _ _ tl.et),h7,aI (Hi hyl 1) (by decide),fun t' ht'=>?_⟩));have s8:=aK (o:=.lst (ys++[V.ref b])) ht';have h8:upd H7 t' (.lst (ys++[V.ref b])) t'=_:=az;generalize upd H7 t' (.lst (ys++[V.ref b]))=H8 at s8 h8;have s18:=s3.trans (s37.trans s8);have sh8:Sh H8 (ys++[.ref b]) (L++[(z,rs)]):=Paired.snoc (tl.sh.same s18) ⟨b,r5,rfl,s8 _ _ (s7 _ _ h6),s8 _ _ (s7 _ _ (s6 _ _ h5)),fz.rd⟩;obtain⟨n0,hn0,hc0⟩:=tl.gd.ct;have ff:∀l∈L++[(z,rs)],K13.Fine l:=fun l hl=>by
    rcases cj.mp hl with hl|hl
    ·exact⟨tl.gd.nm l hl,by rw[hc0 l hl];exact hn0,tl.gd.rd l hl⟩
    ·rw[aL.mp hl];exact fz
   obtain⟨k1,k2⟩:=K13.sh_tab2 h8 sh8 ff (by rw[cu];exact Hi tl.gd.len 1);unfold mB;walk_at "wp";refine⟨_,_,g1,.ref t',rfl,k1,fun e H9 s9=>?_,fun e H9 s9=>?_⟩
   ·unfold mz
    walk_at "wp"
    exact q3 (k2 e) H9 t' b (s18.trans s9) ⟨s9 _ _ h8,sh8.same s9,k2 e⟩
   ·refine q2 hz (fun g=>?_) H9 (s18.trans s9)
    rw[(nL h8 sh8 g).2.1]at e;cases e
noncomputable def spWo(C CN:Addr):Sp:=fun vs H Q E=>∃t ys L x,vs=[.ref t,x]/\Tl H t ys L/\Known H x/\(∀z,x=.str z->z.length<=20000)/\((∀z,x=.str z->z∉L.map (·.1))->∀H',aP H H'->E (.ref CN) none H')/\
 ∀z,x=.str z->z∈L.map (·.1)->∀H' t' ys',aP H H'->Tl H' t' ys' (L.filter fun l=>decide (l.1≠z))->Q (.ref t') H'
theorem yB{L:List Row}(g:Good L)(p:Row->Bool):Good (L.filter p):=
 ⟨aI (mP _ _) g.len,fun l h=>g.nm l (bF.mp h).1,fun l h=>g.rd l (bF.mp h).1,g.nd.sublist (List.Sublist.map _ de),let⟨n,a,b⟩:=g.ct;⟨n,a,fun l h=>b l (bF.mp h).1⟩⟩
theorem Cg{H:Hp}{ys:List V}{L:List Row}{p:V->Bool}{q:Row->Bool}(sh:Sh H ys L)(h:∀(w:V)(l:Row),(∃b r,w=V.ref b/\H b=some (.tup [.str l.1,.ref r])/\H r=some (.tup l.2)/\∀y∈l.2,bG y=true)->p w=q l):Sh H (ys.filter p) (L.filter q):=by
 induction sh with
 |nil=>exact .nil
 | @cons w l ws L hw t ih=>
  rw[List.filter_cons,List.filter_cons,h w l hw];split
  ·exact .cons hw ih
  ·exact ih
theorem gI{H:Hp}{t:Addr}{ys:List V}{L:List Row}(tl:Tl H t ys L){z:Str}:K32.Dd H (.ref t) (.str z)↔z∈L.map (·.1):=by
 obtain⟨n,hn,hc⟩:=tl.gd.ct;obtain⟨e,_⟩:=lh tl.sh tl.gd.nm fun l hl=>by rw[hc l hl];exact hn
 rw[<-e];constructor
 ·rintro⟨a,ys',z',c,e1,e2,e3,e4,e5⟩
  injection e1 with e1;subst e1;injection e3 with e3;subst e3;rw[tl.et]at e2;cases e2;exact aO.mpr ⟨c,e4,e5⟩
 ·intro h
  obtain⟨c,hc1,hc2⟩:=aO.mp h;exact⟨t,ys,z,c,rfl,by rw[tl.et];rfl,rfl,hc1,hc2⟩
theorem wp_wo{G:Gam}{K:ae}{C CN:Addr}(g1:G.fn "need_name" 2=some (K32.qS C CN,[])):
  Sat G K (spWo C CN) lD lq:=by
 rintro vs H Q E ⟨t,ys,L,x,rfl,tl,hk,hx,q1,q2⟩;unfold lD;change wpB G K _ _ _ [some (.ref t),some x] H;walk_at "wp";obtain⟨k1,k2,_⟩:=nL tl.et tl.sh tl.gd;refine⟨_,_,g1,.ref t,x,rfl,k1,hk,hx,(fun e=>by rw[k2]at e;cases e),fun _=>⟨fun hn H1 s1=>?_,fun hn H1 s1=>?_⟩⟩
 ·have tl1:=tl.same s1
  obtain⟨z,rfl⟩:∃z,x=.str z:=by
   obtain⟨_,_,z,_,_,_,e,_⟩:=hn;exact⟨z,e⟩
  have hyl:ys.length<=40:=by rw[lj tl.sh];exact tl.gd.len
  refine dF (cI rfl (SqL.of tl1.et) (lT (xs:=ys) d8 (short hyl) (fun H2 s2=>SqL.of (s2 _ _ tl1.et)) (fun y=>decide (aN H1 y≠z)) id (fun τ=>∃t,τ=[t,some (.str z)]) ⟨none,rfl⟩ ?_ ?_))
  ·rintro y τ H3 Rt Rf hy ⟨t0,rfl⟩ s3 kt kf
   obtain⟨i,hi⟩:=D1 hy;obtain⟨l,el,b,r',rfl,hb,hr',_⟩:=wU tl1.sh hi;have en:aN H1 (.ref b)=l.1:=by
    show(match cG (H1 b)with |some (.str z::_)=>z|_=>("":Str))=_;rw[hb];rfl
   walk_at "wp"
   refine .inr (.inl ⟨b,_,0,.str l.1,rfl,rfl,SqT.of (s3 _ _ hb),rfl,?_⟩);refine ne_ss.mpr ⟨_,rfl,?_⟩;by_cases e:l.1=z
   ·rw[if_neg (by rw[e];simp)]
    exact kf _ _ ⟨_,rfl⟩ (aP.refl _) (by rw[en,e];simp)
   ·rw[if_pos (by simp[e])]
    exact kt _ _ ⟨_,rfl⟩ (aP.refl _) (by rw[en];simp[e])
  ·intro H2 m s2 hm
   rw[ig];have s3:=aK (o:=.lst (ys.filter fun y=>decide (aN H1 y≠z))) hm;have sh1:Sh H1 (ys.filter fun y=>decide (aN H1 y≠z)) (L.filter fun l=>decide (l.1≠z)):=Cg tl1.sh fun w l ⟨b,r,e1,e2,_,_⟩=>by
    subst e1;rw[show aN H1 (.ref b)=l.1 from by
     show(match cG (H1 b)with |some (.str z::_)=>z|_=>("":Str))=_;rw[e2];rfl]
   exact q2 z rfl ((gI tl).mp hn) _ m _ (s1.trans (s2.trans s3)) ⟨az,sh1.same (s2.trans s3),yB tl.gd _⟩
 ·refine q1 (fun z e hz=>?_) H1 s1
  subst e;exact hn ((gI tl).mpr hz)
structure Ow(K:ae)(C:Addr):Prop where
 c:Cls K C
 n:lK K C "copies"
noncomputable def spIni(C:Addr):Sp:=fun vs H Q _=>∃s dx,vs=[.ref s]/\H s=some (.ins C dx [])/\∀t,t≠s->H t=none->Q .non (upd (upd H t (.lst [])) s (.ins C dx [("copies",.ref t)]))
theorem wp_ini{G:Gam}{K:ae}{C:Addr}(o:Ow K C):
  Sat G K (spIni C) kM kF:=by
 rintro vs H Q E ⟨s,dx,rfl,hs,q⟩;unfold kM;change wpB G K _ _ _ [some (.ref s)] H;walk_at "wp";simp only[EL,kR,tLst,jC,dw,cU,exists_eq_left'];refine⟨bf _,fun t ht=>?_⟩;have ne:t≠s:=fun z=>by rw[z,hs]at ht;cases ht
 refine⟨s,C,dx,[],rfl,by rw[aY (bZ ne)];exact hs,o.c,o.n,by decide,q t ne ht⟩
structure Shf(H:Hp)(s C dx t:Addr)(ys:List V)(L:List Row):Prop where
 so:H s=some (.ins C dx [("copies",.ref t)])
 tl:Tl H t ys L
theorem Shf.same{H H':Hp}{s C dx t:Addr}{ys:List V}{L:List Row}(h:Shf H s C dx t ys L)(k:aP H H'):Shf H' s C dx t ys L:=⟨k _ _ h.so,h.tl.same k⟩
theorem Tl.gr{T:Tb}{H H':Hp}{t:Addr}{ys:List V}{L:List Row}(h:Tl H t ys L)(g:Gr T H H')(tb:Tab T H):Tl H' t ys L:=⟨g.lst tb h.et,h.sh.gr g tb,h.gd⟩
theorem Tl.put{H:Hp}{s t:Addr}{o o':HO}{ys:List V}{L:List Row}(h:Tl H t ys L)(hs:H s=some o)(hn:∀xs,o≠.lst xs)(hn2:∀xs,o≠.tup xs):Tl (upd H s o') t ys L:=
 ⟨by rw[aY (fun z=>hn _ (aV (hs.symm.trans (by rw[<-z];exact h.et))))];exact h.et,
  Paired.qg h.sh fun w l ⟨b,r,e1,e2,e3,e4⟩=>⟨b,r,e1,by rw[aY (fun z=>by rw[z,hs]at e2;exact hn2 _ (aV e2))];exact e2,by rw[aY (fun z=>by rw[z,hs]at e3;exact hn2 _ (aV e3))];exact e3,e4⟩,h.gd⟩
theorem put_c(v w:V):ki (bj "copies") w [((bj "copies":Str),v)]=[((bj "copies":Str),w)]:=by simp[ki]
theorem wo(v:V):cM (bj "copies") [((bj "copies":Str),v)]=some v:=by rw[aW];simp
noncomputable def KnR(H:Hp)(y:V):Prop:=Known H y/\∀a xs,y=.ref a->H a=some (.tup xs)->xs.length<=20000/\∀y∈xs,Known H y
theorem Known.some{H:Hp}{a:Addr}(h:Known H (.ref a)):∃u,H a=some u:=by
 cases e:H a with
 |some u=>exact⟨u,rfl⟩
 |none=>
  have h':gL (H a)≠"?":=h;rw[e]at h';exact absurd rfl h'
theorem KnR.same{H H':Hp}{y:V}(h:KnR H y)(s:aP H H'):KnR H' y/\cq H' y=cq H y:=by
 refine⟨⟨(h.1.same s).1,fun a xs e hx=>?_⟩,?_⟩
 ·subst e
  obtain⟨u,hu⟩:=Known.some h.1;have :=s _ _ hu;rw[hx]at this;cases this;obtain⟨k1,k2⟩:=h.2 a xs rfl hu;exact⟨k1,fun y hy=>((k2 y hy).same s).1⟩
 ·cases y with
  |ref a=>
   obtain⟨u,hu⟩:=Known.some h.1;show(match cG (H' a)with |some xs=>decide (xs.length<=60)&&xs.all bG|none=>false)=(match cG (H a)with |some xs=>decide (xs.length<=60)&&xs.all bG|none=>false);rw[hu,s _ _ hu]
  |_=>rfl
noncomputable def spOff(CS C CN:Addr):Sp:=fun vs H Q E=>∃s dx t ys L x,vs=[.ref s,x]/\Shf H s CS dx t ys L/\Known H x/\(∀z,x=.str z->z.length<=20000)/\((∀z,x=.str z->z∉L.map (·.1))->∀H',aP H H'->E (.ref CN) none H')/\
 ∀z,x=.str z->z∈L.map (·.1)->∀H1 t' ys',aP H H1->Tl H1 t' ys' (L.filter fun l=>decide (l.1≠z))->Q .non (upd H1 s (.ins CS dx [("copies",.ref t')]))
theorem wp_off{G:Gam}{K:ae}{CS C CN:Addr}(o:Ow K CS)(g1:G.fn "without_copy" 2=some (spWo C CN,[])):
  Sat G K (spOff CS C CN) sH rH:=by
 rintro vs H Q E ⟨s,dx,t,ys,L,x,rfl,sf,hk,hx,q1,q2⟩;unfold sH;change wpB G K _ _ _ [some (.ref s),some x] H;walk_at "wp";simp only[EL,Ca,kR,dw,k9,cU,exists_eq_left'];refine⟨_,_,g1,s,CS,dx,_,.ref t,rfl,sf.so,o.c,o.n,wo _,t,ys,L,x,rfl,sf.tl,hk,hx,q1,fun z e hz H1 t' ys' s1 tl1=>?_⟩;refine⟨s,CS,dx,_,rfl,s1 _ _ sf.so,o.c,o.n,(by show 1<1000;decide),?_⟩;rw[put_c];exact q2 z e hz H1 t' ys' s1 tl1
noncomputable def spTb(CS:Addr)(T:Tb):Sp:=fun vs H Q _=>∃s dx t ys L,vs=[.ref s]/\Shf H s CS dx t ys L/\Tab T H/\∀H' l zs,Gr T H H'->Tl H' l zs (sL L)->Q (.ref l) H'
theorem El{H:Hp}{l:Addr}{zs:List V}(el:H l=some (.lst zs))(e:cV H (.ref l)=true):Sh H zs (zs.map (K22.cd H)):=by
 obtain⟨a,ys,e1,h1,h2,h3,_⟩:=d9 e;injection e1 with e1
 subst e1;rw[el]at h1;cases h1;exact uf h3
theorem uH{L L':List Row}(p:L'.Perm L)(g:Good L):Good L':=
 ⟨by rw[p.length_eq];exact g.len,fun l h=>g.nm l (p.mem_iff.mp h),fun l h=>g.rd l (p.mem_iff.mp h),(p.map _).nodup_iff.mpr g.nd,let⟨n,a,b⟩:=g.ct;⟨n,a,fun l h=>b l (p.mem_iff.mp h)⟩⟩
theorem wp_tb{G:Gam}{K:ae}{CS C:Addr}{T:Tb}(o:Ow K CS)(g1:G.fn "table_list" 1=some (qT C T,[])):
  Sat G K (spTb CS T) ot nU:=by
 rintro vs H Q E ⟨s,dx,t,ys,L,rfl,sf,tb,q⟩;unfold ot;change wpB G K _ _ _ [some (.ref s)] H;walk_at "wp";simp only[Ca,kR,dw,cU,exists_eq_left'];obtain⟨k1,k2,_⟩:=nL sf.tl.et sf.tl.sh sf.tl.gd;refine⟨_,_,g1,s,CS,dx,_,.ref t,rfl,sf.so,o.c,o.n,wo _,.ref t,rfl,k1,tb,fun _ H' l zs g hl el c=>?_,fun e=>by rw[k2]at e;cases e⟩;obtain⟨_,t2,_,rw4⟩:=K22.mZ k2 el c;rw[A2 sf.tl.et sf.tl.sh sf.tl.gd]at rw4;have sh:=El el t2;rw[rw4]at sh;exact q H' l zs g ⟨el,sh,uH (sL_perm sf.tl.gd.nd) sf.tl.gd⟩
theorem look_m{m:Str}(v:V)(h:(m==(bj "copies":Str))=false):cM m [((bj "copies":Str),v)]=none:=by rw[aW,h];rfl
end K82
namespace K13
open PySem PySem.Spec PyProof.Rows L2 R Cp Lt Lm K02 K11 K12 K91
theorem sl{n:Nat}(h:n<=20000):n<=sizeLine:=aI h wq
end K13
namespace K82
open PySem PySem.Spec PyProof.Rows L2 R Cp Lt Lm K02 K11 K12
structure GrX(T:Tb)(s:Addr)(H H':Hp):Prop where
 keep:∀b o,b≠T.P->b≠s->H b=some o->H' b=some o
 tab:Tab T H->Tab T H'
theorem GrX.refl(T:Tb)(s:Addr)(H:Hp):GrX T s H H:=⟨fun _ _ _ _ e=>e,fun t=>t⟩
theorem GrX.trans{T:Tb}{s:Addr}{H H1 H2:Hp}(a:GrX T s H H1)(b:GrX T s H1 H2):GrX T s H H2:=⟨fun c o n m e=>b.keep c o n m (a.keep c o n m e),fun t=>b.tab (a.tab t)⟩
theorem GrX.of{T:Tb}{s:Addr}{H H':Hp}(g:Gr T H H'):GrX T s H H':=⟨fun b o n _ e=>g.keep b o n e,g.tab⟩
theorem GrX.put{T:Tb}{s C dx:Addr}{fs fs':List (Str×V)}{H:Hp}(hs:H s=some (.ins C dx fs)):GrX T s H (upd H s (.ins C dx fs')):=by
 refine⟨fun b o _ m e=>by rw[aY m];exact e,fun t=>?_⟩;have n1:T.P≠s:=fun z=>by
  rcases t with t|⟨c',oc,u,vs,tk,h1,_⟩
  ·rw[z,hs]at t;cases t
  ·rw[z,hs]at h1;cases h1
 rcases t with t|⟨c',oc,u,vs,tk,h1,h2,h3,h4⟩
 ·exact .inl (by rw[aY n1];exact t)
 ·exact .inr ⟨c',oc,u,vs,tk,by rw[aY n1];exact h1,by rw[aY (fun z=>by rw[z,hs]at h2;cases h2)];exact h2,h3,h4⟩
theorem GrX.seq{K:ae}{T:Tb}{s a C dx:Addr}{fs:List (Str×V)}{xs:List V}{H H':Hp}(g:GrX T s H H')(t:Tab T H)(hs:H s=some (.ins C dx fs))(h:SqL K H a xs):SqL K H' a xs:=by
 rcases h with(h|⟨o,h⟩) |h
 ·exact .inl (.inl (g.keep _ _ (t.ne h fun _ z=>by cases z) (fun z=>by rw[z,hs]at h;cases h) h))
 ·exact .inl (.inr ⟨o,g.keep _ _ (t.ne h fun _ z=>by cases z) (fun z=>by rw[z,hs]at h;cases h) h⟩)
 ·exact .inr h
end K82
namespace K84
open PySem PySem.Spec PyProof.Rows L2 R Cp Lt Kc K21 K22 Lm
theorem vU{α:Type}[DecidableEq α]:∀{l m:List α},l.Nodup->m.Nodup->(∀x,x∈l↔x∈m)->l.Perm m
 | [],m,_,_,h=>by
  cases m with
  |nil=>exact .nil
  |cons x m=>exact nomatch(h x).mpr (.head _)
 |x::l,m,h1,h2,h=>by
  have hx:=(h x).mp (.head _);refine .trans (.cons x (vU (cA.mp h1).2 (h2.erase x) fun y=>?_)) (DW hx).symm;rw[h2.mem_erase_iff];constructor
  ·intro hy
   exact⟨fun e=>(cA.mp h1).1 (e▸hy),(h y).mp (.tail _ hy)⟩
  ·rintro⟨hne,hy⟩
   rcases ay.mp ((h y).mpr hy)with e|e
   ·exact absurd e hne
   ·exact e
end K84
namespace K84
open PySem R
noncomputable def xW:List Str:=["_law_script","_law_k"]
noncomputable def pN:List Str:=["_law_script","_law_k"]
noncomputable def p6:CB:=
  (.cons (.iff (.and (.cmp .Eq (.bin .Mod (.bin .FloorDiv (.idx (.var 0) (.con (.int 0))) (.con (.int 64))) (.con (.int 2))) (.con (.int 1))) (.cmp .Gt (.idx (.var 0) (.var 1)) (.bin .Pow (.con (.int 10)) (.con (.int 12)))))
  (.cons (.ret (.bin .Mod (.idx (.var 0) (.var 1)) (.bin .Pow (.con (.int 10)) (.con (.int 30)))))
  .nil)
  .nil)
  (.cons (.ret (.bin .Mod (.bin .Mult (.bin .Add (.idx (.var 0) (.var 1)) (.con (.int 1))) (.bin .Add (.con (.int 48271)) (.bin .Mult (.bin .Mult (.con (.int 7919)) (.var 1)) (.var 1)))) (.con (.int 2147483629))))
  .nil))
noncomputable def xV:List Str:=["_law_script","_law_start","_law_most","_law_places"]
noncomputable def pM:List Str:=["_law_script","_law_start","_law_most","_law_places","_law_nodes","_law_fresh","_law_k","_law_number","_law_node","_law_many","_law_turns"]
noncomputable def mJ:CB:=
  (.cons (.ret (.var 4))
  .nil)
noncomputable def iK:CB:=
  (.cons (.expr (.meth1 .append (.var 4) (.var 8)))
  .nil)
noncomputable def jv:CB:=
  (.cons (.asg (.name 5) (.bin .Add (.var 5) (.var 9)))
  .nil)
noncomputable def jw:CB:=
  (.cons (.asg (.name 8) (.bfn .tuple (.cons (.comp ["_law_j"] [8,10] (.name 0) (.range1 (.var 3)) .no (.bin .Mod (.bin .Add (.idx (.var 1) (.var 0)) (.idx (.var 2) (.var 0))) (.con (.int 2)))) .nil)))
  jv)
noncomputable def kJ:CB:=
  (.cons (.iff (.cmp .LtE (.bin .Add (.var 5) (.var 9)) (.var 3))
  (.cons (.asgc 10 (.comp ["_law_j"] [5,9] (.name 0) (.range1 (.var 3)) .no (.bfn .int (.cons (.and (.cmp .LtE (.var 1) (.var 0)) (.cmp .Lt (.var 0) (.bin .Add (.var 1) (.var 2)))) .nil))))
  jw)
  .nil)
  iK)
noncomputable def kK:CB:=
  (.cons (.asg (.name 9) (.idx (.lst (.cons (.con (.int 1)) (.cons (.con (.int 1)) (.cons (.con (.int 2)) (.cons (.con (.int 0)) (.cons (.con (.int 3)) .nil)))))) (.bin .Mod (.bin .FloorDiv (.var 7) (.con (.int 64))) (.con (.int 5)))))
  kJ)
noncomputable def kL:CB:=
  (.cons (.asg (.name 8) (.idx (.var 4) (.bin .Mod (.var 7) (.bfn .len (.cons (.var 4) .nil)))))
  kK)
noncomputable def mK:CB:=
  (.cons (.forr (.name 6) (.range2 (.var 1) (.bfn .min (.cons (.bfn .len (.cons (.var 0) .nil)) (.cons (.var 2) .nil))))
  (.cons (.asg (.name 7) (.call "_law_drawn" (.cons (.var 0) (.cons (.var 6) .nil))))
  kL))
  mJ)
noncomputable def mL:CB:=
  (.cons (.asg (.name 5) (.con (.int 0)))
  mK)
noncomputable def p5:CB:=
  (.cons (.asg (.name 4) (.lst (.cons (.bfn .tuple (.cons (.bin .Mult (.lst (.cons (.con (.int 0)) .nil)) (.var 3)) .nil)) .nil)))
  mL)
noncomputable def xT:List Str:=["_law_places","_law_number","_law_rest_here"]
noncomputable def pK:List Str:=["_law_places","_law_number","_law_rest_here","_law_order","_law_bits","_law_j"]
noncomputable def jJ:CB:=
  (.cons (.ret (.tup (.cons (.var 3) (.cons (.var 4) .nil))))
  .nil)
noncomputable def js:CB:=
  (.cons (.asg (.name 2) (.bin .FloorDiv (.var 2) (.con (.int 2))))
  .nil)
noncomputable def jt:CB:=
  (.cons (.asg (.sub (.var 4) (.var 5)) (.bin .Mod (.var 2) (.con (.int 2))))
  js)
noncomputable def ju:CB:=
  (.cons (.asg (.name 2) (.bin .FloorDiv (.var 2) (.bin .Add (.var 5) (.con (.int 1)))))
  jt)
noncomputable def kI:CB:=
  (.cons (.forr (.name 5) (.range1 (.var 0))
  (.cons (.expr (.ins (.var 3) (.bin .Mod (.var 2) (.bin .Add (.var 5) (.con (.int 1)))) (.var 5)))
  ju))
  .nil)
noncomputable def jK:CB:=
  (.cons (.iff (.cmp .IsNot (.var 2) (.con .none))
  (.cons (.asg (.name 3) (.lst .nil))
  kI)
  .nil)
  jJ)
noncomputable def mH:CB:=
  (.cons (.iff (.cmp .Gt (.bin .Mod (.var 0) (.con (.int 7))) (.con (.int 0)))
  (.cons (.asgc 3 (.comp ["_law_j"] [0,1] (.name 0) (.range1 (.var 0)) .no (.bin .Mod (.bin .Add (.bin .Mult (.var 0) (.con (.int 7))) (.var 2)) (.var 1))))
  .nil)
  .nil)
  jK)
noncomputable def mI:CB:=
  (.cons (.asgc 4 (.comp ["_law_j"] [1] (.name 0) (.range1 (.var 0)) .no (.bin .Mod (.bin .FloorDiv (.var 1) (.bin .Add (.var 0) (.con (.int 3)))) (.con (.int 2)))))
  mH)
noncomputable def pY:CB:=
  (.cons (.asg (.name 3) (.lrng (.var 0)))
  mI)
noncomputable def Ac:List Str:=["_law_nodes","_law_number","_law_rest_here"]
noncomputable def rC:List Str:=["_law_nodes","_law_number","_law_rest_here","_law_order","_law_bits","_law_found","_law_node"]
noncomputable def r8:CB:=
  (.cons (.asg (.tup (.cons (.name 3) (.cons (.name 4) .nil))) (.call "_law_shape" (.cons (.bfn .len (.cons (.idx (.var 0) (.con (.int 0))) .nil)) (.cons (.var 1) (.cons (.var 2) .nil)))))
  (.cons (.asg (.name 5) (.lst .nil))
  (.cons (.forr (.name 6) (.seq (.var 0))
  (.cons (.expr (.meth1 .append (.var 5) (.bfn .tuple (.cons (.comp ["_law_j"] [6,4,3] (.name 0) (.range1 (.bfn .len (.cons (.var 6) .nil))) .no (.bin .Mod (.bin .Add (.idx (.var 1) (.idx (.var 3) (.var 0))) (.idx (.var 2) (.var 0))) (.con (.int 2)))) .nil))))
  .nil))
  (.cons (.ret (.var 5))
  .nil))))
noncomputable def Ab:List Str:=["_law_script","_law_k"]
noncomputable def rB:List Str:=["_law_script","_law_k"]
noncomputable def r6:CB:=
  (.cons (.iff (.and (.cmp .Eq (.bin .Mod (.bin .FloorDiv (.call "_law_cell_at" (.cons (.var 0) (.cons (.con (.int 0)) .nil))) (.con (.int 64))) (.con (.int 2))) (.con (.int 1))) (.cmp .Gt (.call "_law_cell_at" (.cons (.var 0) (.cons (.var 1) .nil))) (.bin .Pow (.con (.int 10)) (.con (.int 32)))))
  (.cons (.ret (.divb (.call "_law_cell_at" (.cons (.var 0) (.cons (.var 1) .nil))) (.bin .Pow (.con (.int 10)) (.con (.int 30)))))
  .nil)
  .nil)
  (.cons (.ret (.con .none))
  .nil))
end K84
namespace K84
open PySem PySem.Spec PyProof.Rows L2 R Cp Lt Kc K21 K22 Lm
section
variable {G:Gam}{K:ae}
noncomputable def vA(K:ae):Sp:=fun vs H Q _=>∃(a:Addr)(ns:List Int)(k:Nat),vs=[.ref a,.int k]/\SqL K H a (ns.map V.int)/\k<ns.length/\k<=100/\∀d:Int,0<=d->Q (.int d) H
theorem Eb:Sat G K (vA K) p6 pN:=by
 rintro vs H Q E ⟨a,ns,k,rfl,ha,hk,hk1,q⟩;unfold p6;change wpB G K _ _ _ [some (.ref a),some (.int k)] H;walk_at "wp";have h0:(ns.map V.int)[0]? =some (.int (ns.getD 0 0)):=yA (by omega);have hk':(ns.map V.int)[k]? =some (.int (ns.getD k 0)):=yA hk;generalize ns.getD 0 0=c0 at h0;generalize ns.getD k 0=c at hk';have at':∀{Q':VK},Q' (.int c) H->rIx K (.ref a) (.int k) H Q':=fun h=>.inl ⟨a,_,k,_,rfl,rfl,ha,cH hk',h⟩;have last:∀{Q':VK},(∀d:Int,0<=d->Q' (.int d) H)->rIx K (.ref a) (.int k) H fun x H1=>i8 K Operator.Add x (V.int 1) H1 fun x H1=>wX 7919 ↑k/\wX (7919*↑k) ↑k/\i8 K Operator.Mult x (V.int (48271+7919*↑k*↑k)) H1 fun x H1=>i8 K Operator.Mod x (V.int 2147483629) H1 Q':=fun{Q'} h=>by
  refine at' ?_;have hkk:0<=7919*(k:Int)*k/\7919*(k:Int)*k<=79190000:=by
   have h1:0<=(k:Int)*k:=Int.mul_nonneg (by omega) (by omega);have h2:(k:Int)*k<=100*100:=Int.mul_le_mul (by omega) (by omega) (by omega) (by decide);rw[Int.mul_assoc];omega
  walk_at "wp"
  exact⟨cmulL (by decide) (by decide),rX (by omega) (by omega),rX (by omega) (by omega),by decide,h _ (eA _ (by decide))⟩
 refine .inl ⟨a,_,0,_,rfl,rfl,ha,cH (j:=0) h0,?_⟩;walk_at "wp";refine⟨⟨by decide,by decide⟩,by decide,?_⟩;by_cases h1:c0/64%2=1
 ·rw[if_pos (decide_eq_true h1)]
  refine at' ⟨⟨by decide,by decide,by decide⟩,?_⟩;walk_at "wp";by_cases h2:(10:Int)^Int.toNat 12<c
  ·rw[if_pos (decide_eq_true h2)]
   refine at' ⟨⟨by decide,by decide,by decide⟩,?_⟩;walk_at "wp";exact⟨by decide,q _ (eA _ (by decide))⟩
  ·rw[if_neg (by simpa using h2)]
   exact last q
 ·rw[if_neg (by simpa using h1),if_neg aC]
  exact last q
noncomputable def zO(K:ae):Sp:=fun vs H Q _=>∃(a:Addr)(ns:List Int)(k:Nat),vs=[.ref a,.int k]/\SqL K H a (ns.map V.int)/\∀v,(v=.non\/∃r:Int,0<=r/\v=.int r)->Q v H
theorem wp_rest(g0:G.fn "_law_cell_at" 2=some (vD K,[])):Sat G K (zO K) r6 rB:=by
 rintro vs H Q E ⟨a,ns,k,rfl,ha,q⟩;unfold r6;change wpB G K _ _ _ [some (.ref a),some (.int k)] H;walk_at "wp";refine⟨_,_,g0,a,ns,0,rfl,ha,?_⟩;walk_at "wp";refine⟨⟨by decide,by decide⟩,by decide,?_⟩;by_cases h1:ns.getD 0 0/64%2=1
 ·rw[if_pos (decide_eq_true h1)]
  refine⟨_,_,g0,a,ns,k,rfl,ha,⟨by decide,by decide,by decide⟩,?_⟩;walk_at "wp";by_cases h2:(10:Int)^Int.toNat 32<ns.getD k 0
  ·rw[if_pos (decide_eq_true h2)]
   refine⟨_,_,g0,a,ns,k,rfl,ha,⟨by decide,by decide,by decide⟩,?_⟩;refine⟨_,_,rfl,rfl,⟨by decide,by decide+kernel⟩,q _ (.inr ⟨_,mQ ?_ (by decide),rfl⟩)⟩;have :(0:Int)<=10^Int.toNat 32:=by decide
   omega
  ·rw[if_neg (by simpa using h2)]
   exact q _ (.inl rfl)
 ·rw[if_neg (by simpa using h1),if_neg aC]
  exact q _ (.inl rfl)
noncomputable def Ord(n:Nat)(os:List Int):Prop:=os.length=n/\∀x∈os,0<=x/\x<n
noncomputable def Bts(n:Nat)(bs:List Int):Prop:=bs.length=n/\∀x∈bs,x=0\/x=1
noncomputable def vx:Sp:=fun vs H Q _=>∃(n:Nat)(m:Int)(x:V),vs=[.int n,.int m,x]/\n<=12/\0<=m/\(x=.non\/∃r:Int,0<=r/\x=.int r)/\
 ∀(H':Hp)(p o b:Addr)(os bs:List Int),aP H H'->H' p=some (.tup [.ref o,.ref b])->H' o=some (.lst (os.map V.int))->H' b=some (.lst (bs.map V.int))->Ord n os->Bts n bs->Q (.ref p) H'
theorem GU(x:Int):x%2=0\/x%2=1:=by omega
theorem qA{vs:List V}{n:Nat}{P:Int->Prop}(hl:vs.length=n)(h:∀(i:Nat) v,vs[i]? =some v->∃x:Int,v=.int x/\P x):∃xs:List Int,vs=xs.map V.int/\xs.length=n/\∀x∈xs,P x:=by
 induction vs generalizing n with
 |nil=>exact⟨[],rfl,by simpa using hl,by simp⟩
 |cons v vs ih=>
  obtain⟨x,rfl,hx⟩:=h 0 v rfl;obtain⟨xs,h1,h2,h3⟩:=ih rfl fun i w e=>h (i+1) w (by simpa using e);refine⟨x::xs,by rw[h1];rfl,by rw[<-hl,ba,ba,h2],fun y hy=>?_⟩;rcases ay.mp hy with e|e
  ·rw[e];exact hx
  ·exact h3 y e
theorem qJ{E:XS}{D:Ends}{Q:VK}{H H':Hp}{n:Nat}{m:Int}{o b:Addr}{os bs:List Int}{x u:Option V}(hr:D.rt=Q)(s:aP H H')(eo:H' o=some (.lst (os.map V.int)))(eb:H' b=some (.lst (bs.map V.int)))(ho:Ord n os)(hb:Bts n bs)
  (q:∀(H':Hp)(p o b:Addr)(os bs:List Int),aP H H'->H' p=some (.tup [.ref o,.ref b])->H' o=some (.lst (os.map V.int))->H' b=some (.lst (bs.map V.int))->Ord n os->Bts n bs->Q (.ref p) H'):
  wpB G K E jJ D [some (.int n),some (.int m),x,some (.ref o),some (.ref b),u] H':=by
 unfold jJ;walk_at "wp";refine⟨short (by simp),fun p hp=>?_⟩;rw[hr];exact q _ p o b os bs (s.trans (aK hp)) az (aK hp _ _ eo) (aK hp _ _ eb) ho hb
theorem qK{E:XS}{D:Ends}{Q:VK}{H H':Hp}{n:Nat}{m:Int}{o b:Addr}{os bs:List Int}{x:V}{u:Option V}(hn:n<=12)(hx:x=.non\/∃r:Int,0<=r/\x=.int r)(hr:D.rt=Q)(s:aP H H')(fb:H b=none)(eo:H' o=some (.lst (os.map V.int)))(eb:H' b=some (.lst (bs.map V.int)))(ho:Ord n os)(hb:Bts n bs)
  (q:∀(H':Hp)(p o b:Addr)(os bs:List Int),aP H H'->H' p=some (.tup [.ref o,.ref b])->H' o=some (.lst (os.map V.int))->H' b=some (.lst (bs.map V.int))->Ord n os->Bts n bs->Q (.ref p) H'):
  wpB G K E jK D [some (.int n),some (.int m),some x,some (.ref o),some (.ref b),u] H':=by
 unfold jK;walk_at "wp";rcases hx with rfl|⟨r,hr0,rfl⟩
 ·rw[if_neg (by simp)]
  exact qJ hr s eo eb ho hb q
 ·rw[if_pos (by simp)]
  refine⟨short (by simp),fun l hl=>?_⟩;have s1:aP H' (upd H' l (.lst [])):=aK hl;have el:upd H' l (.lst []) l=some (.lst []):=az;have fl:H l=none:=s.free hl;have nlb:l≠b:=fun z=>by rw[z,eb]at hl;cases hl
  generalize upd H' l (.lst [])=H1 at s1 el⊢;unfold kI;walk_at "wp";refine iJ ?_;walk_at "wp";refine⟨(n:Int),rfl,by omega,by omega,?_⟩;refine gX dI (fun k σ H2=>aP H H2/\∃(os bs:List Int)(r:Int)(u:Option V),H2 l=some (.lst (os.map V.int))/\os.length=k/\(∀x∈os,0<=x/\x<n)/\H2 b=some (.lst (bs.map V.int))/\Bts n bs/\0<=r/\σ=[some (.int n),some (.int m),some (.int r),some (.ref l),some (.ref b),u])
   ⟨s.trans s1,[],bs,r,_,el,rfl,by simp,s1 _ _ eb,hb,hr0,rfl⟩ (fun _ _ _ _ _=>trivial) ?_ ?_
  ·rintro k y σ H2 H3 D2 hk ⟨s2,os,bs,r,u,e1,e2,e3,e4,e5,e6,rfl⟩ rfl s3 hD _
   have hkn:k<n:=by omega
   have e1:=s3 _ _ e1;have e4:=s3 _ _ e4;have s4:=s2.trans s3;walk_at "wp";simp only[eE];have i0:0<=r%((k:Int)+1):=eA _ (by omega);have i1:r%((k:Int)+1)<(k:Int)+1:=fQ _ (by omega);have i2:(r%((k:Int)+1)).toNat<=os.length:=by omega
   refine⟨.inl ⟨rfl,_,SqL.of e1⟩,by omega,⟨l,_,_,_,rfl,rfl,e1,dX (by rw[ao];omega:(os.map V.int).length<=40) (by decide),i0,by rw[ao];omega,?_⟩⟩;generalize(r%((k:Int)+1)).toNat=z at i2;have em:(os.map V.int).take z++V.int k::(os.map V.int).drop z=(os.take z++(k:Int)::os.drop z).map V.int:=by rw[du,List.map_take,bK,List.map_drop]
   rw[em];have s5:aP H (upd H3 l (.lst ((os.take z++(k:Int)::os.drop z).map V.int))):=iD s4 fl;have e5l:upd H3 l (.lst ((os.take z++(k:Int)::os.drop z).map V.int)) l=some (.lst ((os.take z++(k:Int)::os.drop z).map V.int)):=az;have e5b:upd H3 l (.lst ((os.take z++(k:Int)::os.drop z).map V.int)) b=some (.lst (bs.map V.int)):=by rw[aY (bZ nlb)];exact e4
   generalize upd H3 l (.lst ((os.take z++(k:Int)::os.drop z).map V.int))=H4 at s5 e5l e5b⊢;unfold ju;walk_at "wp";refine⟨⟨by omega,by omega⟩,?_⟩;unfold jt;walk_at "wp";have r1:0<=r/((k:Int)+1):=mQ e6 (by omega);generalize r/((k:Int)+1)=r' at r1⊢;refine⟨by decide,b,_,_,k,rfl,rfl,e5b,?_,?_⟩
   ·rw[ao,e5.1]
    unfold ixN;rw[if_pos (by omega),if_pos (by omega)];simp
   ·have em2:(bs.map V.int).set k (V.int (r'%2))=(bs.set k (r'%2)).map V.int:=by rw[List.map_set]
    rw[em2];unfold js;walk_at "wp";refine⟨⟨by decide,by decide⟩,?_⟩;refine hD _ _ ⟨iD s5 fb,os.take z++(k:Int)::os.drop z,bs.set k (r'%2),r'/2,_,?_,?_,?_,az,⟨by rw[List.length_set];exact e5.1,?_⟩,mQ r1 (by decide),rfl⟩
    ·rw[aY nlb];exact e5l
    ·simp
     omega
    ·intro x hx
     rcases cj.mp hx with hx|hx
     ·exact e3 x (List.mem_of_mem_take hx)
     ·rcases ay.mp hx with hx|hx
      ·rw[hx];omega
      ·exact e3 x (List.mem_of_mem_drop hx)
    ·intro x hx
     rcases List.mem_or_eq_of_mem_set hx with hx|hx
     ·exact e5.2 x hx
     ·rw[hx];exact GU _
  ·rintro σ H2 ⟨s2,os,bs,r,u,e1,e2,e3,e4,e5,e6,rfl⟩
   exact qJ hr s2 e1 e4 ⟨by simpa using e2,e3⟩ e5 q
theorem D7:Sat G K vx pY pK:=by
 rintro vs H Q E ⟨n,m,x,rfl,h8,hm,hx,q⟩;unfold pY;change wpB G K _ _ _ [some (.int n),some (.int m),some x,none,none,none] H;walk_at "wp";refine⟨_,rfl,n,rfl,by omega,fun l hl=>?_⟩;generalize hX:upd H l _=H1;obtain⟨s1,el⟩:=Am hX hl;clear hX;have enats:nats n=((aq n).map fun i:Nat=>(i:Int)).map V.int:=by unfold nats;rw[b9];rfl
 rw[enats]at el;have o1:Ord n ((aq n).map fun i:Nat=>(i:Int)):=⟨by simp,fun x hx=>by
  obtain⟨i,hi,rfl⟩:=aO.mp hx;have :=aQ.mp hi;omega⟩
 generalize(aq n).map (fun i:Nat=>(i:Int))=os at el o1;unfold mI;walk_at "wp";refine dF ?_;walk_at "wp";refine⟨(n:Int),rfl,by omega,by omega,?_⟩;refine dP dI (short (by omega)) (fun _ _=>trivial) (fun i v _=>∃x:Int,v=.int x/\(x=0\/x=1)) (fun _ _ _ _ _ h=>h) (fun τ=>∃t,τ=[t,some (.int m)]) ⟨none,rfl⟩ ?_ ?_
 ·rintro i y τ H2 R hi ⟨t,rfl⟩ s2 rfl kk
  walk_at "wp"
  simp only[eE];refine⟨⟨by omega,by omega⟩,by decide,kk _ _ _ ⟨_,rfl⟩ (aP.refl _) ⟨_,rfl,GU _⟩⟩
 ·intro vs H2 b hvl hF s2 hb2
  obtain⟨bs,rfl,b1,b2⟩:=qA (by simpa using hvl) hF;have s3:aP H1 (upd H2 b (.lst (bs.map V.int))):=s2.trans (aK hb2);have eb:upd H2 b (.lst (bs.map V.int)) b=some (.lst (bs.map V.int)):=az;have fb:H b=none:=(s1.trans s2).free hb2;generalize upd H2 b (.lst (bs.map V.int))=H3 at s3 eb⊢;have el:=s3 _ _ el;unfold mH;walk_at "wp";refine⟨by decide,?_⟩;by_cases h7:(0:Int)<(n:Int)%7
  ·rw[if_pos (decide_eq_true h7)]
   refine dF ?_;walk_at "wp";refine⟨(n:Int),rfl,by omega,by omega,?_⟩;refine dP dI (short (by omega)) (fun _ _=>trivial) (fun i v _=>∃x:Int,v=.int x/\0<=x/\x<n) (fun _ _ _ _ _ h=>h) (fun τ=>∃t,τ=[t,some (.int n),some (.int m)]) ⟨none,rfl⟩ ?_ ?_
   ·rintro i y τ H4 R hi ⟨t,rfl⟩ s4 rfl kk
    walk_at "wp"
    simp only[eE];exact⟨rX (by decide) (by decide),by omega,kk _ _ _ ⟨_,rfl⟩ (aP.refl _) ⟨_,rfl,eA _ (by omega),fQ _ (by omega)⟩⟩
   ·intro vs H4 o hvl hF s4 ho
    obtain⟨os2,rfl,c1,c2⟩:=qA (by simpa using hvl) hF;have s5:=s4.trans (aK (o:=.lst (os2.map V.int)) ho);exact qK h8 hx rfl (s1.trans (s3.trans s5)) fb az (s5 _ _ eb) ⟨c1,c2⟩ ⟨b1,b2⟩ q
  ·rw[if_neg (by simpa using h7)]
   exact qK h8 hx rfl (s1.trans s3) fb el eb o1 ⟨b1,b2⟩ q
end
end K84
namespace M6
noncomputable def Ok(n:Nat)(v:List Int):Prop:=v.length=n/\∀x∈v,x=0\/x=1
theorem Ok.at{n:Nat}{v:List Int}(h:Ok n v)(i:Nat):v.getD i 0=0\/v.getD i 0=1:=by
 rw[ah];cases e:v[i]? with
 |none=>exact .inl rfl
 |some x=>exact h.2 x (aR e)
noncomputable def Mis(vs:List (List Int))(i j:Nat):Prop:=∃a b:Int,(a=0\/a=1)/\(b=0\/b=1)/\∀v∈vs,¬(v.getD i 0=a/\v.getD j 0=b)
theorem Mis.sub{vs ws:List (List Int)}{i j:Nat}(h:Mis vs i j)(s:∀w∈ws,w∈vs):Mis ws i j:=let⟨a,b,ha,hb,k⟩:=h;⟨a,b,ha,hb,fun w hw=>k w (s w hw)⟩
theorem Mis.flip{vs:List (List Int)}{i j:Nat}(h:Mis vs i j):Mis vs j i:=let⟨a,b,ha,hb,k⟩:=h;⟨b,a,hb,ha,fun w hw ⟨x,y⟩=>k w hw ⟨y,x⟩⟩
structure Tre(n f:Nat)(vs:List (List Int)):Prop where
 ok:∀v∈vs,Ok n v
 zero:∀v∈vs,∀j,f<=j->v.getD j 0=0
 mis:∀i j,i<j->j<n->Mis vs i j
theorem start(n:Nat):Tre n 0 [aT n 0]:=by
 have z:∀j,(aT n (0:Int)).getD j 0=0:=fun j=>by
  rw[ah,AO];split <;>rfl
 refine⟨fun v hv=>?_,fun v hv j _=>?_,fun i j _ _=>⟨0,1,.inl rfl,.inr rfl,fun v hv ⟨_,h⟩=>?_⟩⟩
 ·rw[aL.mp hv]
  exact⟨by simp,fun x hx=>.inl (List.eq_of_mem_replicate hx)⟩
 ·rw[aL.mp hv];exact z j
 ·rw[aL.mp hv,z j]at h;cases h
theorem Tre.again{n f:Nat}{vs:List (List Int)}(t:Tre n f vs){v:List Int}(hv:v∈vs):Tre n f (vs++[v]):=by
 have s:∀w∈vs++[v],w∈vs:=fun w hw=>by
  rcases cj.mp hw with h|h
  ·exact h
  ·rw[aL.mp h];exact hv
 exact⟨fun w hw=>t.ok w (s w hw),fun w hw=>t.zero w (s w hw),fun i j a b=>(t.mis i j a b).sub s⟩
theorem Tre.turn{n f m:Nat}{vs:List (List Int)}(t:Tre n f vs){v w:List Int}(hv:v∈vs)(hw:Ok n w)(e:∀j,w.getD j 0=if f<=j/\j<f+m then 1 else v.getD j 0):Tre n (f+m) (vs++[w]):=by
 refine⟨fun x hx=>?_,fun x hx j hj=>?_,fun i j hij hj=>?_⟩
 ·rcases cj.mp hx with h|h
  ·exact t.ok x h
  ·rw[aL.mp h];exact hw
 ·rcases cj.mp hx with h|h
  ·exact t.zero x h j (by omega)
  ·rw[aL.mp h,e,if_neg (by omega)];exact t.zero v hv j (by omega)
 ·by_cases h1:f+m<=j
  ·refine⟨0,1,.inl rfl,.inr rfl,fun x hx ⟨_,h⟩=>?_⟩
   rcases cj.mp hx with hx|hx
   ·rw[t.zero x hx j (by omega)]at h;cases h
   ·rw[aL.mp hx,e,if_neg (by omega),t.zero v hv j (by omega)]at h;cases h
  ·by_cases h2:j<f
   ·obtain⟨a,b,ha,hb,k⟩:=t.mis i j hij hj
    refine⟨a,b,ha,hb,fun x hx=>?_⟩;rcases cj.mp hx with hx|hx
    ·exact k x hx
    ·rw[aL.mp hx,e,e,if_neg (by omega),if_neg (by omega)];exact k v hv
   ·have hwi:=hw.at i
    refine⟨1-w.getD i 0,1,by omega,.inr rfl,fun x hx ⟨h3,h4⟩=>?_⟩;rcases cj.mp hx with hx|hx
    ·rw[t.zero x hx j (by omega)]at h4;cases h4
    ·rw[aL.mp hx]at h3;omega
noncomputable def msk(n:Nat)(os bs:List Int)(v:List Int):List Int:=(aq n).map fun i=>(v.getD (os.getD i 0).toNat 0+bs.getD i 0)%2
theorem FF{n:Nat}{os bs v:List Int}{i:Nat}(h:i<n):(msk n os bs v).getD i 0=(v.getD (os.getD i 0).toNat 0+bs.getD i 0)%2:=by
 unfold msk;rw[ah,aA,bR h];rfl
theorem msk_ok{n:Nat}{os bs v:List Int}:Ok n (msk n os bs v):=⟨by simp[msk],fun x hx=>by
 obtain⟨i,_,rfl⟩:=aO.mp hx;omega⟩
theorem msk_mis{n:Nat}{os bs:List Int}{vs:List (List Int)}(ok:∀v∈vs,Ok n v)(ho:∀x∈os,0<=x/\x<n)(hb:∀x∈bs,x=0\/x=1)(hol:os.length=n)(mis:∀i j,i<j->j<n->Mis vs i j)(i j:Nat)(hij:i<j)(hj:j<n):Mis (vs.map (msk n os bs)) i j:=by
 have bb:∀k,bs.getD k 0=0\/bs.getD k 0=1:=fun k=>Ok.at (n:=bs.length) ⟨rfl,hb⟩ k;have oo:∀k,k<n->(os.getD k 0).toNat<n:=fun k hk=>by
  have :os.getD k 0∈os:=by rw[ah,af (by omega)];exact bO _
  have :=ho _ this
  omega
 have hi:=bb i;have hjb:=bb j;have fin:∀a b:Int,(a=0\/a=1)->(b=0\/b=1)->(∀v∈vs,¬(v.getD (os.getD i 0).toNat 0=a/\v.getD (os.getD j 0).toNat 0=b))->Mis (vs.map (msk n os bs)) i j:=fun a b ha hb k=>by
  refine⟨(a+bs.getD i 0)%2,(b+bs.getD j 0)%2,by omega,by omega,fun w hw ⟨h1,h2⟩=>?_⟩;obtain⟨v,hv,rfl⟩:=aO.mp hw;rw[FF (by omega)]at h1;rw[FF hj]at h2;have c1:=(ok v hv).at (os.getD i 0).toNat;have c2:=(ok v hv).at (os.getD j 0).toNat;exact k v hv ⟨by omega,by omega⟩
 have hp:=oo i (by omega);have hq:=oo j hj;by_cases h1:(os.getD i 0).toNat<(os.getD j 0).toNat
 ·obtain⟨a,b,ha,hb,k⟩:=mis _ _ h1 hq
  exact fin a b ha hb k
 ·by_cases h2:(os.getD j 0).toNat<(os.getD i 0).toNat
  ·obtain⟨a,b,ha,hb,k⟩:=(mis _ _ h2 hp).flip
   exact fin a b ha hb k
  ·have e:(os.getD i 0).toNat=(os.getD j 0).toNat:=by omega
   exact fin 0 1 (.inl rfl) (.inr rfl) fun v hv ⟨h3,h4⟩=>by
    rw[e,h4]at h3;cases h3
end M6
namespace K83
open PySem PySem.Spec PyProof.Rows L2 R Cp Lt Kc K84 Lm
theorem mS{α β:Type}{F:α->β->Prop}{l:List α}{m:List β}(p:Paired F l m):l.length=m.length:=by
 induction p with
 |nil=>rfl
 |cons _ _ ih=>rw[ba,ba,ih]
theorem uj{α β:Type}{F:α->β->Prop}{l:List α}{m:List β}(p:Paired F l m):∀{i:Nat}{a:α},l[i]? =some a->∃b,m[i]? =some b/\F a b:=by
 induction p with
 |nil=>intro i a h;cases h
 |cons h _ ih=>
  intro i a e;cases i with
  |zero=>cases e;exact⟨_,rfl,h⟩
  |succ i=>exact ih e
theorem nO{H H':Hp}(s:aP H H'){ys:List V}{ps:List (List Int)}(h:_root_.Q.IntKeys H ys ps):_root_.Q.IntKeys H' ys ps:=Paired.qg h fun v k ⟨a,e1,e2⟩=>⟨a,e1,s _ _ e2⟩
theorem E7{H:Hp}{l:Addr}{xs xs' ys:List V}{ps:List (List Int)}(h:_root_.Q.IntKeys H ys ps)(e:H l=some (.lst xs)):_root_.Q.IntKeys (upd H l (.lst xs')) ys ps:=Paired.qg h fun v k ⟨a,e1,e2⟩=>⟨a,e1,by rw[aY (fun z=>by rw[z,e]at e2;cases e2)];exact e2⟩
theorem qo{ws:List V}{n:Nat}{g:Nat->V}(hl:ws.length=n)(h:∀(i:Nat) v,ws[i]? =some v->v=g i):ws=(aq n).map g:=by
 apply gh
 intro i;cases e:ws[i]? with
 |none=>rw[aA,bN (by rw[bI];have :=zg.mp e;omega)];rfl
 |some v=>
  have :=(aF.mp e).1
  rw[aA,bR (by omega),h i v e];rfl
theorem sJ{v:List Int}{i:Nat}(h:i<v.length):(v.map V.int)[i]? =some (.int (v.getD i 0)):=by
 rw[aA,ah,af h];rfl
section
variable {G:Gam}{K:ae}
noncomputable def spGr(K:ae):Sp:=fun vs H Q _=>∃(a:Addr)(ns:List Int)(n:Nat),vs=[.ref a,.int 2,.int 17,.int n]/\SqL K H a (ns.map V.int)/\ns.length<=63/\n<=12/\
 ∀(H':Hp)(l:Addr)(ys:List V)(us:List (List Int))(f:Nat),aP H H'->H l=none->H' l=some (.lst ys)->us≠[]->us.length<=16->_root_.Q.IntKeys H' ys us->M6.Tre n f us->Q (.ref l) H'
theorem wp_gr(g1:G.fn "_law_drawn" 2=some (vA K,[])):Sat G K (spGr K) p5 pM:=by
 rintro vs H Q E ⟨a,ns,n,rfl,ha,h63,h8,q⟩;unfold p5;change wpB G K _ _ _ [some (.ref a),some (.int 2),some (.int 17),some (.int n),none,none,none,none,none,none,none] H;walk_at "wp";refine⟨short (by simp),fun p hp=>.inr (.inl ?_)⟩;generalize hX:upd H p _=H1;obtain⟨s1,ep⟩:=Am hX hp;clear hX;refine⟨p,n,_,rfl,rfl,ep,by omega,by omega,short (by simp;omega),fun p2 hp2=>?_⟩;have er:∀n:Nat,(aT n [V.int 0]).flatten=(aT n (0:Int)).map V.int:=fun n=>by
  induction n with
  |zero=>rfl
  |succ n ih=>rw[dH,iB,ih,dH];rfl
 have s2:aP H1 (upd H1 p2 (.lst ((aT n (0:Int)).map V.int))):=aK hp2;show rBf K .tuple [.ref p2] (upd H1 p2 (.lst (aT n [V.int 0]).flatten)) _;rw[er];refine⟨p2,_,rfl,.inl ⟨SqL.of az,fun r hr=>⟨short (by simp),fun l hl=>?_⟩⟩⟩;generalize upd H1 p2 (.lst ((aT n (0:Int)).map V.int))=H2 at s2 hr hl⊢;have s3:aP H2 (upd H2 r (.tup ((aT n (0:Int)).map V.int))):=aK hr;have e3:upd H2 r (.tup ((aT n (0:Int)).map V.int)) r=_:=az;generalize upd H2 r (.tup ((aT n (0:Int)).map V.int))=H3 at s3 e3 hl⊢;have s03:aP H H3:=s1.trans (s2.trans s3);have fl:H l=none:=s03.free hl;have s4:aP H3 (upd H3 l (.lst [V.ref r])):=aK hl;have el:upd H3 l (.lst [V.ref r]) l=some (.lst [V.ref r]):=az;have nd0:_root_.Q.IntKeys (upd H3 l (.lst [V.ref r])) [V.ref r] [aT n 0]:=.cons ⟨r,rfl,s4 _ _ e3⟩ .nil;generalize upd H3 l (.lst [V.ref r])=H4 at s4 el nd0⊢;unfold mL;walk_at "wp";unfold mK;walk_at "wp";refine iJ ?_;walk_at "wp";refine .inl ⟨a,_,rfl,.inl ((s03.trans s4).seq ha),?_⟩;rw[ao];refine⟨_,_,rfl,?_⟩;obtain⟨M,hM,hM1,hM2⟩:∃M:Nat,(if(17:Int)<(ns.length:Int)then(17:Int)else(ns.length:Int))=(M:Int)/\M<=17/\M<=ns.length:=by
  by_cases h:(17:Int)<(ns.length:Int)
  ·exact⟨17,by rw[if_pos h];rfl,by omega,by omega⟩
  ·exact⟨ns.length,by rw[if_neg h],by omega,by omega⟩
 rw[hM];refine⟨2,M,rfl,⟨by decide,by decide,by omega,by omega⟩,?_⟩;refine gX dI (fun k σ H'=>aP H H'/\∃(ys:List V)(us:List (List Int))(f:Nat),H' l=some (.lst ys)/\us≠[]/\us.length<=k+1/\_root_.Q.IntKeys H' ys us/\M6.Tre n f us/\∃u v w x y,σ=[some (.ref a),some (.int 2),some (.int 17),some (.int n),some (.ref l),some (.int f),u,v,w,x,y])
  ⟨s03.trans s4,[.ref r],[aT n 0],0,el,by simp,by simp,nd0,M6.start n,none,none,none,none,none,rfl⟩ (fun _ _ _ _ _=>trivial) ?_ ?_
 ·rintro k z σ H5 H6 D2 hk ⟨s5,ys,us,f,e1,e2,e4,e5,tr,u,v,w,x,y,rfl⟩ rfl s6 hD _
  have hkM:2+k<M:=by omega
  have e1:=s6 _ _ e1;have e5:=nO s6 e5;have s7:=s5.trans s6;walk_at "wp";have ek:(2:Int)+(k:Int)=((2+k:Nat):Int):=by omega
  rw[ek];refine⟨_,_,g1,a,ns,2+k,rfl,s7.seq ha,by omega,by omega,fun d hd=>?_⟩;have hul:0<us.length:=jl.mpr e2;have hyu:=mS e5;unfold kL;walk_at "wp";refine .inl ⟨l,ys,rfl,.inl (SqL.of e1),?_⟩;walk_at "wp";have i0:0<=d%(ys.length:Int):=eA _ (by omega);have i1:d%(ys.length:Int)<ys.length:=fQ _ (by omega);obtain⟨j,hj⟩:=fC i0;rw[hj]at i1⊢;have hjl:j<ys.length:=by omega
  obtain⟨zs,hzs,r',ez,k1⟩:=uj e5 (af hjl);have hgz:ys[j]? =some (.ref r'):=by rw[af hjl,ez]
  have hzm:zs∈us:=aR hzs;have hzo:=tr.ok zs hzm;refine⟨by omega,.inl ⟨l,ys,j,_,rfl,rfl,SqL.of e1,cH hgz,?_⟩⟩;unfold kK;walk_at "wp";refine⟨short (by simp),fun p3 hp3=>?_⟩;generalize hX:upd H6 p3 _=H7;obtain⟨s8,e8⟩:=Am hX hp3;clear hX;have m0:0<=d/64%5:=eA _ (by decide);have m1:d/64%5<5:=fQ _ (by decide);obtain⟨g,hg⟩:=fC m0;obtain⟨mm,hmm⟩:∃mm:Nat,[V.int 1,V.int 1,V.int 2,V.int 0,V.int 3][g]? =some (.int mm):=by
   have :g<5:=by omega
   match g,this with
   | 0,_=>exact⟨1,rfl⟩
   | 1,_=>exact⟨1,rfl⟩
   | 2,_=>exact⟨2,rfl⟩
   | 3,_=>exact⟨0,rfl⟩
   | 4,_=>exact⟨3,rfl⟩
  rw[hg];refine⟨⟨by decide,by decide⟩,by decide,.inl ⟨p3,_,g,_,rfl,rfl,SqL.of e8,cH hmm,?_⟩⟩;have e1:=s8 _ _ e1;have e5:=nO s8 e5;have s9:=s7.trans s8;have app:∀{H8:Hp}{r2:Addr}{zs2:List Int}{f2:Nat}{x2:Option V},aP H7 H8->H8 r2=some (.tup (zs2.map V.int))->M6.Tre n f2 (us++[zs2])->wpB G K (fun _=>E) iK D2 [some (.ref a),some (.int 2),some (.int 17),some (.int n),some (.ref l),some (.int f2),some (.int ((2+k:Nat):Int)),some (.int d),some (.ref r2),some (.int mm),x2] H8:=fun{H8 r2 zs2 f2 x2} s10 er2 tr2=>by
   unfold iK;walk_at "wp";have e1:=s10 _ _ e1;refine⟨.inl ⟨rfl,_,SqL.of e1⟩,l,ys,_,rfl,rfl,e1,dX (by omega:ys.length<=40) (by decide),?_⟩;refine hD _ _ ⟨iD (s9.trans s10) fl,ys++[.ref r2],us++[zs2],f2,az,by simp,by simp;omega,K32.Paired.snoc ⟨r2,rfl,?_⟩ (E7 (nO s10 e5) e1),tr2,_,_,_,_,_,rfl⟩;rw[aY (fun z=>by rw[z,e1]at er2;cases er2)];exact er2
  unfold kJ;walk_at "wp";by_cases hle:(f:Int)+mm<=(n:Int)
  ·rw[if_pos (decide_eq_true hle)]
   refine dF ?_;walk_at "wp";refine⟨(n:Int),rfl,by omega,by omega,?_⟩;refine dP dI (short (by omega)) (fun _ _=>trivial) (fun i v _=>v=.int (if f<=i/\i<f+mm then 1 else 0)) (fun _ _ _ _ _ h=>h) (fun τ=>∃t,τ=[t,some (.int f),some (.int mm)]) ⟨none,rfl⟩ ?_ ?_
   ·rintro i y τ H8 R hi ⟨t,rfl⟩ s10 rfl kk
    walk_at "wp"
    simp only[eE];by_cases c1:(f:Int)<=(i:Int)
    ·rw[if_pos (decide_eq_true c1)]
     refine .inr ⟨_,rfl,kk _ _ _ ⟨_,rfl⟩ (aP.refl _) ?_⟩;by_cases c2:(i:Int)<(f:Int)+mm
     ·rw[if_pos (decide_eq_true c2),if_pos (by omega)]
     ·rw[if_neg (by simpa using c2),if_neg (by omega)]
    ·rw[if_neg (by simpa using c1)]
     refine .inr ⟨_,rfl,kk _ _ _ ⟨_,rfl⟩ (aP.refl _) ?_⟩;rw[if_neg (by simp),if_neg (by omega)]
   ·intro vs H8 b hvl hF s10 hb
    have hvs:=qo (by simpa using hvl) hF;obtain⟨bs,hbs,hb0⟩:∃bs:List Int,vs=bs.map V.int/\bs=(aq n).map fun i=>if f<=i/\i<f+mm then(1:Int)else 0:=⟨_,by rw[hvs,b9];rfl,rfl⟩
    subst hbs;have hbl:bs.length=n:=by rw[hb0];simp
    have hbg:∀i,i<n->bs.getD i 0=if f<=i/\i<f+mm then 1 else 0:=fun i hi=>by rw[hb0,ah,aA,bR hi];rfl
    have s11:aP H7 (upd H8 b (.lst (bs.map V.int))):=s10.trans (aK hb);have eb:upd H8 b (.lst (bs.map V.int)) b=some (.lst (bs.map V.int)):=az;generalize upd H8 b (.lst (bs.map V.int))=H9 at s11 eb⊢;unfold jw;walk_at "wp";refine dF ?_;walk_at "wp";refine⟨(n:Int),rfl,by omega,by omega,?_⟩;refine dP dI (short (by omega)) (fun _ _=>trivial) (fun i v _=>v=.int ((zs.getD i 0+bs.getD i 0)%2)) (fun _ _ _ _ _ h=>h) (fun τ=>∃t,τ=[t,some (.ref r'),some (.ref b)]) ⟨none,rfl⟩ ?_ ?_
    ·rintro i y τ H10 R hi ⟨t,rfl⟩ s12 rfl kk
     have hin:i<n:=by omega
     walk_at "wp"
     simp only[eE];refine .inr (.inl ⟨r',_,i,_,rfl,rfl,SqT.of (s12 _ _ (s11 _ _ (s8 _ _ k1))),cH (sJ (by rw[hzo.1];exact hin)),?_⟩);refine .inl ⟨b,_,i,_,rfl,rfl,SqL.of (s12 _ _ eb),cH (sJ (by rw[hbl];exact hin)),?_⟩;walk_at "wp";exact⟨by decide,kk _ _ _ ⟨_,rfl⟩ (aP.refl _) rfl⟩
    ·intro ws H10 b2 hwl hF2 s12 hb2
     have hws:=qo (by simpa using hwl) hF2;obtain⟨w,hw,hw0⟩:∃w:List Int,ws=w.map V.int/\w=(aq n).map fun i=>(zs.getD i 0+bs.getD i 0)%2:=⟨_,by rw[hws,b9];rfl,rfl⟩;subst hw;have hwo:M6.Ok n w:=⟨by rw[hw0];simp,fun x hx=>by
      rw[hw0]at hx;obtain⟨i,_,rfl⟩:=aO.mp hx;omega⟩
     refine⟨b2,_,rfl,.inl ⟨SqL.of az,fun r2 hr2=>?_⟩⟩;unfold jv;walk_at "wp";rw[show(f:Int)+(mm:Int)=((f+mm:Nat):Int)from by omega];refine app (s11.trans (s12.trans ((aK hb2).trans (aK hr2)))) az (tr.turn hzm hwo fun j=>?_);by_cases hjn:j<n
     ·rw[hw0,ah,aA,bR hjn]
      show(zs.getD j 0+bs.getD j 0)%2=_;rw[hbg j hjn];have h01:=hzo.at j;by_cases hc:f<=j/\j<f+mm
      ·rw[if_pos hc,if_pos hc,tr.zero zs hzm j hc.1];rfl
      ·rw[if_neg hc,if_neg hc];omega
     ·rw[if_neg (by omega),ah,ah,bN (by rw[hwo.1];omega),bN (by rw[hzo.1];omega)]
  ·rw[if_neg (by simpa using hle)]
   exact app (aP.refl _) (s8 _ _ k1) (tr.again hzm)
 ·rintro σ H5 ⟨s5,ys,us,f,e1,e2,e4,e5,tr,u,v,w,x,y,rfl⟩
  unfold mJ;walk_at "wp";exact q H5 l ys us f s5 fl e1 e2 (by omega) e5 tr
noncomputable def zP:Sp:=fun vs H Q _=>∃(l:Addr)(ys:List V)(us:List (List Int))(n:Nat)(m:Int)(x:V),vs=[.ref l,.int m,x]/\H l=some (.lst ys)/\_root_.Q.IntKeys H ys us/\us≠[]/\us.length<=16/\(∀v∈us,M6.Ok n v)/\n<=12/\0<=m/\(x=.non\/∃r:Int,0<=r/\x=.int r)/\
 ∀(H':Hp)(p:Addr)(zs:List V)(os bs:List Int),aP H H'->H p=none->H' p=some (.lst zs)->Ord n os->Bts n bs->_root_.Q.IntKeys H' zs (us.map (M6.msk n os bs))->Q (.ref p) H'
theorem wp_mask(g1:G.fn "_law_shape" 3=some (vx,[])):Sat G K zP r8 rC:=by
 rintro vs H Q E ⟨l,ys,us,n,m,x,rfl,el,nd,hu,hul,hok,h8,hm,hx,q⟩;unfold r8;change wpB G K _ _ _ [some (.ref l),some (.int m),some x,none,none,none,none] H;walk_at "wp";have hyu:=mS nd;have hl0:0<ys.length:=by rw[hyu];exact jl.mpr hu
 obtain⟨zs0,hz0,r0,ez,k1⟩:=uj nd (af hl0);have hg0:ys[0]? =some (.ref r0):=by rw[af hl0,ez]
 refine⟨_,_,g1,.inl ⟨l,ys,0,_,rfl,rfl,SqL.of el,cH (j:=0) hg0,.inl ⟨r0,_,rfl,.inr (SqT.of k1),?_⟩⟩⟩;rw[ao,(hok zs0 (aR hz0)).1];refine⟨n,m,x,rfl,h8,hm,hx,fun H1 p o b os bs s1 ep eo eb ho hb=>?_⟩;refine⟨p,_,rfl,SqT.of ep,rfl,_,_,rfl,_,_,rfl,rfl,?_⟩;refine⟨short (by simp),fun f hf=>?_⟩;have s2:aP H1 (upd H1 f (.lst [])):=aK hf;have ef:upd H1 f (.lst []) f=some (.lst []):=az;have ff:H f=none:=s1.free hf;generalize upd H1 f (.lst [])=H2 at s2 ef⊢;have fin:∀{H3:Hp},aP H1 H3->SqL K H3 l ys:=fun s=>s.seq (s1.seq (SqL.of el));refine iJ (cI rfl (fin s2) ?_);refine gX (d8 (xs:=ys)) (fun k σ H'=>aP H1 H'/\∃(ws:List V),H' f=some (.lst ws)/\_root_.Q.IntKeys H' ws ((us.take k).map (M6.msk n os bs))/\∃u,σ=[some (.ref l),some (.int m),some x,some (.ref o),some (.ref b),some (.ref f),u])
  ⟨s2,[],ef,.nil,none,rfl⟩ (fun _ _ _ _ h=>fin h.1) ?_ ?_
 ·rintro k y σ H3 H4 D2 hk ⟨s3,ws,e1,e3,u,rfl⟩ hyk s4 hD _
  have e1:=s4 _ _ e1;have e3:=nO s4 e3;have s5:=s3.trans s4;obtain⟨v,hvk,r,rfl,k1⟩:=uj nd hyk;have hv:=hok v (aR hvk);have k1:=s5 _ _ (s1 _ _ k1);walk_at "wp";refine⟨.inl ⟨rfl,_,SqL.of e1⟩,dF ?_⟩;walk_at "wp";refine .inl ⟨r,_,rfl,.inr (SqT.of k1),?_⟩;rw[ao,hv.1];refine⟨(n:Int),rfl,by omega,by omega,?_⟩;refine dP dI (short (by omega)) (fun _ _=>trivial) (fun i w _=>w=.int ((v.getD (os.getD i 0).toNat 0+bs.getD i 0)%2)) (fun _ _ _ _ _ h=>h) (fun τ=>∃t,τ=[t,some (.ref r),some (.ref b),some (.ref o)]) ⟨none,rfl⟩ ?_ ?_
  ·rintro i y τ H5 R hi ⟨t,rfl⟩ s6 rfl kk
   have hin:i<n:=by omega
   have s7:=s5.trans s6;walk_at "wp";simp only[eE];have hoi:i<os.length:=by rw[ho.1];exact hin
   have hbi:i<bs.length:=by rw[hb.1];exact hin
   refine .inl ⟨o,_,i,_,rfl,rfl,SqL.of (s7 _ _ eo),cH (sJ hoi),?_⟩;have hoz:0<=os.getD i 0/\os.getD i 0<n:=ho.2 _ (by rw[ah,af hoi];exact bO hoi);obtain⟨z,hz⟩:=fC hoz.1;rw[hz];refine .inr (.inl ⟨r,_,z,_,rfl,rfl,SqT.of (s6 _ _ k1),cH (sJ (by rw[hv.1];omega)),?_⟩);refine .inl ⟨b,_,i,_,rfl,rfl,SqL.of (s7 _ _ eb),cH (sJ hbi),?_⟩;walk_at "wp";exact⟨by decide,kk _ _ _ ⟨_,rfl⟩ (aP.refl _) (by rw[hz];rfl)⟩
  ·intro vs H5 b2 hvl hF s6 hb2
   refine⟨b2,_,rfl,.inl ⟨SqL.of az,fun r2 hr2=>?_⟩⟩;have hvs:=qo (by simpa using hvl) hF;have ev:vs=(M6.msk n os bs v).map V.int:=by rw[hvs];unfold M6.msk;rw[b9];rfl
   subst ev;have s7:aP H4 (upd (upd H5 b2 (.lst ((M6.msk n os bs v).map V.int))) r2 (.tup ((M6.msk n os bs v).map V.int))):=s6.trans ((aK hb2).trans (aK hr2));have er2:upd (upd H5 b2 (.lst ((M6.msk n os bs v).map V.int))) r2 (.tup ((M6.msk n os bs v).map V.int)) r2=_:=az;generalize upd (upd H5 b2 (.lst ((M6.msk n os bs v).map V.int))) r2 (.tup ((M6.msk n os bs v).map V.int))=H6 at s7 er2⊢;have e1:=s7 _ _ e1;have hwl:=mS e3;refine⟨f,ws,_,rfl,rfl,e1,dX (by rw[hwl,ao,cJ];omega:ws.length<=40) (by decide),?_⟩;refine hD _ _ ⟨iD (s5.trans s7) hf,ws++[.ref r2],az,?_,_,rfl⟩;rw[dj,hvk,du];refine K32.Paired.snoc ⟨r2,rfl,?_⟩ (E7 (nO s7 e3) e1);rw[aY (fun z=>by rw[z,e1]at er2;cases er2)];exact er2
 ·rintro σ H3 ⟨s3,ws,e1,e3,u,rfl⟩
  walk_at "wp"
  rw[hyu,dv]at e3;exact q H3 f ws os bs (s1.trans s3) ff e1 ho hb e3
end
end K83
namespace K83
open PySem R
noncomputable def rm:List Str:=["table"]
noncomputable def lr:List Str:=["table","found"]
noncomputable def lE:CB:=
  (.cons (.asg (.name 1) (.call "clash" (.cons (.var 0) .nil)))
  (.cons (.iff (.cmp .IsNot (.var 1) (.con .none)) .hole .nil)
  .nil))
noncomputable def Ag:List Str:=["self","name","readings"]
noncomputable def rG:List Str:=["self","name","readings","behind"]
noncomputable def ou:CB:=
  (.cons (.fldI (.var 0) "copies" (.var 3))
  .nil)
noncomputable def ow:CB:=
  (.cons (.expr (.call "refuse_clash" (.cons (.var 3) .nil)))
  ou)
noncomputable def oy:CB:=
  (.cons (.asg (.name 3) (.call "with_copy" (.cons (.fldI (.var 0) "copies") (.cons (.var 1) (.cons (.var 2) .nil)))))
  ow)
noncomputable def oz:CB:=
  (.cons (.iff (.not (.call "are_readings" (.cons (.var 2) .nil))) .hole .nil)
  oy)
noncomputable def sG:CB:=
  (.cons (.iff (.not (.call "is_name" (.cons (.var 1) .nil))) .hole .nil)
  oz)
end K83
namespace K83
open PySem PySem.Spec PyProof.Rows L2 R Cp Lt Lm K02 K11 K12 K82
theorem vF{ps:List (List Int)}(nd:ps.Nodup):(_root_.Q.dM [] ps ps).Pairwise fun a b=>_root_.Q.llt a b=true:=by
 unfold _root_.Q.dM _root_.Q.CA;split
 ·rename_i h
  rw[_root_.Q.range_getD]
  match ps,h with
  | [],_=>exact .nil
  | [x],_=>simp
  |_::_::_,h=>simp at h;omega
 ·rename_i h
  obtain⟨P,U,_⟩:=_root_.Q.fv (_root_.Q.Ej nd) (by omega:1<=ps.length);rw[gO];intro i j hi hj hij;have hj':j<ps.length:=by simpa[P.size]using hj
  have u:=U i j hij hj';rw[cB,cB];have e:∀(k:Nat)(hk:k<(_root_.Q.run (_root_.Q.ltL ps) (kC ps.length)).toList.length),(_root_.Q.run (_root_.Q.ltL ps) (kC ps.length)).toList[k]=_root_.Q.at' (_root_.Q.run (_root_.Q.ltL ps) (kC ps.length)) k:=fun k hk=>by
   have hk':k<(_root_.Q.run (_root_.Q.ltL ps) (kC ps.length)).size:=by simpa using hk
   simp[_root_.Q.at',hk']
  rw[e,e];exact u
theorem Bi{ps:List (List Int)}(nd:ps.Nodup){i:Nat}(h:i∈_root_.Q.CA ps):i<ps.length:=aQ.mp ((_root_.Q.lP nd).mem_iff.mp h)
theorem qV{α:Type}(d:α){ps:List (List Int)}{ys:List α}(nd:ps.Nodup)(hl:ps.length=ys.length):(_root_.Q.dM d ps ys).Perm ys:=by
 unfold _root_.Q.dM;have h:=(_root_.Q.lP nd).map fun i=>ys.getD i d;rw[hl,_root_.Q.range_getD]at h;exact h
theorem llt_no{a b:List Int}(h:_root_.Q.llt a b=true)(k:_root_.Q.llt b a=true):a=b:=by
 have c:=_root_.Q.o5 h k;have :∀x:List Int,_root_.Q.llt x x=false:=fun x=>by
  induction x with
  |nil=>rfl
  |cons a x ih=>simp[_root_.Q.llt,ih]
 rw[this]at c;cases c
theorem Cc{α:Type}(d:α)(F:α->List Int){ys:List α}(nd:(ys.map F).Nodup):(_root_.Q.dM d (ys.map F) ys).map F=_root_.Q.dM [] (ys.map F) (ys.map F):=by
 unfold _root_.Q.dM;rw[b9];refine cL fun i hi=>?_;have :=Bi nd hi;rw[ao]at this;show F (ys.getD i d)=_;rw[ah,ah,aA,af this];rfl
theorem ue{α:Type}(d:α)(F:α->List Int){ys zs:List α}(nd:(ys.map F).Nodup)(p:ys.Perm zs):_root_.Q.dM d (ys.map F) ys=_root_.Q.dM d (zs.map F) zs:=by
 have nd2:=(p.map F).nodup_iff.mp nd;have pw:∀{ys:List α},(ys.map F).Nodup->(_root_.Q.dM d (ys.map F) ys).Pairwise fun a b=>_root_.Q.llt (F a) (F b)=true:=fun{ys} nd=>by
  have h:=vF nd;rw[<-Cc d F nd]at h;exact gf.mp h
 have p1:=qV d (ys:=ys) nd (by simp);have p2:=qV d (ys:=zs) nd2 (by simp);refine tT (fun a b ha hb h k=>?_) (pw nd) (pw nd2) (p1.trans (p.trans p2.symm));have e:=llt_no h k;have ha':=p1.mem_iff.mp ha;have hb':=p.mem_iff.mpr (p2.mem_iff.mp hb);obtain⟨i,hi,rfl⟩:=cR.mp ha';obtain⟨j,hj,rfl⟩:=cR.mp hb';have :(ys.map F)[i]'(by simpa using hi)=(ys.map F)[j]'(by simpa using hj):=by rw[cB,cB];exact e
 have :=(cW nd).mp this
 subst this;rfl
theorem Bd{α:Type}{F:V->α->Prop}{ps:List (List Int)}{ys:List V}{ks:List α}{d:α}(nd:ps.Nodup)(hl:ps.length=ys.length)(p:Paired F ys ks):Paired F (_root_.Q.dM .non ps ys) (_root_.Q.dM d ps ks):=by
 unfold _root_.Q.dM;have key:∀{is:List Nat},(∀i∈is,i<ys.length)->Paired F (is.map fun i=>ys.getD i .non) (is.map fun i=>ks.getD i d):=fun{is} h=>by
  induction is with
  |nil=>exact .nil
  |cons i is ih=>
   have hi:=h i aG;obtain⟨b,e,f⟩:=uj p (af hi);refine .cons ?_ (ih fun j hj=>h j (aM _ hj));show F (ys.getD i .non) (ks.getD i d);rw[ah,ah,af hi,e];exact f
 exact key fun i hi=>by rw[<-hl];exact Bi nd hi
noncomputable def GrQ(rows:List (List Int))(n:Nat)(qs:List Int):Prop:=M5.Grs n (K32.grp rows) qs/\0∉qs/\∀p,p<n->K32.grp rows p≠0->(K32.grp rows p:Int)∈qs
theorem GrQ.perm{rows:List (List Int)}{n:Nat}{qs ps:List Int}(a:GrQ rows n qs)(b:GrQ rows n ps):qs.Perm ps:=by
 have s:∀{qs ps:List Int},GrQ rows n qs->GrQ rows n ps->∀x∈qs,x∈ps:=fun{qs ps} a b x hx=>by
  obtain⟨p,hp,rfl⟩:=a.1.2 x hx;exact b.2.2 p hp fun z=>a.2.1 (by rw[z]at hx;exact hx)
 exact K84.vU a.1.1 b.1.1 fun x=>⟨s a b x,s b a x⟩
noncomputable def nd1(k:List Int):L2.D:=.tup (k.map .int)
noncomputable def brF(rows:List (List Int))(n:Nat)(q:Int):List Int:=_root_.Q.kU (M4.lo (M5.nA (K32.fr rows) n (K32.grp rows) q) (M5.nB (K32.fr rows) n (K32.grp rows) q),M4.hi (M5.nA (K32.fr rows) n (K32.grp rows) q) (M5.nB (K32.fr rows) n (K32.grp rows) q))
noncomputable def br1(rows:List (List Int))(n:Nat)(q:Int):L2.D:=.tup [nd1 (M4.lo (M5.nA (K32.fr rows) n (K32.grp rows) q) (M5.nB (K32.fr rows) n (K32.grp rows) q)),nd1 (M4.hi (M5.nA (K32.fr rows) n (K32.grp rows) q) (M5.nB (K32.fr rows) n (K32.grp rows) q)),nd1 (M5.plc n (M5.own (K32.grp rows) q.toNat))]
noncomputable def gD(rows:List (List Int))(n:Nat)(qs:List Int):L2.D:=
 .tup [.lst ((_root_.Q.dM [] (M5.fw (K32.fr rows) n (K32.grp rows) qs) (M5.fw (K32.fr rows) n (K32.grp rows) qs)).map nd1),.lst ((_root_.Q.dM 0 (qs.map (brF rows n)) qs).map (br1 rows n))]
noncomputable def qs0(rows:List (List Int))(n:Nat):List Int:=Classical.epsilon (GrQ rows n)
theorem A3{K:ae}{H:Hp}{α:Type}{F:V->α->Prop}{g:α->L2.D}(f:∀v a,F v a->Rep K H (g a) v){ys:List V}{ks:List α}(p:Paired F ys ks):fX K H (ks.map g) ys:=by
 induction p with
 |nil=>rfl
 |cons h _ ih=>exact⟨_,_,rfl,f _ _ h,ih⟩
theorem vP{K:ae}{H:Hp}{a:Addr}{k:List Int}(h:H a=some (.tup (k.map V.int))):Rep K H (nd1 k) (.ref a):=⟨a,_,rfl,SqT.of h,fX.ints k⟩
theorem Df{K:ae}{rows:List (List Int)}{n:Nat}{H H':Hp}{p:Addr}(hf:∀p,p<n->K32.fr rows p=0\/K32.fr rows p=1)(g:K32.pB rows n H H' p):Rep K H' (gD rows n (qs0 rows n)) (.ref p):=by
 obtain⟨nl,bl,ks,bs,qs,ep,_,_,_,h1,h2,h3,ik,bk,en,eb⟩:=g;have q:GrQ rows n qs:=⟨h1,h2,h3⟩;have q0:GrQ rows n (qs0 rows n):=Classical.epsilon_spec (p:=GrQ rows n) ⟨qs,q⟩;have pm:=q.perm q0;have ndn:=M5.ye hf h1;have ndb:=M5.GS hf h1;have e1:(M5.brK (K32.fr rows) n (K32.grp rows) qs).map _root_.Q.kU=qs.map (brF rows n):=by unfold M5.brK;rw[b9];rfl
 rw[e1]at ndb eb;have s1:_root_.Q.dM [] (M5.fw (K32.fr rows) n (K32.grp rows) qs) (M5.fw (K32.fr rows) n (K32.grp rows) qs)=_root_.Q.dM [] (M5.fw (K32.fr rows) n (K32.grp rows) (qs0 rows n)) (M5.fw (K32.fr rows) n (K32.grp rows) (qs0 rows n)):=by
  have :=ue [] id (ys:=M5.fw (K32.fr rows) n (K32.grp rows) qs) (zs:=M5.fw (K32.fr rows) n (K32.grp rows) (qs0 rows n)) (by rw[ig];exact ndn) (.cons _ (pm.map _))
  rwa [ig,ig]at this
 have s2:=ue (0:Int) (brF rows n) ndb pm;refine⟨p,_,rfl,SqT.of ep,_,_,rfl,⟨nl,_,rfl,SqL.of en,?_⟩,_,_,rfl,⟨bl,_,rfl,SqL.of eb,?_⟩,rfl⟩
 ·rw[<-s1]
  exact A3 (fun v a ⟨x,e,h⟩=>by subst e;exact vP h) (Bd ndn (mS ik).symm ik)
 ·rw[<-s2]
  refine A3 (fun v q' ⟨a,x,y,z,e,e0,e1,e2,e3⟩=>?_) (Bd (d:=(0:Int)) ndb (by rw[ao];exact(mS bk).symm) bk);subst e;exact⟨a,_,rfl,SqT.of e0,_,_,rfl,vP e1,_,_,rfl,vP e2,_,_,rfl,vP e3,rfl⟩
noncomputable def tD(n:Nat)(R:List K82.Row):L2.D:=if R=[]then .tup [.lst [],.lst []]else gD (K32.rI R) n (qs0 (K32.rI R) n)
theorem Eh{K:ae}{R:List K82.Row}{n m:Nat}{H H':Hp}{p:Addr}(hr:∀l∈R,l.2.length=n/\∀y∈l.2,bG y=true)(hm:R≠[]->m=n)(t:K32.TreeK R m H H' p):Rep K H' (tD n R) (.ref p):=by
 unfold tD;rcases t with⟨h,a,b,ep,_,_,_,ea,eb⟩ |⟨h,g⟩
 ·rw[if_pos h]
  exact⟨p,_,rfl,SqT.of ep,_,_,rfl,⟨a,_,rfl,SqL.of ea,rfl⟩,_,_,rfl,⟨b,_,rfl,SqL.of eb,rfl⟩,rfl⟩
 ·rw[if_neg h]
  rw[hm h]at g;refine Df (fun q hq=>?_) g;cases R with
  |nil=>exact absurd rfl h
  |cons l R=>
   obtain⟨h1,h2⟩:=hr l aG;have :=M6.Ok.at (n:=(l.2.map K32.intOf).length) ⟨rfl,(K32.pf h2).2⟩ q;exact this
theorem wx(n:Nat)(R:List K82.Row):hgt (tD n R)<=20:=by
 have ii:∀k:List Int,hW (k.map L2.D.int)=0:=fun k=>by
  induction k with
  |nil=>rfl
  |cons a k ih=>show max 0 (hW (k.map L2.D.int))=0;rw[ih];rfl
 have nn:∀k,hgt (nd1 k)<=1:=fun k=>by show hW (k.map L2.D.int)+1<=1;rw[ii];omega
 have mm:∀{α:Type}(g:α->L2.D)(c:Nat)(l:List α),(∀a,hgt (g a)<=c)->hW (l.map g)<=c:=fun g c l h=>by
  induction l with
  |nil=>exact bf _
  |cons a l ih=>exact zf.mpr ⟨h a,ih⟩
 unfold tD;split
 ·decide
 ·have b1:∀rows m q,hgt (br1 rows m q)<=2:=fun rows m q=>by
   show max (hgt (nd1 _)) (max (hgt (nd1 _)) (max (hgt (nd1 _)) 0))+1<=2;exact Nat.succ_le_succ (zf.mpr ⟨nn _,zf.mpr ⟨nn _,zf.mpr ⟨nn _,bf _⟩⟩⟩)
  show max (hW (DY nd1 _)+1) (max (hW (DY (br1 _ _) _)+1) 0)+1<=20;have x1:=mm nd1 1 (_root_.Q.dM [] (M5.fw (K32.fr (K32.rI R)) n (K32.grp (K32.rI R)) (qs0 (K32.rI R) n)) (M5.fw (K32.fr (K32.rI R)) n (K32.grp (K32.rI R)) (qs0 (K32.rI R) n))) nn;have x2:=mm (br1 (K32.rI R) n) 2 (_root_.Q.dM 0 ((qs0 (K32.rI R) n).map (brF (K32.rI R) n)) (qs0 (K32.rI R) n)) (b1 _ _);omega
section
variable {G:Gam}{K:ae}{C CS:Addr}{T:Tb}
noncomputable def AS(T:Tb):Sp:=fun vs H Q _=>∃x,vs=[x]/\Kn4 H x/\Tab T H/\cV H x=true/\K22.NoC (K22.rowsOf H x) (count H x)/\∀H',Gr T H H'->Q .non H'
theorem wp_ref(g1:G.fn "clash" 1=some (K22.vC C T,[])):Sat G K (AS T) lE lr:=by
 rintro vs H Q E ⟨x,rfl,hk,tb,e,nc,q⟩;unfold lE;change wpB G K _ _ _ [some x,none] H;walk_at "wp";refine⟨_,_,g1,x,rfl,hk,tb,fun _ H1 v gr rs=>?_,fun z=>by rw[e]at z;cases z⟩;rcases rs with⟨rfl,hc⟩ |⟨i,j,a,l,rfl,fi,ea,el⟩
 ·rw[if_neg (by simp)]
  exact q H1 gr
 ·have :=nc i j fi.ij fi.jn
  rw[fi.four]at this;cases this
noncomputable def zM(T:Tb):Sp:=fun vs H Q _=>∃x,vs=[x]/\Kn4 H x/\Tab T H/\cV H x=true/\K22.NoC (K22.rowsOf H x) (count H x)/\∀H' p,Gr T H H'->H p=none->K32.TreeK (K22.rowsOf H x) (count H x) H H' p->Q (.ref p) H'
theorem wp_tree(g1:G.fn "table_list" 1=some (qT C T,[]))(g2:G.fn "refuse_clash" 1=some (AS T,[]))(g3:G.fn "grown" 1=some (K32.qU,[])):
  Sat G K (zM T) K32.GQ K32.FD:=by
 rintro vs H Q E ⟨x,rfl,hk,tb,e,qc,qn⟩;unfold K32.GQ;change wpB G K _ _ _ [some x,none] H;walk_at "wp";refine⟨_,_,g1,x,rfl,hk,tb,fun _ H1 l zs gr hl el cpd=>?_,fun z=>by rw[e]at z;cases z⟩;obtain⟨kn,tt,ct,rows⟩:=K22.mZ e el cpd;obtain⟨ro,_⟩:=K32.xG e el rows tt;have cps:=K32.cps_of el tt;rw[ct,rows]at cps;have hlen:zs.length=(K22.rowsOf H x).length:=by rw[<-rows,ao]
 have tb1:=gr.tab tb;generalize K22.rowsOf H x=R at qn qc ro cps hlen;generalize count H x=n at qn qc ct cps;unfold K32.yT;walk_at "wp";refine⟨_,_,g2,.ref l,rfl,kn,tb1,tt,by rw[ro,ct];exact qc,fun H2 gr2=>?_⟩;have cps:=cps.gr gr2 tb1;have tb2:=gr2.tab tb1;have fre:∀p,H2 p=none->H p=none:=fun p=>K32.gr_free (gr.trans gr2) tb2;unfold K32.yS;walk_at "wp";refine Or.inl ⟨l,zs,rfl,.inl (SqL.of cps.ec),?_⟩;refine uK.mpr ⟨_,rfl,?_⟩;by_cases hz:zs=[]
 ·have hR:R=[]:=cg.mp (by rw[<-hlen,hz];rfl)
  rw[hz,if_pos (by simp)];refine⟨short (by simp),fun a ha=>⟨short (by simp),fun b hb=>⟨short (by simp),fun p hp=>?_⟩⟩⟩;have s1:=aK (o:=.lst []) ha;have s2:=aK (o:=.lst []) hb;have s3:=aK (o:=.tup [.ref a,.ref b]) hp;refine qn _ p ((gr.trans gr2).trans (Gr.of (s1.trans (s2.trans s3)))) (fre _ ((s1.trans s2).free hp)) (.inl ⟨hR,a,b,az,fre _ ha,fre _ (s1.free hb),fun z=>?_,(s2.trans s3) _ _ az,s3 _ _ az⟩);rw[<-z,az]at hb;cases hb
 ·rw[if_neg (fun z=>hz (cg.mp (by have :=of_decide_eq_true z;omega)))]
  unfold K32.yR;walk_at "wp";refine⟨_,_,g3,l,zs,n,K32.rI R,rfl,cps,hz,fun H3 p s3 hp gk=>?_⟩;exact qn H3 p ((gr.trans gr2).trans (Gr.of s3)) (fre _ hp) (.inr ⟨fun z=>hz (cg.mp (by rw[hlen,z];rfl)),gk.old fre⟩)
structure Fit(n:Nat)(M:List K82.Row):Prop where
 gd:Good M
 ct:∀l∈M,l.2.length=n
 nc:K22.NoC M n
theorem Fit.tab{n:Nat}{M:List K82.Row}{H:Hp}{t:Addr}{ys:List V}(f:Fit n M)(tl:Tl H t ys M):Kn4 H (.ref t)/\cV H (.ref t)=true/\K22.rowsOf H (.ref t)=sL M/\K22.NoC (sL M) (count H (.ref t))/\(M≠[]->count H (.ref t)=n):=by
 obtain⟨k1,k2,_⟩:=nL tl.et tl.sh tl.gd;have hc:M≠[]->count H (.ref t)=n:=fun h=>by
  obtain⟨l,hl⟩:=List.exists_mem_of_ne_nil _ h;rw[count_is tl.et tl.sh tl.gd hl,f.ct l hl]
 refine⟨k1,k2,A2 tl.et tl.sh tl.gd,?_,hc⟩;by_cases h:M=[]
 ·subst h
  intro i j _ _;rfl
 ·rw[hc h]
  exact noC_of f.gd.nd f.nc
noncomputable def t9(K:ae)(CS:Addr)(T:Tb):Sp:=fun vs H Q _=>∃s dx t ys M n,vs=[.ref s]/\Shf H s CS dx t ys M/\Fit n M/\Tab T H/\∀H' p,Gr T H H'->Rep K H' (tD n (sL M)) (.ref p)->Q (.ref p) H'
theorem wp_trS(o:Ow K CS)(g1:G.fn "tree_trees" 1=some (zM T,[])):
  Sat G K (t9 K CS T) p9 pO:=by
 rintro vs H Q E ⟨s,dx,t,ys,M,n,rfl,sf,ft,tb,q⟩;unfold p9;change wpB G K _ _ _ [some (.ref s)] H;walk_at "wp";simp only[Ca,kR,dw,cU,exists_eq_left'];obtain⟨k1,k2,k3,k4,k5⟩:=ft.tab sf.tl;refine⟨_,_,g1,s,CS,dx,_,.ref t,rfl,sf.so,o.c,o.n,wo _,.ref t,rfl,k1,tb,k2,by rw[k3];exact k4,fun H' p gr _ tk=>q H' p gr ?_⟩;rw[k3]at tk;have pm:=sL_perm ft.gd.nd;exact Eh (fun l hl=>⟨ft.ct l (pm.mem_iff.mp hl),ft.gd.rd l (pm.mem_iff.mp hl)⟩) (fun h=>k5 fun z=>h (by rw[z]at pm⊢;exact List.perm_nil.mp pm)) tk
noncomputable def ub(CS:Addr)(T:Tb):Sp:=fun vs H Q _=>∃s dx t ys M n z r rs,vs=[.ref s,.str z,.ref r]/\Shf H s CS dx t ys M/\Tab T H/\H r=some (.tup rs)/\Fit n (M++[(z,rs)])/\
 ∀H1 t' ys',Gr T H H1->Tl H1 t' ys' (M++[(z,rs)])->H1 s=some (.ins CS dx [("copies",.ref t)])->Q .non (upd H1 s (.ins CS dx [("copies",.ref t')]))
theorem wp_put{CT:Addr}(o:Ow K CS)(g1:G.fn "is_name" 1=some (spN,[]))(g2:G.fn "are_readings" 1=some (spR,[]))(g3:G.fn "with_copy" 3=some (spWc CT C,[]))(g4:G.fn "refuse_clash" 1=some (AS T,[])):
  Sat G K (ub CS T) sG rG:=by
 rintro vs H Q E ⟨s,dx,t,ys,M,n,z,r,rs,rfl,sf,tb,hr,ft,q⟩;have hm:(z,rs)∈M++[(z,rs)]:=by simp
 have en:isName (.str z)=true:=ft.gd.nm _ hm;have hrd:=ft.gd.rd _ hm;have hl:rs.length<=60:=by obtain⟨n,hn,h⟩:=ft.gd.ct;rw[h _ hm];exact hn
 have ky:KnR H (.ref r):=⟨rM hr,fun a xs e hx=>by
  injection e with e;subst e;rw[hr]at hx;cases hx;exact⟨aI hl (by decide),fun y hy=>by rcases ed (hrd y hy)with rfl|rfl<;>exact rN⟩⟩
 have er:cq H (.ref r)=true:=by
  show(match cG (H r)with |some xs=>decide (xs.length<=60)&&xs.all bG|none=>false)=true;rw[hr];show(decide (rs.length<=60)&&rs.all bG)=true;rw[decide_eq_true hl,dD,bD];exact hrd
 unfold sG;change wpB G K _ _ _ [some (.ref s),some (.str z),some (.ref r),none] H;walk_at "wp";refine⟨_,_,g1,_,rfl,wt,(fun z' e=>by injection e with e;rw[<-e];exact aI (K91.yf (ft.gd.nm _ hm)) (by decide)),fun H1 s1=>⟨_,rfl,?_⟩⟩;rw[en,if_neg (by decide)];unfold oz;walk_at "wp";obtain⟨ky,ea⟩:=ky.same s1;refine⟨_,_,g2,_,rfl,ky.1,ky.2,fun H2 s2=>⟨_,rfl,?_⟩⟩;rw[ea,er,if_neg (by decide)];have s12:=s1.trans s2;have sf2:=sf.same s12;unfold oy;walk_at "wp";refine⟨_,_,g3,?_⟩;simp only[Ca,kR,dw,cU,exists_eq_left'];refine⟨s,CS,dx,_,.ref t,rfl,sf2.so,o.c,o.n,wo _,t,ys,M,z,r,rs,rfl,sf2.tl,⟨en,hl,hrd⟩,s12 _ _ hr,fun h=>absurd h (Gd ft.gd),fun _ h=>absurd ft.gd h,fun g H3 t' b s3 tl3=>?_⟩;have s13:=s12.trans s3;obtain⟨k1,k2,k3,k4,_⟩:=ft.tab tl3;unfold ow;walk_at "wp";refine⟨_,_,g4,.ref t',rfl,k1,(Gr.of s13).tab tb,k2,by rw[k3];exact k4,fun H4 g4=>?_⟩;unfold ou;walk_at "wp";simp only[EL,kR,dw,k9,cU,exists_eq_left'];have tb3:=(Gr.of s13).tab tb;have so4:H4 s=some (.ins CS dx [("copies",.ref t)]):=g4.at tb3 (s13 _ _ sf.so) fun _ z=>by cases z
 refine⟨s,CS,dx,_,rfl,so4,o.c,o.n,(by show 1<1000;decide),?_⟩;rw[put_c];exact q H4 t' _ ((Gr.of s13).trans g4) (tl3.gr g4 tb3) so4
end
end K83
namespace K83
open PySem R
noncomputable def xU:List Str:=["_law_many"]
noncomputable def pL:List Str:=["_law_many","_law_letters"]
noncomputable def pZ:CB:=
  (.cons (.asg (.name 1) (.con (.str "abcdefghijklmnopqrstuvwxyz")))
  (.cons (.ret (.comp ["_law_k"] [1] (.name 0) (.range1 (.var 0)) .no (.bin .Add (.bin .Add (.con (.str "k")) (.idx (.var 1) (.bin .Mod (.var 0) (.con (.int 26))))) (.idx (.var 1) (.bin .FloorDiv (.var 0) (.con (.int 26)))))))
  .nil))
noncomputable def xS:List Str:=["_law_copies","_law_order"]
noncomputable def pJ:List Str:=["_law_copies","_law_order","_law_shelf_here","_law_k"]
noncomputable def mF:CB:=
  (.cons (.ret (.var 2))
  .nil)
noncomputable def mG:CB:=
  (.cons (.forr (.name 3) (.seq (.var 1))
  (.cons (.expr (.mth (.var 2) "put" (.cons (.idx (.idx (.var 0) (.var 3)) (.con (.int 0))) (.cons (.idx (.idx (.var 0) (.var 3)) (.con (.int 1))) .nil))))
  .nil))
  mF)
noncomputable def pX:CB:=
  (.cons (.asg (.name 2) (.mak "Shelf"))
  mG)
noncomputable def p_law:List Str:=["_law_script"]
noncomputable def FE:List Str:=["_law_script","_law_form","_law_places","_law_nodes","_law_copies","_law_many","_law_order","_law_other","_law_rest_here","_law_let_go","_law_k","_law_at","_law_off","_law_shelf_here","_law_second_one","_law_due","_law_gone","_law_left"]
noncomputable def r9:CB:=
  (.cons (.ret (.and (.cmp .Eq (.mth (.var 14) "tree" .nil) (.var 15)) (.cmp .Eq (.mth (.var 13) "tree" .nil) (.var 15))))
  .nil)
noncomputable def se:CB:=
  (.cons (.forr (.name 10) (.seq (.rev (.var 16)))
  (.cons (.expr (.mth (.var 14) "put" (.cons (.idx (.idx (.var 4) (.var 10)) (.con (.int 0))) (.cons (.idx (.idx (.var 4) (.var 10)) (.con (.int 1))) .nil))))
  .nil))
  r9)
noncomputable def sg:CB:=
  (.cons (.iff (.cmp .NotEq (.mth (.var 14) "tree" .nil) (.mth (.call "_law_shelf" (.cons (.var 4) (.cons (.var 17) .nil))) "tree" .nil))
  (.cons (.ret (.con (.bool false)))
  .nil)
  .nil)
  se)
noncomputable def si:CB:=
  (.cons (.asgc 17 (.comp ["_law_k"] [16] (.name 0) (.seq (.var 6)) (.yes (.cmp .NotIn (.var 0) (.var 1))) (.var 0)))
  sg)
noncomputable def sj:CB:=
  (.cons (.forr (.name 10) (.seq (.var 16))
  (.cons (.expr (.mth (.var 14) "off" (.cons (.idx (.idx (.var 4) (.var 10)) (.con (.int 0))) .nil)))
  .nil))
  si)
noncomputable def sr:CB:=
  (.cons (.asgc 16 (.comp ["_law_k"] [9] (.name 0) (.seq (.var 7)) (.yes (.cmp .In (.var 0) (.var 1))) (.var 0)))
  sj)
noncomputable def sv:CB:=
  (.cons (.iff (.or (.cmp .NotEq (.mth (.var 14) "tree" .nil) (.var 15)) (.cmp .NotEq (.mth (.var 14) "table" .nil) (.mth (.var 13) "table" .nil)))
  (.cons (.ret (.con (.bool false)))
  .nil)
  .nil)
  sr)
noncomputable def sx:CB:=
  (.cons (.asg (.name 15) (.mth (.var 13) "tree" .nil))
  sv)
noncomputable def yU:CB:=
  (.cons (.asg (.name 14) (.call "_law_shelf" (.cons (.var 4) (.cons (.var 7) .nil))))
  sx)
noncomputable def sy:CB:=
  (.cons (.asg (.name 13) (.call "_law_shelf" (.cons (.var 4) (.cons (.var 6) .nil))))
  yU)
noncomputable def sA:CB:=
  (.cons (.iff (.var 12)
  (.cons (.expr (.meth1 .append (.var 9) (.var 10)))
  .nil)
  .nil)
  .nil)
noncomputable def sC:CB:=
  (.cons (.asg (.name 7) (.bin .Add (.bin .Add (.cut (.var 7) .no (.yes (.var 11))) (.lst (.cons (.var 10) .nil))) (.cut (.var 7) (.yes (.var 11)) .no)))
  sA)
noncomputable def m7:CB:=
  (.cons (.asg (.name 11) (.bin .Mod (.var 11) (.bin .Add (.bfn .len (.cons (.var 7) .nil)) (.con (.int 1)))))
  sC)
noncomputable def og:CB:=
  (.cons (.asg (.name 8) (.bin .FloorDiv (.var 8) (.bin .Add (.bin .Mult (.con (.int 2)) (.var 10)) (.con (.int 2)))))
  .nil)
noncomputable def oh:CB:=
  (.cons (.asg (.name 12) (.cmp .Eq (.bin .Mod (.bin .FloorDiv (.var 8) (.bin .Add (.var 10) (.con (.int 1)))) (.con (.int 2))) (.con (.int 1))))
  og)
noncomputable def m8:CB:=
  (.cons (.iff (.cmp .IsNot (.var 8) (.con .none))
  (.cons (.asg (.name 11) (.bin .Mod (.var 8) (.bin .Add (.var 10) (.con (.int 1)))))
  oh)
  .nil)
  m7)
noncomputable def m9:CB:=
  (.cons (.asg (.name 12) (.cmp .Eq (.bin .Mod (.bin .Add (.bin .Mod (.bin .FloorDiv (.var 1) (.con (.int 11))) (.con (.int 10007))) (.bin .Mult (.var 10) (.var 10))) (.con (.int 3))) (.con (.int 0))))
  m8)
noncomputable def yV:CB:=
  (.cons (.forr (.name 10) (.range1 (.var 5))
  (.cons (.asg (.name 11) (.bin .Mod (.bin .Mult (.bin .Add (.bin .Mod (.bin .FloorDiv (.var 1) (.con (.int 7))) (.con (.int 100003))) (.con (.int 1))) (.bin .Add (.bin .Mult (.var 10) (.var 10)) (.con (.int 40692)))) (.con (.int 2147483647))))
  m9))
  sy)
noncomputable def wL:CB:=
  (.cons (.asg (.name 9) (.lst .nil))
  yV)
noncomputable def BI:CB:=
  (.cons (.asg (.name 8) (.call "_law_rest" (.cons (.var 0) (.cons (.con (.int 0)) .nil))))
  wL)
noncomputable def BJ:CB:=
  (.cons (.asg (.name 7) (.lst .nil))
  BI)
noncomputable def BK:CB:=
  (.cons (.asg (.name 6) (.lrng (.var 5)))
  BJ)
noncomputable def BL:CB:=
  (.cons (.asg (.name 5) (.bfn .len (.cons (.var 4) .nil)))
  BK)
noncomputable def BN:CB:=
  (.cons (.asg (.name 4) (.lzip (.call "_law_names" (.cons (.bfn .len (.cons (.var 3) .nil)) .nil)) (.var 3)))
  BL)
noncomputable def BO:CB:=
  (.cons (.asg (.name 3) (.call "_law_mask" (.cons (.call "_law_grown" (.cons (.var 0) (.cons (.con (.int 2)) (.cons (.con (.int 17)) (.cons (.var 2) .nil))))) (.cons (.bin .Mod (.var 1) (.con (.int 10007))) (.cons (.call "_law_rest" (.cons (.var 0) (.cons (.con (.int 1)) .nil))) .nil)))))
  BN)
noncomputable def BP:CB:=
  (.cons (.asg (.name 2) (.bin .Mod (.call "_law_cell_at" (.cons (.var 0) (.cons (.con (.int 1)) .nil))) (.con (.int 13))))
  BO)
noncomputable def GR:CB:=
  (.cons (.asg (.name 1) (.call "_law_cell_at" (.cons (.var 0) (.cons (.con (.int 0)) .nil))))
  BP)
end K83
namespace K83
open PySem PySem.Spec PyProof.Rows L2 R Cp Lt Lm K02 K11 K12
open K82 (Shf Tl sL sL_perm GrX look_m spIni spOff spTb Ow)
noncomputable def nmk(k:Nat):Str:=bj "k"++(⟨#[97+k%26]⟩:Str)++(⟨#[97+k/26]⟩:Str)
theorem Bm:(((aq 16).map nmk).all eH&&decide ((aq 16).map nmk).Nodup)=true:=by decide+kernel
theorem Fz{k:Nat}(h:k<16):eH (nmk k)=true:=by
 have :=(i6.mp Bm).1
 exact bD.mp this _ (eB (aQ.mpr h))
theorem Bk{i j:Nat}(hi:i<16)(hj:j<16)(e:nmk i=nmk j):i=j:=by
 have nd:=of_decide_eq_true (i6.mp Bm).2;have :((aq 16).map nmk)[i]'(by simpa using hi)=((aq 16).map nmk)[j]'(by simpa using hj):=by simpa using e
 exact(cW nd).mp this
theorem GW{k:Nat}(h:k<26):atI (bj "abcdefghijklmnopqrstuvwxyz").cps.toList (k:Int)=some (97+k):=by
 have h2:∀j:Fin 26,atI (bj "abcdefghijklmnopqrstuvwxyz").cps.toList ((j.val:Nat):Int)=some (97+j.val):=by decide+kernel
 exact h2 ⟨k,h⟩
noncomputable def spNm:Sp:=fun vs H Q _=>∃n:Nat,vs=[.int n]/\n<=16/\∀H' l,aP H H'->H' l=some (.lst ((aq n).map fun k=>V.str (nmk k)))->Q (.ref l) H'
theorem wp_nm{G:Gam}{K:ae}:Sat G K spNm pZ pL:=by
 rintro vs H Q E ⟨n,rfl,hn,q⟩;unfold pZ;change wpB G K _ _ _ [some (.int n),none] H;walk_at "wp";refine dF ?_;walk_at "wp";refine⟨(n:Int),rfl,by omega,by omega,?_⟩;refine dP dI (short (by omega)) (fun _ _=>trivial) (fun i v _=>v=.str (nmk i)) (fun _ _ _ _ _ h=>h) (fun τ=>∃t,τ=[t,some (.str (bj "abcdefghijklmnopqrstuvwxyz"))]) ⟨none,rfl⟩ ?_ ?_
 ·rintro i y τ H3 R hi ⟨t,rfl⟩ s3 rfl k
  have hi':i<16:=by omega
  walk_at "wp"
  simp only[eE];have l1:(bj "k":Str).length=1:=by decide+kernel
  refine⟨by decide,97+i%26,by decide+kernel,by rw[show((i:Int)%26)=((i%26:Nat):Int)from by omega];exact GW (by omega),K13.sl (by rw[l1];show 1+1<=20000;decide),⟨by decide,by decide⟩,97+i/26,by decide+kernel,by rw[show((i:Int)/26)=((i/26:Nat):Int)from by omega];exact GW (by omega),K13.sl (by rw[Ar,l1];show 1+1+1<=20000;decide),k _ _ _ ⟨_,rfl⟩ (aP.refl _) rfl⟩
 ·intro vs H1 l hvl hF s1 hl
  rw[qo (by simpa using hvl) hF];exact q _ l (s1.trans (aK hl)) az
structure Fc(us:List (List Int))(n:Nat):Prop where
 len:us.length<=16
 n12:n<=12
 ok:∀u∈us,M6.Ok n u
 mis:∀i j,i<j->j<n->M6.Mis us i j
noncomputable def fK(us:List (List Int))(k:Nat):K82.Row:=(nmk k,(us.getD k []).map V.int)
noncomputable def Lx(us:List (List Int)):List K82.Row:=(aq us.length).map (fK us)
noncomputable def cn(us:List (List Int))(p:Nat->Bool):List K82.Row:=((aq us.length).filter p).map (fK us)
theorem GG{us:List (List Int)}{p q:Nat->Bool}(h:∀k,k<us.length->p k=q k):cn us p=cn us q:=by
 unfold cn;rw[qF fun k hk=>h k (aQ.mp hk)]
theorem wk{us:List (List Int)}{k:Nat}(h:k<us.length):us.getD k []∈us:=by
 rw[ah,af h];exact bO h
theorem rJ{us:List (List Int)}{p:Nat->Bool}{l:K82.Row}(h:l∈cn us p):∃k,k<us.length/\p k=true/\l=fK us k:=by
 obtain⟨k,hk,rfl⟩:=aO.mp h;have :=bF.mp hk;exact⟨k,aQ.mp this.1,this.2,rfl⟩
section
variable {us:List (List Int)}{n:Nat}(F:Fc us n){p:Nat->Bool}
include F
theorem rW:((cn us p).map (·.1)).Nodup:=by
 unfold cn;rw[b9];refine gf.mpr ?_;have nd:((aq us.length).filter p).Pairwise (fun a b=>a≠b):=fq.sublist de;refine(sX.mp nd).imp ?_;rintro a b ⟨ha,hb,hab⟩ e;have :=F.len;have ha:=aQ.mp (bF.mp ha).1;have hb:=aQ.mp (bF.mp hb).1;exact hab (Bk (by omega) (by omega) e)
theorem GF:Fit n (cn us p):=by
 have hF:=F.len;refine⟨⟨?_,fun l hl=>?_,fun l hl=>?_,rW F,n,by have :=F.n12;omega,fun l hl=>?_⟩,fun l hl=>?_,fun i j hij hj=>?_⟩
 ·unfold cn
  rw[ao];have :=mP p (aq us.length);rw[bI]at this;omega
 ·obtain⟨k,hk,_,rfl⟩:=rJ hl
  exact Fz (by omega)
 ·obtain⟨k,hk,_,rfl⟩:=rJ hl
  intro y hy;obtain⟨x,hx,rfl⟩:=aO.mp hy;rcases(F.ok _ (wk hk)).2 x hx with rfl|rfl<;>rfl
 ·obtain⟨k,hk,_,rfl⟩:=rJ hl
  show((us.getD k []).map V.int).length=n;rw[ao];exact(F.ok _ (wk hk)).1
 ·obtain⟨k,hk,_,rfl⟩:=rJ hl
  show((us.getD k []).map V.int).length=n;rw[ao];exact(F.ok _ (wk hk)).1
 ·obtain⟨a,b,ha,hb,k⟩:=F.mis i j hij hj
  cases e:K22.kH (cn us p) (i:Int) (j:Int)with
  |false=>rfl
  |true=>
   unfold K22.kH at e;have e:=bD.mp e (a,b) (by rcases ha with rfl|rfl<;>rcases hb with rfl|rfl<;>simp[Kc.KP]);obtain⟨l,hl,hk⟩:=bP.mp e;obtain⟨m,hm,_,rfl⟩:=rJ hl;have num:∀i:Nat,K22.numD (i:Int) (fK us m)=(us.getD m []).getD i 0:=fun i=>by
    unfold K22.numD fK;generalize us.getD m []=u;show(match(u.map V.int).getD i .non with |.int n=>n|_=>0)=_;rw[ah,aA,ah];cases u[i]? <;>rfl
   have hk:=of_decide_eq_true hk;rw[num,num]at hk;exact absurd hk (k _ (wk hm))
theorem yF{M:List K82.Row}(h:M.Perm (cn us p)):Fit n M:=by
 have f:=GF F (p:=p);exact⟨K82.uH h f.gd,fun l hl=>f.ct l (h.mem_iff.mp hl),fun i j a b=>by rw[K82.uI h];exact f.nc i j a b⟩
theorem cn_put{k:Nat}(hk:k<us.length)(hp:p k=false):(cn us p++[fK us k]).Perm (cn us fun i=>p i||decide (i=k)):=by
 unfold cn;rw[show[fK us k]=[k].map (fK us)from rfl,<-du];refine(K84.vU ?_ (fq.sublist de) fun x=>?_).map _
 ·refine eQ.mpr ⟨fq.sublist de,by simp,fun a ha b hb e=>?_⟩
  rw[e,aL.mp hb]at ha;rw[(bF.mp ha).2]at hp;cases hp
 ·rw[cj,bF,bF,aL,aQ,cS,decide_eq_true_eq]
  constructor
  ·rintro(⟨a,b⟩ |rfl)
   ·exact⟨a,.inl b⟩
   ·exact⟨hk,.inr rfl⟩
  ·rintro⟨a,b|rfl⟩
   ·exact .inl ⟨a,b⟩
   ·exact .inr rfl
theorem cn_off{k:Nat}(hk:k<us.length):(cn us p).filter (fun l=>decide (l.1≠nmk k))=cn us fun i=>p i&& !decide (i=k):=by
 unfold cn;rw[vg,List.filter_filter];congr 1;refine qF fun i hi=>?_;have hi:=aQ.mp hi;have :=F.len;show(decide (nmk i≠nmk k)&&p i)=(p i&& !decide (i=k));rw[Bool.and_comm];congr 1;by_cases e:i=k
 ·subst e;simp
 ·have :nmk i≠nmk k:=fun z=>e (Bk (by omega) (by omega) z)
  rw[decide_eq_false e,decide_eq_true this];rfl
end
theorem EH{L M:List K82.Row}(nd:(L.map (·.1)).Nodup)(h:L.Perm M):sL L=sL M:=by
 have nd2:=(h.map (·.1)).nodup_iff.mp nd;have pw:∀{L:List K82.Row},(L.map (·.1)).Nodup->(sL L).Pairwise fun a b=>_root_.Q.tlt a.1 b.1=true:=fun{L} nd=>by
  have r:=_root_.Q.gF nd;have e:(sL L).map (·.1)=_root_.Q.sortBy ("":Str) (L.map (·.1)) (L.map (·.1)):=by unfold sL;exact _root_.Q.qW _ _ _ _
  rw[<-e]at r;exact gf.mp r
 exact tT (fun a b _ _ x y=>(_root_.Q.tY x y).elim) (pw nd) (pw nd2) ((sL_perm nd).trans (h.trans (sL_perm nd2).symm))
theorem GrX.lst{T:Tb}{s l C dx:Addr}{fs:List (Str×V)}{xs:List V}{H H':Hp}(g:GrX T s H H')(t:Tab T H)(hs:H s=some (.ins C dx fs))(h:H l=some (.lst xs)):H' l=some (.lst xs):=g.keep _ _ (t.ne h fun _ z=>by cases z) (fun z=>by rw[z,hs]at h;cases h) h
theorem GrX.tup{T:Tb}{s l C dx:Addr}{fs:List (Str×V)}{xs:List V}{H H':Hp}(g:GrX T s H H')(t:Tab T H)(hs:H s=some (.ins C dx fs))(h:H l=some (.tup xs)):H' l=some (.tup xs):=g.keep _ _ (t.ne h fun _ z=>by cases z) (fun z=>by rw[z,hs]at h;cases h) h
theorem GrX.sh{T:Tb}{s C dx:Addr}{fs:List (Str×V)}{ws:List V}{L:List K82.Row}{H H':Hp}(g:GrX T s H H')(t:Tab T H)(hs:H s=some (.ins C dx fs))(h:Sh H ws L):Sh H' ws L:=
 Paired.qg h fun w l ⟨b,r,e1,e2,e3,e4⟩=>⟨b,r,e1,GrX.tup g t hs e2,GrX.tup g t hs e3,e4⟩
mutual
theorem ET{K:ae}{H H':Hp}(e1:∀a xs,SqL K H a xs->SqL K H' a xs)(e2:∀a xs,SqT K H a xs->SqT K H' a xs):∀{d:L2.D}{v:V},Rep K H d v->Rep K H' d v
 |.non,_,h=>h
 |.bl _,_,h=>h
 |.int _,_,h=>h
 |.str _,_,h=>h
 |.tup ds,_,h=>by
  obtain⟨a,xs,e,h1,h2⟩:=h;exact⟨a,xs,e,e2 _ _ h1,vO e1 e2 h2⟩
 |.lst ds,_,h=>by
  obtain⟨a,xs,e,h1,h2⟩:=h;exact⟨a,xs,e,e1 _ _ h1,vO e1 e2 h2⟩
theorem vO{K:ae}{H H':Hp}(e1:∀a xs,SqL K H a xs->SqL K H' a xs)(e2:∀a xs,SqT K H a xs->SqT K H' a xs):∀{ds:List L2.D}{xs:List V},fX K H ds xs->fX K H' ds xs
 | [],_,h=>h
 |d::ds,_,h=>by
  obtain⟨x,r,e,h1,h2⟩:=h;exact⟨x,r,e,ET e1 e2 h1,vO e1 e2 h2⟩
end
theorem GrX.sqt{K:ae}{T:Tb}{s a C dx:Addr}{fs:List (Str×V)}{xs:List V}{H H':Hp}(g:GrX T s H H')(t:Tab T H)(hs:H s=some (.ins C dx fs))(h:SqT K H a xs):SqT K H' a xs:=by
 rcases h with(h|⟨o,h⟩) |h
 ·exact .inl (.inl (g.keep _ _ (t.ne h fun _ z=>by cases z) (fun z=>by rw[z,hs]at h;cases h) h))
 ·exact .inl (.inr ⟨o,g.keep _ _ (t.ne h fun _ z=>by cases z) (fun z=>by rw[z,hs]at h;cases h) h⟩)
 ·exact .inr h
theorem GrX.rep{K:ae}{T:Tb}{s C dx:Addr}{fs:List (Str×V)}{d:L2.D}{v:V}{H H':Hp}(g:GrX T s H H')(t:Tab T H)(hs:H s=some (.ins C dx fs))(h:Rep K H d v):Rep K H' d v:=ET (fun _ _=>g.seq t hs) (fun _ _=>GrX.sqt g t hs) h
noncomputable def Sk(us:List (List Int))(CS:Addr)(H:Hp)(s:Addr)(p:Nat->Bool):Prop:=∃dx t ys M,Shf H s CS dx t ys M/\M.Perm (cn us p)
theorem Sk.at{us:List (List Int)}{CS:Addr}{H:Hp}{s:Addr}{p:Nat->Bool}(h:Sk us CS H s p):∃dx fs,H s=some (.ins CS dx fs):=let⟨dx,_,_,_,sf,_⟩:=h;⟨dx,_,sf.so⟩
theorem Sk.same{us:List (List Int)}{CS:Addr}{H H':Hp}{s:Addr}{p:Nat->Bool}(h:Sk us CS H s p)(k:aP H H'):Sk us CS H' s p:=let⟨dx,t,ys,M,sf,pm⟩:=h;⟨dx,t,ys,M,sf.same k,pm⟩
theorem Sk.gr{T:Tb}{us:List (List Int)}{CS:Addr}{H H':Hp}{s:Addr}{p:Nat->Bool}(h:Sk us CS H s p)(g:Gr T H H')(tb:Tab T H):Sk us CS H' s p:=let⟨dx,t,ys,M,sf,pm⟩:=h;⟨dx,t,ys,M,⟨g.at tb sf.so (fun _ z=>by cases z),K82.Tl.gr sf.tl g tb⟩,pm⟩
theorem Sk.other{T:Tb}{us:List (List Int)}{CS:Addr}{H H':Hp}{s s':Addr}{p p':Nat->Bool}(h:Sk us CS H s' p')(g:GrX T s H H')(tb:Tab T H)(hs:Sk us CS H s p)(ne:s'≠s):Sk us CS H' s' p':=by
 obtain⟨dx,t,ys,M,sf,pm⟩:=h;obtain⟨dx2,fs,so⟩:=hs.at;exact⟨dx,t,ys,M,⟨g.keep _ _ (tb.ne sf.so fun _ z=>by cases z) ne sf.so,GrX.lst g tb so sf.tl.et,GrX.sh g tb so sf.tl.sh,sf.tl.gd⟩,pm⟩
theorem Sk.congr{us:List (List Int)}{CS:Addr}{H:Hp}{s:Addr}{p q:Nat->Bool}(h:Sk us CS H s p)(e:∀k,k<us.length->p k=q k):Sk us CS H s q:=let⟨dx,t,ys,M,sf,pm⟩:=h;⟨dx,t,ys,M,sf,by rw[<-GG e];exact pm⟩
section
variable {us:List (List Int)}{n:Nat}{CS C CN:Addr}{T:Tb}{K:ae}{H:Hp}{s:Addr}{p:Nat->Bool}{Q:VK}{E:XK}
theorem put_k(F:Fc us n)(sk:Sk us CS H s p)(tb:Tab T H){k:Nat}{r:Addr}(hk:k<us.length)(hp:p k=false)(hr:H r=some (.tup ((us.getD k []).map V.int)))
  (q:∀H',GrX T s H H'->Tab T H'->Sk us CS H' s (fun i=>p i||decide (i=k))->Q .non H'):ub CS T [.ref s,.str (nmk k),.ref r] H Q E:=by
 obtain⟨dx,t,ys,M,sf,pm⟩:=sk;have pm2:(M++[fK us k]).Perm (cn us fun i=>p i||decide (i=k)):=(pm.append_right _).trans (cn_put F hk hp);refine⟨s,dx,t,ys,M,n,nmk k,r,_,rfl,sf,tb,hr,yF F pm2,fun H1 t' ys' g1 tl1 so=>?_⟩;have gx:=(GrX.of (s:=s) g1).trans (GrX.put (T:=T) (fs':=[("copies",.ref t')]) so);exact q _ gx (gx.tab tb) ⟨dx,t',ys',_,⟨az,K82.Tl.put tl1 so (fun _ z=>by cases z) (fun _ z=>by cases z)⟩,pm2⟩
theorem off_k(F:Fc us n)(sk:Sk us CS H s p)(tb:Tab T H){k:Nat}(hk:k<us.length)(hp:p k=true)
  (q:∀H',GrX T s H H'->Tab T H'->Sk us CS H' s (fun i=>p i&& !decide (i=k))->Q .non H'):spOff CS C CN [.ref s,.str (nmk k)] H Q E:=by
 obtain⟨dx,t,ys,M,sf,pm⟩:=sk;have hF:=F.len;have hm:nmk k∈M.map (·.1):=aO.mpr ⟨fK us k,pm.mem_iff.mpr (eB (bF.mpr ⟨aQ.mpr hk,hp⟩)),rfl⟩;refine⟨s,dx,t,ys,M,_,rfl,sf,wt,(fun z e=>by injection e with e;rw[<-e];exact aI (K91.yf (Fz (by omega))) (by decide)),(fun h=>absurd hm (h _ rfl)),fun z e _ H1 t' ys' s1 tl1=>?_⟩;injection e with e
 subst e;have so:=s1 _ _ sf.so;have gx:=(GrX.of (T:=T) (s:=s) (Gr.of s1)).trans (GrX.put (T:=T) (fs':=[("copies",.ref t')]) so);refine q _ gx (gx.tab tb) ⟨dx,t',ys',_,⟨az,K82.Tl.put tl1 so (fun _ z=>by cases z) (fun _ z=>by cases z)⟩,?_⟩;rw[<-cn_off F hk];exact pm.filter _
noncomputable def tP(us:List (List Int))(n:Nat)(p:Nat->Bool):L2.D:=tD n (sL (cn us p))
theorem Ei(F:Fc us n)(sk:Sk us CS H s p)(tb:Tab T H)(q:∀H' v,Gr T H H'->Rep K H' (tP us n p) (.ref v)->Q (.ref v) H'):t9 K CS T [.ref s] H Q E:=by
 obtain⟨dx,t,ys,M,sf,pm⟩:=sk;have e:sL M=sL (cn us p):=(EH (rW F) pm.symm).symm;refine⟨s,dx,t,ys,M,n,rfl,sf,yF F pm,tb,fun H' v g h=>q H' v g ?_⟩;unfold tP;rw[<-e];exact h
theorem table_k(F:Fc us n)(sk:Sk us CS H s p)(tb:Tab T H)(q:∀H' l zs,Gr T H H'->Tl H' l zs (sL (cn us p))->Q (.ref l) H'):spTb CS T [.ref s] H Q E:=by
 obtain⟨dx,t,ys,M,sf,pm⟩:=sk;have e:sL M=sL (cn us p):=(EH (rW F) pm.symm).symm;refine⟨s,dx,t,ys,M,rfl,sf,tb,fun H' l zs g h=>q H' l zs g ?_⟩;rw[<-e];exact h
theorem ES{H:Hp}{ws:List V}(sh:Sh H ws (Lx us)){k:Nat}(hk:k<us.length):∃b r,ws[k]? =some (.ref b)/\H b=some (.tup [.str (nmk k),.ref r])/\H r=some (.tup ((us.getD k []).map V.int)):=by
 have hl:=mS sh;have hL:(Lx us)[k]? =some (fK us k):=by unfold Lx;rw[aA,bR hk];rfl
 have hw:k<ws.length:=by rw[hl];simpa[Lx]using hk
 obtain⟨l,e,b,r,e1,e2,e3,_⟩:=uj sh (af hw);rw[hL]at e;cases e;exact⟨b,r,by rw[af hw,e1],e2,e3⟩
end
end K83
namespace K83
open PySem PySem.Spec PyProof.Rows L2 R Cp Lt Lm K02 K11 K12
open K82 (Shf Tl sL sL_perm GrX look_m spIni spOff spTb Ow)
noncomputable abbrev nts(ks:List Nat):List V:=ks.map fun k:Nat=>V.int (k:Int)
structure Cp0(us:List (List Int))(n:Nat)(H:Hp)(c:Addr)(ws:List V):Prop where
 F:Fc us n
 ec:H c=some (.lst ws)
 sh:Sh H ws (Lx us)
theorem Cp0.same{us:List (List Int)}{n:Nat}{H H':Hp}{c:Addr}{ws:List V}(h:Cp0 us n H c ws)(s:aP H H'):Cp0 us n H' c ws:=⟨h.F,s _ _ h.ec,h.sh.same s⟩
theorem Cp0.gr{T:Tb}{us:List (List Int)}{n:Nat}{H H':Hp}{c:Addr}{ws:List V}(h:Cp0 us n H c ws)(g:Gr T H H')(tb:Tab T H):Cp0 us n H' c ws:=⟨h.F,g.lst tb h.ec,h.sh.gr g tb⟩
theorem Cp0.grx{T:Tb}{us:List (List Int)}{n:Nat}{H H':Hp}{c s:Addr}{ws:List V}{CS:Addr}{p:Nat->Bool}(h:Cp0 us n H c ws)(g:GrX T s H H')(tb:Tab T H)(sk:Sk us CS H s p):Cp0 us n H' c ws:=let⟨_,_,so⟩:=sk.at;⟨h.F,GrX.lst g tb so h.ec,GrX.sh g tb so h.sh⟩
noncomputable def spSf(CS:Addr)(T:Tb):Sp:=fun vs H Q _=>∃us n c o ws ks,vs=[.ref c,.ref o]/\Cp0 us n H c ws/\H o=some (.lst (nts ks))/\ks.Nodup/\(∀k∈ks,k<us.length)/\Tab T H/\
 ∀H' s,Gr T H H'->H s=none->Sk us CS H' s (fun k=>decide (k∈ks))->Q (.ref s) H'
section
variable {G:Gam}{K:ae}{CS C CN:Addr}{T:Tb}
theorem Ak{ks:List Nat}{i:Nat}{x:V}(h:(nts ks)[i]? =some x):∃k,ks[i]? =some k/\x=.int k:=by
 rw[aA]at h;cases e:ks[i]? with
 |none=>rw[e]at h;cases h
 |some k=>rw[e]at h;cases h;exact⟨k,rfl,rfl⟩
theorem wp_sf(gm:G.mak "Shelf" 0=some (CS,spIni CS,[]))(g0:G.mth "put" 2=some (CS,ub CS T,[])):
  Sat G K (spSf CS T) pX pJ:=by
 rintro vs H Q E ⟨us,n,c,o,ws,ks,rfl,cp,eo,nd,hks,tb,q⟩;unfold pX;change wpB G K _ _ _ [some (.ref c),some (.ref o),none,none] H;walk_at "wp";refine⟨_,_,_,gm,?_⟩;simp only[zJ,tMake,jC];intro s dx hs0 hdx hne;refine⟨s,dx,rfl,az,fun t hts ht=>⟨rfl,?_⟩⟩;rw[aY hts]at ht;have sw:aP H (upd (upd (upd (upd H dx (.own s)) s (.ins CS dx [])) t (.lst [])) s (.ins CS dx [("copies",.ref t)])):=fun b o e=>by
  have n1:b≠s:=fun z=>by rw[z,hs0]at e;cases e
  have n2:b≠dx:=fun z=>by rw[z,hdx]at e;cases e
  have n3:b≠t:=fun z=>by rw[z]at e n2;rw[aY n2,e]at ht;cases ht
  rw[aY n1,aY n3,aY n1,aY n2];exact e
 have sf:Shf (upd (upd (upd (upd H dx (.own s)) s (.ins CS dx [])) t (.lst [])) s (.ins CS dx [("copies",.ref t)])) s CS dx t [] []:=⟨az,by rw[aY hts];exact az,.nil,(by show 0<=40;decide),(fun _ h=>by cases h),(fun _ h=>by cases h),iA,0,by decide,fun _ h=>by cases h⟩;generalize upd (upd (upd (upd H dx (.own s)) s (.ins CS dx [])) t (.lst [])) s (.ins CS dx [("copies",.ref t)])=H1 at sw sf;have sk1:Sk us CS H1 s fun k=>decide (k∈ks.take 0):=⟨dx,t,[],[],sf,by rw[show cn us (fun k=>decide (k∈ks.take 0))=[]from by simp[cn]]⟩;have tb1:=(Gr.of sw).tab tb;have eo1:=sw _ _ eo;have cp1:=cp.same sw;unfold mG;walk_at "wp";refine iJ (cI rfl (SqL.of eo1) ?_);refine Kc.gX (d8 (xs:=nts ks)) (fun i σ H'=>GrX T s H1 H'/\Sk us CS H' s (fun k=>decide (k∈ks.take i))/\∃x,σ=[some (.ref c),some (.ref o),some (.ref s),x]) ⟨GrX.refl _ _ _,sk1,none,rfl⟩ (fun _ _ _ _ h=>SqL.of (GrX.lst h.1 tb1 sf.so eo1)) ?_ ?_
 ·rintro i x σ H2 H3 D2 hi ⟨gx,sk,u,rfl⟩ hx s3 hD _
  obtain⟨k,hk,rfl⟩:=Ak hx;have hkm:k∈ks:=aR hk;have hku:=hks k hkm;have gx3:=gx.trans (GrX.of (Gr.of s3));have tb3:=gx3.tab tb1;have sk3:=sk.same s3;obtain⟨dx3,fs3,so3⟩:=sk3.at;have cp3:=cp1.grx gx3 tb1 sk1;obtain⟨b,r,e1,e2,e3⟩:=ES cp3.sh hku;obtain⟨dxx,tt,yy,MM,sf3,pm3⟩:=id sk3;walk_at "wp";refine⟨_,_,_,g0,?_⟩;simp only[kg,xC];walk_at "wp";refine⟨s,dxx,_,rfl,sf3.so,look_m _ (by decide+kernel),?_⟩;refine .inl ⟨c,ws,k,_,rfl,rfl,SqL.of cp3.ec,cH e1,.inr (.inl ⟨b,_,0,_,rfl,rfl,SqT.of e2,cH (j:=0) rfl,?_⟩)⟩;refine .inl ⟨c,ws,k,_,rfl,rfl,SqL.of cp3.ec,cH e1,.inr (.inl ⟨b,_,1,_,rfl,rfl,SqT.of e2,cH (j:=1) rfl,?_⟩)⟩;have hnew:decide (k∈ks.take i)=false:=decide_eq_false fun h=>by
   obtain⟨j,hj,e⟩:=cR.mp h;have hji:j<i:=by rw[cJ]at hj;omega
   rw[List.getElem_take]at e;have h2:=aF.mp hk;obtain⟨hil,e2⟩:=h2;have :=(cW nd).mp (e.trans e2.symm);omega
  refine put_k cp3.F sk3 tb3 hku hnew e3 fun H4 gx4 tb4 sk4=>hD _ _ ⟨gx3.trans gx4,sk4.congr fun j hj=>?_,_,rfl⟩;rw[dj,hk];simp only[cj,Option.toList_some,aL];by_cases h1:j∈ks.take i<;>by_cases h2:j=k<;>simp[h1,h2]
 ·rintro σ H2 ⟨gx,sk,u,rfl⟩
  unfold mF;walk_at "wp";refine q H2 s ⟨fun b o' hb e=>gx.keep b o' hb (fun z=>by rw[z,hs0]at e;cases e) (sw _ _ e),fun t=>gx.tab ((Gr.of sw).tab t)⟩ hs0 ?_
  rwa [ao,dv]at sk
end
open K82 (Shf Tl sL sL_perm GrX look_m spIni spOff spTb Ow)
structure Gs(G:Gam)(K:ae)(CS C CN:Addr)(T:Tb):Prop where
 pt:G.mth "put" 2=some (CS,ub CS T,[])
 tb:G.mth "table" 0=some (CS,spTb CS T,[])
 tr:G.mth "tree" 0=some (CS,t9 K CS T,[])
 of:G.mth "off" 1=some (CS,spOff CS C CN,[])
 sf:G.fn "_law_shelf" 2=some (spSf CS T,[])
structure Two(T:Tb)(CS:Addr)(us:List (List Int))(n:Nat)(H:Hp)(c:Addr)(ws:List V)(s1 s2:Addr)(p1 p2:Nat->Bool):Prop where
 cp:Cp0 us n H c ws
 k1:Sk us CS H s1 p1
 k2:Sk us CS H s2 p2
 ne:s1≠s2
 tb:Tab T H
section
variable {G:Gam}{K:ae}{E:XS}{D:Ends}{Q:VK}{H:Hp}{CS C CN c s1 s2 d a o1 o2:Addr}{T:Tb}{us:List (List Int)}{n:Nat}{ws:List V}{p1 p2 p:Nat->Bool}{x0 x1 x2 x3 x4 x5 x6 x7 x8 x9 x10 x11 x12 x13 x14 x15 x16 x17:Option V}
theorem Two.gr{H':Hp}(w:Two T CS us n H c ws s1 s2 p1 p2)(g:Gr T H H'):Two T CS us n H' c ws s1 s2 p1 p2:=⟨w.cp.gr g w.tb,w.k1.gr g w.tb,w.k2.gr g w.tb,w.ne,g.tab w.tb⟩
theorem Two.same{H':Hp}(w:Two T CS us n H c ws s1 s2 p1 p2)(s:aP H H'):Two T CS us n H' c ws s1 s2 p1 p2:=w.gr (Gr.of s)
theorem oX{H':Hp}{dd:L2.D}{v:V}(h:Rep K H dd v)(g:Gr T H H')(sk:Sk us CS H s1 p)(tb:Tab T H):Rep K H' dd v:=let⟨_,_,so⟩:=sk.at;GrX.rep (GrX.of (s:=s1) g) tb so h
theorem nJ(g2:G.mth "tree" 0=some (CS,t9 K CS T,[])){i:Nat}{σ:L2.St}(hi:σ[i]? =some (some (.ref s1)))(F:Fc us n)(sk:Sk us CS H s1 p)(tb:Tab T H)(q:∀H' v,Gr T H H'->Rep K H' (tP us n p) (.ref v)->Q (.ref v) H'):∃C sp dvs,G.mth "tree" 0=some (C,sp,dvs)/\kg C "tree" sp dvs E (kR i) jC σ H Q:=by
 obtain⟨dx,t,ys,M,sf,pm⟩:=id sk;exact⟨_,_,_,g2,_,hi,s1,dx,_,rfl,sf.so,look_m _ (by decide+kernel),Ei (E:=E σ) F sk tb q⟩
theorem table_at(g2:G.mth "table" 0=some (CS,spTb CS T,[])){i:Nat}{σ:L2.St}(hi:σ[i]? =some (some (.ref s1)))(F:Fc us n)(sk:Sk us CS H s1 p)(tb:Tab T H)(q:∀H' l zs,Gr T H H'->Tl H' l zs (sL (cn us p))->Q (.ref l) H'):∃C sp dvs,G.mth "table" 0=some (C,sp,dvs)/\kg C "table" sp dvs E (kR i) jC σ H Q:=by
 obtain⟨dx,t,ys,M,sf,pm⟩:=id sk;exact⟨_,_,_,g2,_,hi,s1,dx,_,rfl,sf.so,look_m _ (by decide+kernel),table_k (E:=E σ) F sk tb q⟩
theorem eq_d{v w:V}{dd:L2.D}{H:Hp}{Q:VK}(h1:Rep K H dd v)(h2:Rep K H dd w)(hh:hgt dd<=20)(q:Q (.bl true) H):gv K .Eq v w H Q:=⟨dd,dd,h1,h2,by omega,by rw[n8];exact q⟩
theorem ne_d{v w:V}{dd:L2.D}{H:Hp}{Q:VK}(h1:Rep K H dd v)(h2:Rep K H dd w)(hh:hgt dd<=20)(q:Q (.bl false) H):gv K .NotEq v w H Q:=⟨dd,dd,h1,h2,by omega,by rw[n8];exact q⟩
theorem lw_20(g:Gs G K CS C CN T)(w:Two T CS us n H c ws s1 s2 (fun _=>true) (fun _=>true))(rd:Rep K H (tP us n fun _=>true) (.ref d))(hr:D.rt=Q)(q:∀H',Q (.bl true) H'):
  wpB G K E r9 D [x0,x1,x2,x3,x4,x5,x6,x7,x8,x9,x10,x11,x12,some (.ref s1),some (.ref s2),some (.ref d),x16,x17] H:=by
 unfold r9;walk_at "wp";refine nJ g.tr rfl w.cp.F w.k2 w.tb fun H1 v g1 r1=>?_;have w1:=w.gr g1;have rd1:=oX rd g1 w.k1 w.tb;refine eq_d r1 rd1 (wx _ _) ⟨_,rfl,?_⟩;rw[if_pos rfl];refine nJ g.tr rfl w1.cp.F w1.k1 w1.tb fun H2 v2 g2 r2=>?_;refine eq_d r2 (oX rd1 g2 w1.k1 w1.tb) (wx _ _) ?_;rw[hr];exact q _
theorem nQ{ks:List Nat}(nd:ks.Nodup){i k:Nat}(h:ks[i]? =some k):k∉ks.take i:=fun hm=>by
 obtain⟨j,hj,e⟩:=cR.mp hm;have hji:j<i:=by rw[cJ]at hj;omega
 rw[List.getElem_take]at e;obtain⟨hil,e2⟩:=aF.mp h;have :=(cW nd).mp (e.trans e2.symm);omega
theorem mr{ks:List Nat}{i k j:Nat}(h:ks[i]? =some k):j∈ks.take (i+1)↔j∈ks.take i\/j=k:=by
 rw[dj,h];simp
theorem nts_rev(ks:List Nat):(nts ks).reverse=nts ks.reverse:=List.map_reverse.symm
theorem lw_19(g:Gs G K CS C CN T){gs:List Nat}{o:Addr}(nd:gs.Nodup)(hg:∀k∈gs,k<us.length)(w:Two T CS us n H c ws s1 s2 (fun _=>true) (fun k=>decide (k∉gs)))(rd:Rep K H (tP us n fun _=>true) (.ref d))(eo:H o=some (.lst (nts gs)))(hr:D.rt=Q)(q:∀H',Q (.bl true) H'):
  wpB G K E se D [x0,x1,x2,x3,some (.ref c),x5,x6,x7,x8,x9,x10,x11,x12,some (.ref s1),some (.ref s2),some (.ref d),some (.ref o),x17] H:=by
 unfold se;walk_at "wp";refine iJ ⟨_,rfl,o,_,rfl,SqL.of eo,fun o' ho'=>.inl ⟨o',rfl,⟨_,SqL.of az⟩,?_⟩⟩;rw[nts_rev];have sw:=aK (o:=.lst (nts gs.reverse)) ho';have eo':upd H o' (.lst (nts gs.reverse)) o'=_:=az;generalize upd H o' (.lst (nts gs.reverse))=H1 at sw eo';have w1:=w.same sw;have rd1:=rd.same sw;have nd':gs.reverse.Nodup:=(List.reverse_perm gs).nodup_iff.mpr nd;obtain⟨dx1,fs1,so1⟩:=w1.k2.at;refine Kc.gX (d8 (xs:=nts gs.reverse)) (fun i σ H'=>GrX T s2 H1 H'/\Sk us CS H' s2 (fun k=>decide (k∉gs)||decide (k∈gs.reverse.take i))/\∃x,σ=[x0,x1,x2,x3,some (.ref c),x5,x6,x7,x8,x9,x,x11,x12,some (.ref s1),some (.ref s2),some (.ref d),some (.ref o),x17]) ⟨GrX.refl _ _ _,w1.k2.congr fun k _=>by simp,_,rfl⟩ (fun _ _ _ _ h=>SqL.of (GrX.lst h.1 w1.tb so1 eo')) ?_ ?_
 ·rintro i x σ H2 H3 D2 hi ⟨gx,sk,u,rfl⟩ hx s3 hD _
  obtain⟨k,hk,rfl⟩:=Ak hx;have hkm:k∈gs:=List.mem_reverse.mp (aR hk);have hku:=hg k hkm;have gx3:=gx.trans (GrX.of (Gr.of s3));have tb3:=gx3.tab w1.tb;have sk3:=sk.same s3;have cp3:=w1.cp.grx gx3 w1.tb w1.k2;obtain⟨b,r,e1,e2,e3⟩:=ES cp3.sh hku;obtain⟨dxx,tt,yy,MM,sf3,pm3⟩:=id sk3;walk_at "wp";refine⟨_,_,_,g.pt,?_⟩;simp only[kg,xC];walk_at "wp";refine⟨s2,dxx,_,rfl,sf3.so,look_m _ (by decide+kernel),?_⟩;refine .inl ⟨c,ws,k,_,rfl,rfl,SqL.of cp3.ec,cH e1,.inr (.inl ⟨b,_,0,_,rfl,rfl,SqT.of e2,cH (j:=0) rfl,?_⟩)⟩;refine .inl ⟨c,ws,k,_,rfl,rfl,SqL.of cp3.ec,cH e1,.inr (.inl ⟨b,_,1,_,rfl,rfl,SqT.of e2,cH (j:=1) rfl,?_⟩)⟩;refine put_k cp3.F sk3 tb3 hku (by rw[decide_eq_false (nQ nd' hk),decide_eq_false (fun h=>h hkm)];rfl) e3 fun H4 gx4 tb4 sk4=>hD _ _ ⟨gx3.trans gx4,sk4.congr fun j hj=>?_,_,rfl⟩;rw[Bool.or_assoc];congr 1;rw[ee,cS,decide_eq_true_eq,decide_eq_true_eq,decide_eq_true_eq];exact(mr hk).symm
 ·rintro σ H2 ⟨gx,sk,u,rfl⟩
  have w2:Two T CS us n H2 c ws s1 s2 (fun _=>true) (fun _=>true):=⟨w1.cp.grx gx w1.tb w1.k2,w1.k1.other gx w1.tb w1.k2 w.ne,sk.congr fun k _=>?_,w.ne,gx.tab w1.tb⟩
  ·exact lw_20 g w2 (GrX.rep gx w1.tb so1 rd1) hr q
  ·rw[ao,dv]
   by_cases h:k∈gs<;>simp[h]
theorem lw_18(g:Gs G K CS C CN T){gs ls:List Nat}{o lf:Addr}(nd:gs.Nodup)(hg:∀k∈gs,k<us.length)(ndl:ls.Nodup)(hl:∀k∈ls,k<us.length)(hlg:∀k,k<us.length->(k∈ls↔k∉gs))(w:Two T CS us n H c ws s1 s2 (fun _=>true) (fun k=>decide (k∉gs)))(rd:Rep K H (tP us n fun _=>true) (.ref d))(eo:H o=some (.lst (nts gs)))(el:H lf=some (.lst (nts ls)))(hr:D.rt=Q)(q:∀H',Q (.bl true) H'):
  wpB G K E sg D [x0,x1,x2,x3,some (.ref c),x5,x6,x7,x8,x9,x10,x11,x12,some (.ref s1),some (.ref s2),some (.ref d),some (.ref o),some (.ref lf)] H:=by
 unfold sg;walk_at "wp";refine nJ g.tr rfl w.cp.F w.k2 w.tb fun H1 v1 g1 r1=>?_;have w1:=w.gr g1;have el1:=g1.lst w.tb el;refine⟨_,_,_,g.tr,?_⟩;simp only[kg,xC];walk_at "wp";refine⟨_,_,g.sf,us,n,c,lf,ws,ls,rfl,w1.cp,el1,ndl,hl,w1.tb,fun H2 s gr2 fs sk=>?_⟩;have w2:=w1.gr gr2;have sk':Sk us CS H2 s (fun k=>decide (k∉gs)):=sk.congr fun k hk=>by rw[ee,decide_eq_true_eq,decide_eq_true_eq];exact hlg k hk
 obtain⟨dx,t,ys,M,sf,pm⟩:=id sk';refine⟨s,dx,_,rfl,sf.so,look_m _ (by decide+kernel),Ei w2.cp.F sk' w2.tb fun H3 v3 gr3 r3=>?_⟩;refine ne_d (oX r1 (gr2.trans gr3) w1.k1 w1.tb) r3 (wx _ _) ⟨_,rfl,?_⟩;rw[if_neg (by decide)];have gr:=g1.trans (gr2.trans gr3);exact lw_19 g nd hg (w.gr gr) (oX rd gr w.k1 w.tb) (gr.lst w.tb eo) hr q
theorem inV_nts(k:Nat)(gs:List Nat):inV (.int k) (nts gs)=decide (k∈gs):=by
 rw[ee,decide_eq_true_eq];unfold inV;rw[bP];constructor
 ·rintro⟨x,hx,e⟩
  obtain⟨j,hj,rfl⟩:=aO.mp hx;have :(j:Int)=(k:Int):=eq_of_beq e;rw[show k=j from by omega];exact hj
 ·exact fun h=>⟨.int k,eB h,beq_self_eq_true _⟩
theorem yE(gs:List Nat):(nts gs).all mw=true:=bD.mpr fun x hx=>by
 obtain⟨j,_,rfl⟩:=aO.mp hx;rfl
theorem yG(ks:List Nat)(t:V->Bool):(nts ks).filter t=nts (ks.filter fun k:Nat=>t (.int k)):=vg
theorem lw_17(g:Gs G K CS C CN T){gs:List Nat}{o o6:Addr}(nd:gs.Nodup)(hg:∀k∈gs,k<us.length)(w:Two T CS us n H c ws s1 s2 (fun _=>true) (fun k=>decide (k∉gs)))(rd:Rep K H (tP us n fun _=>true) (.ref d))(eo:H o=some (.lst (nts gs)))(e6:H o6=some (.lst (nts (aq us.length))))(hr:D.rt=Q)(q:∀H',Q (.bl true) H'):
  wpB G K E si D [x0,x1,x2,x3,some (.ref c),x5,some (.ref o6),x7,x8,x9,x10,x11,x12,some (.ref s1),some (.ref s2),some (.ref d),some (.ref o),x17] H:=by
 unfold si;walk_at "wp";refine dF (cI rfl (SqL.of e6) ?_);refine lT d8 (by rw[ao,bI];exact aI w.cp.F.len (by decide)) (fun H1 s1=>s1.seq (SqL.of e6)) (fun x=> !inV x (nts gs)) id (fun τ=>∃t,τ=[t,some (.ref o)]) ⟨none,rfl⟩ ?_ ?_
 ·rintro x τ H3 Rt Rf hx ⟨t,rfl⟩ s3 kt kf
  obtain⟨k,hk,rfl⟩:=aO.mp hx;walk_at "wp";refine .inr ⟨o,_,rfl,.inl (SqL.of (s3 _ _ eo)),rfl,yE gs,_,rfl,?_⟩;rw[if_pos rfl];cases e:inV (V.int k) (nts gs)with
  |true=>rw[if_neg (by decide)];exact kf _ _ ⟨_,rfl⟩ (aP.refl _) (by rw[e];rfl)
  |false=>rw[if_pos (by decide)];exact kt _ _ ⟨_,rfl⟩ (aP.refl _) (by rw[e];rfl)
 ·intro H1 l s1' hl
  rw[ig,yG];have sw:=s1'.trans (aK (o:=.lst (nts ((aq us.length).filter fun k:Nat=> !inV (.int k) (nts gs)))) hl);refine lw_18 g nd hg (fq.sublist de) (fun k hk=>aQ.mp (bF.mp hk).1) (fun k hk=>?_) (w.same sw) (rd.same sw) (sw _ _ eo) az hr q;rw[bF,aQ,inV_nts];simp[hk]
theorem lw_16(g:Gs G K CS C CN T){gs:List Nat}{o o6:Addr}(nd:gs.Nodup)(hg:∀k∈gs,k<us.length)(w:Two T CS us n H c ws s1 s2 (fun _=>true) (fun _=>true))(rd:Rep K H (tP us n fun _=>true) (.ref d))(eo:H o=some (.lst (nts gs)))(e6:H o6=some (.lst (nts (aq us.length))))(hr:D.rt=Q)(q:∀H',Q (.bl true) H'):
  wpB G K E sj D [x0,x1,x2,x3,some (.ref c),x5,some (.ref o6),x7,x8,x9,x10,x11,x12,some (.ref s1),some (.ref s2),some (.ref d),some (.ref o),x17] H:=by
 unfold sj;walk_at "wp";refine iJ (cI rfl (SqL.of eo) ?_);obtain⟨dx1,fs1,so1⟩:=w.k2.at;refine Kc.gX (d8 (xs:=nts gs)) (fun i σ H'=>GrX T s2 H H'/\Sk us CS H' s2 (fun k=>decide (k∉gs.take i))/\∃x,σ=[x0,x1,x2,x3,some (.ref c),x5,some (.ref o6),x7,x8,x9,x,x11,x12,some (.ref s1),some (.ref s2),some (.ref d),some (.ref o),x17]) ⟨GrX.refl _ _ _,w.k2.congr fun k _=>by simp,_,rfl⟩ (fun _ _ _ _ h=>SqL.of (GrX.lst h.1 w.tb so1 eo)) ?_ ?_
 ·rintro i x σ H2 H3 D2 hi ⟨gx,sk,u,rfl⟩ hx s3 hD _
  obtain⟨k,hk,rfl⟩:=Ak hx;have hkm:k∈gs:=aR hk;have hku:=hg k hkm;have gx3:=gx.trans (GrX.of (Gr.of s3));have tb3:=gx3.tab w.tb;have sk3:=sk.same s3;have cp3:=w.cp.grx gx3 w.tb w.k2;obtain⟨b,r,e1,e2,e3⟩:=ES cp3.sh hku;obtain⟨dxx,tt,yy,MM,sf3,pm3⟩:=id sk3;walk_at "wp";refine⟨_,_,_,g.of,?_⟩;simp only[kg,xC];walk_at "wp";refine⟨s2,dxx,_,rfl,sf3.so,look_m _ (by decide+kernel),?_⟩;refine .inl ⟨c,ws,k,_,rfl,rfl,SqL.of cp3.ec,cH e1,.inr (.inl ⟨b,_,0,_,rfl,rfl,SqT.of e2,cH (j:=0) rfl,?_⟩)⟩;refine off_k cp3.F sk3 tb3 hku (decide_eq_true (nQ nd hk)) fun H4 gx4 tb4 sk4=>hD _ _ ⟨gx3.trans gx4,sk4.congr fun j hj=>?_,_,rfl⟩;rw[ee,aj,decide_eq_true_eq,Bool.not_eq_true',decide_eq_false_iff_not,decide_eq_true_eq,mr hk,not_or]
 ·rintro σ H2 ⟨gx,sk,u,rfl⟩
  rw[ao,dv]at sk;exact lw_17 g nd hg ⟨w.cp.grx gx w.tb w.k2,w.k1.other gx w.tb w.k2 w.ne,sk,w.ne,gx.tab w.tb⟩ (GrX.rep gx w.tb so1 rd) (GrX.lst gx w.tb so1 eo) (GrX.lst gx w.tb so1 e6) hr q
theorem lw_15(g:Gs G K CS C CN T){os lg:List Nat}{o7 o9 o6:Addr}(nd:os.Nodup)(ho:∀k∈os,k<us.length)(w:Two T CS us n H c ws s1 s2 (fun _=>true) (fun _=>true))(rd:Rep K H (tP us n fun _=>true) (.ref d))(e7:H o7=some (.lst (nts os)))(e9:H o9=some (.lst (nts lg)))(e6:H o6=some (.lst (nts (aq us.length))))(hol:os.length<=16)(hr:D.rt=Q)(q:∀H',Q (.bl true) H'):
  wpB G K E sr D [x0,x1,x2,x3,some (.ref c),x5,some (.ref o6),some (.ref o7),x8,some (.ref o9),x10,x11,x12,some (.ref s1),some (.ref s2),some (.ref d),x16,x17] H:=by
 unfold sr;walk_at "wp";refine dF (cI rfl (SqL.of e7) ?_);refine lT d8 (by rw[ao];exact aI hol (by decide)) (fun H1 s1=>s1.seq (SqL.of e7)) (fun x=>inV x (nts lg)) id (fun τ=>∃t,τ=[t,some (.ref o9)]) ⟨none,rfl⟩ ?_ ?_
 ·rintro x τ H3 Rt Rf hx ⟨t,rfl⟩ s3 kt kf
  obtain⟨k,hk,rfl⟩:=aO.mp hx;walk_at "wp";refine .inr ⟨o9,_,rfl,.inl (SqL.of (s3 _ _ e9)),rfl,yE lg,_,rfl,?_⟩;simp only[aJ,if_false];cases e:inV (V.int k) (nts lg)with
  |true=>rw[if_pos rfl];exact kt _ _ ⟨_,rfl⟩ (aP.refl _) e
  |false=>rw[if_neg aC];exact kf _ _ ⟨_,rfl⟩ (aP.refl _) e
 ·intro H1 l s1' hl
  rw[ig,yG];have sw:=s1'.trans (aK (o:=.lst (nts (os.filter fun k:Nat=>inV (.int k) (nts lg)))) hl);exact lw_16 g (nd.sublist de) (fun k hk=>ho k (bF.mp hk).1) (w.same sw) (rd.same sw) az (sw _ _ e6) hr q
theorem lw_14(g:Gs G K CS C CN T){os lg:List Nat}{o7 o9 o6:Addr}(nd:os.Nodup)(ho:∀k∈os,k<us.length)(w:Two T CS us n H c ws s1 s2 (fun _=>true) (fun _=>true))(rd:Rep K H (tP us n fun _=>true) (.ref d))(e7:H o7=some (.lst (nts os)))(e9:H o9=some (.lst (nts lg)))(e6:H o6=some (.lst (nts (aq us.length))))(hol:os.length<=16)(hr:D.rt=Q)(q:∀H',Q (.bl true) H'):
  wpB G K E sv D [x0,x1,x2,x3,some (.ref c),x5,some (.ref o6),some (.ref o7),x8,some (.ref o9),x10,x11,x12,some (.ref s1),some (.ref s2),some (.ref d),x16,x17] H:=by
 unfold sv;walk_at "wp";refine nJ g.tr rfl w.cp.F w.k2 w.tb fun H1 v gr1 r1=>?_;have w1:=w.gr gr1;refine ne_d r1 (oX rd gr1 w.k1 w.tb) (wx _ _) ⟨_,rfl,?_⟩;rw[if_neg (by decide)];refine table_at g.tb rfl w1.cp.F w1.k2 w1.tb fun H2 l zs gr2 tl2=>?_;have w2:=w1.gr gr2;refine table_at g.tb rfl w2.cp.F w2.k1 w2.tb fun H3 l3 zs3 gr3 tl3=>?_;have tl23:=K82.Tl.gr tl2 gr3 w2.tb;refine⟨.lst ((sL (cn us fun _=>true)).map toD),.lst ((sL (cn us fun _=>true)).map toD),⟨l,_,rfl,SqL.of tl23.et,vN tl23.sh⟩,⟨l3,_,rfl,SqL.of tl3.et,vN tl3.sh⟩,?_,_,rfl,?_⟩
 ·show hW ((sL (cn us fun _=>true)).map toD)+1<=30
  have :=Bz tl3.sh
  omega
 ·rw[n8,if_neg (by decide)]
  have gr:=gr1.trans (gr2.trans gr3);exact lw_15 g nd ho (w.gr gr) (oX rd gr w.k1 w.tb) (gr.lst w.tb e7) (gr.lst w.tb e9) (gr.lst w.tb e6) hol hr q
theorem Di(xs:List V)(k:Nat):wC xs none (some (k:Int))=xs.take k:=by
 unfold wC;rw[HT.A0];show(xs.drop 0).take (min k xs.length-0)=_;rw[xo,DR,List.take_eq_take_iff];omega
theorem Dj(xs:List V)(k:Nat)(h:k<=xs.length):wC xs (some (k:Int)) none=xs.drop k:=by
 unfold wC;rw[HT.A0];show(xs.drop (min k xs.length)).take (xs.length-min k xs.length)=_;rw[Nat.min_eq_left h,iz (by simp)]
theorem lw_13(g:Gs G K CS C CN T){os lg:List Nat}{o7 o9 o6:Addr}(nd:os.Nodup)(ho:∀k∈os,k<us.length)(w:Two T CS us n H c ws s1 s2 (fun _=>true) (fun _=>true))(e7:H o7=some (.lst (nts os)))(e9:H o9=some (.lst (nts lg)))(e6:H o6=some (.lst (nts (aq us.length))))(hol:os.length<=16)(hr:D.rt=Q)(q:∀H',Q (.bl true) H'):
  wpB G K E sx D [x0,x1,x2,x3,some (.ref c),x5,some (.ref o6),some (.ref o7),x8,some (.ref o9),x10,x11,x12,some (.ref s1),some (.ref s2),x15,x16,x17] H:=by
 unfold sx;walk_at "wp";refine nJ g.tr rfl w.cp.F w.k1 w.tb fun H1 v gr1 r1=>?_;exact lw_14 g nd ho (w.gr gr1) r1 (gr1.lst w.tb e7) (gr1.lst w.tb e9) (gr1.lst w.tb e6) hol hr q
theorem lw_11(g:Gs G K CS C CN T){os lg:List Nat}{o7 o9 o6:Addr}(pm:os.Perm (aq us.length))(cp:Cp0 us n H c ws)(tb:Tab T H)(e7:H o7=some (.lst (nts os)))(e9:H o9=some (.lst (nts lg)))(e6:H o6=some (.lst (nts (aq us.length))))(hr:D.rt=Q)(q:∀H',Q (.bl true) H'):
  wpB G K E sy D [x0,x1,x2,x3,some (.ref c),x5,some (.ref o6),some (.ref o7),x8,some (.ref o9),x10,x11,x12,x13,x14,x15,x16,x17] H:=by
 unfold sy;walk_at "wp";have nd:os.Nodup:=pm.nodup_iff.mpr fq;have ho:∀k∈os,k<us.length:=fun k hk=>aQ.mp (pm.mem_iff.mp hk);refine⟨_,_,g.sf,us,n,c,o6,ws,aq us.length,rfl,cp,e6,fq,fun k hk=>aQ.mp hk,tb,fun H1 s1 gr1 f1 sk1=>?_⟩;unfold yU;walk_at "wp";have tb1:=gr1.tab tb;have e71:=gr1.lst tb e7;refine⟨_,_,g.sf,us,n,c,o7,ws,os,rfl,cp.gr gr1 tb,e71,nd,ho,tb1,fun H2 s2 gr2 f2 sk2=>?_⟩;obtain⟨dx,fs,so⟩:=sk1.at;have gr:=gr1.trans gr2;refine lw_13 g nd ho ⟨cp.gr gr tb,(sk1.gr gr2 tb1).congr fun k hk=>decide_eq_true (aQ.mpr hk),sk2.congr fun k hk=>decide_eq_true (pm.mem_iff.mpr (aQ.mpr hk)),fun z=>?_,gr.tab tb⟩ (gr.lst tb e7) (gr.lst tb e9) (gr.lst tb e6) ?_ hr q
 ·rw[z,f2]at so;cases so
 ·rw[pm.length_eq,bI];exact cp.F.len
theorem xN{os:List Nat}{k z:Nat}(pm:os.Perm (aq k)):(os.take z++[k]++os.drop z).Perm (aq (k+1)):=by
 rw[vd];have h:(os.take z++[k]++os.drop z).Perm (os++[k]):=by
  have :=List.perm_append_comm (l₁:=[k]) (l₂:=os.drop z)
  have h2:=this.append_left (os.take z);rw[<-gp,<-gp,List.take_append_drop]at h2;exact h2
 exact h.trans (pm.append_right _)
noncomputable def Lv(H0:Hp)(us:List (List Int))(a c o6 o9:Addr)(fm:Int)(i:Nat)(σ:L2.St)(H:Hp):Prop:=aP H0 H/\∃(os lg:List Nat)(o7:Addr)(r:V)(x10 x11 x12:Option V),os.Perm (aq i)/\H o7=some (.lst (nts os))/\H o9=some (.lst (nts lg))/\o7≠o9/\lg.length<=i/\(r=.non\/∃m:Int,0<=m/\r=.int m)/\
 ∃x2 x3 x13 x14 x15 x16 x17,σ=[some (.ref a),some (.int fm),x2,x3,some (.ref c),some (.int us.length),some (.ref o6),some (.ref o7),some r,some (.ref o9),x10,x11,x12,x13,x14,x15,x16,x17]
section
variable {H0 H':Hp}{D2:Ends}{fm m at0:Int}{o6 o7 o9:Addr}{k:Nat}{os lg:List Nat}{r:V}{b:Bool}
theorem Bq(hk:k<16)(s:aP H0 H')(f9:H0 o9=none)(pm:os.Perm (aq k))(e7:H' o7=some (.lst (nts os)))(e9:H' o9=some (.lst (nts lg)))(n79:o7≠o9)(hlg:lg.length<=k)(hr:r=.non\/∃m:Int,0<=m/\r=.int m)(hD:∀σ2 H2,Lv H0 us a c o6 o9 fm (k+1) σ2 H2->D2.nx σ2 H2):
  wpB G K E m7 D2 [some (.ref a),some (.int fm),x2,x3,some (.ref c),some (.int us.length),some (.ref o6),some (.ref o7),some r,some (.ref o9),some (.int k),some (.int at0),some (.bl b),x13,x14,x15,x16,x17] H':=by
 have hl:os.length=k:=by rw[pm.length_eq,bI]
 have hnl:(nts os).length=k:=by rw[ao,hl]
 unfold m7;walk_at "wp";refine .inl ⟨o7,_,rfl,.inl (SqL.of e7),?_⟩;rw[hnl];walk_at "wp";have i0:0<=at0%((k:Int)+1):=eA _ (by omega);have i1:at0%((k:Int)+1)<(k:Int)+1:=fQ _ (by omega);obtain⟨z,hz⟩:=fC i0;rw[hz]at i1⊢;refine⟨by omega,?_⟩;unfold sC;walk_at "wp";refine .inl ⟨o7,_,rfl,SqL.of e7,fun q1 hq1=>?_⟩;rw[Di];have t1:=aK (o:=.lst ((nts os).take z)) hq1;have y1:upd H' q1 (.lst ((nts os).take z)) q1=_:=az;generalize upd H' q1 (.lst ((nts os).take z))=H1 at t1 y1;refine⟨short (by simp),fun q2 hq2=>?_⟩;have t2:=aK (o:=.lst [V.int k]) hq2;have y2:upd H1 q2 (.lst [V.int k]) q2=_:=az;generalize upd H1 q2 (.lst [V.int k])=H2 at t2 y2;refine .inr (.inr (.inl ⟨q1,q2,_,_,rfl,rfl,t2 _ _ y1,y2,short (by rw[cJ,hnl];simp;omega),fun q3 hq3=>?_⟩));have t3:=aK (o:=.lst ((nts os).take z++[V.int k])) hq3;have y3:upd H2 q3 (.lst ((nts os).take z++[V.int k])) q3=_:=az;generalize upd H2 q3 (.lst ((nts os).take z++[V.int k]))=H3 at t3 y3;have t13:=t1.trans (t2.trans t3);refine .inl ⟨o7,_,rfl,SqL.of (t13 _ _ e7),fun q4 hq4=>?_⟩;rw[Dj _ _ (by omega)];have t4:=aK (o:=.lst ((nts os).drop z)) hq4;have y4:upd H3 q4 (.lst ((nts os).drop z)) q4=_:=az;generalize upd H3 q4 (.lst ((nts os).drop z))=H4 at t4 y4;refine .inr (.inr (.inl ⟨q3,q4,_,_,rfl,rfl,t4 _ _ y3,y4,short (by rw[cu,cJ,List.length_drop,hnl];simp;omega),fun q5 hq5=>?_⟩));have e9':=(t13.trans t4) _ _ e9;have n59:q5≠o9:=fun z=>by rw[z,e9']at hq5;cases hq5
 have em:(nts os).take z++[V.int k]++(nts os).drop z=nts (os.take z++[k]++os.drop z):=by simp[nts]
 rw[em];have t5:=aK (o:=.lst (nts (os.take z++[k]++os.drop z))) hq5;have y5:upd H4 q5 (.lst (nts (os.take z++[k]++os.drop z))) q5=_:=az;generalize upd H4 q5 (.lst (nts (os.take z++[k]++os.drop z)))=H5 at t5 y5;have t15:=t13.trans (t4.trans t5);have e95:=t15 _ _ e9;unfold sA;walk_at "wp";refine⟨b,rfl,?_⟩;cases b with
 |false=>
  rw[if_neg (by decide)];exact hD _ _ ⟨s.trans t15,_,lg,q5,r,_,_,_,xN pm,y5,e95,n59,by omega,hr,_,_,_,_,_,_,_,rfl⟩
 |true=>
  rw[if_pos rfl];refine⟨.inl ⟨rfl,_,SqL.of e95⟩,o9,_,_,rfl,rfl,e95,dX (by rw[ao];omega:(nts lg).length<=40) (by decide),?_⟩;refine hD _ _ ⟨iD (s.trans t15) f9,_,lg++[k],q5,r,_,_,_,xN pm,by rw[aY n59];exact y5,by rw[az];simp[nts],n59,by simp;omega,hr,_,_,_,_,_,_,_,rfl⟩
theorem lw_10b3(hk:k<16)(s:aP H0 H')(f9:H0 o9=none)(pm:os.Perm (aq k))(e7:H' o7=some (.lst (nts os)))(e9:H' o9=some (.lst (nts lg)))(n79:o7≠o9)(hlg:lg.length<=k)(hr:r=.non\/∃m:Int,0<=m/\r=.int m)(hD:∀σ2 H2,Lv H0 us a c o6 o9 fm (k+1) σ2 H2->D2.nx σ2 H2):
  wpB G K E m8 D2 [some (.ref a),some (.int fm),x2,x3,some (.ref c),some (.int us.length),some (.ref o6),some (.ref o7),some r,some (.ref o9),some (.int k),some (.int at0),some (.bl b),x13,x14,x15,x16,x17] H':=by
 unfold m8;walk_at "wp";rcases hr with rfl|⟨m,hm,rfl⟩
 ·rw[if_neg (by simp)]
  exact Bq hk s f9 pm e7 e9 n79 hlg (.inl rfl) hD
 ·rw[if_pos (by simp)]
  refine⟨m,_,rfl,rfl,by omega,?_⟩;unfold oh;walk_at "wp";refine⟨⟨by omega,by omega⟩,by decide,?_⟩;unfold og;walk_at "wp";refine⟨cmulL (by decide) (by decide),⟨by omega,by omega⟩,?_⟩;exact Bq hk s f9 pm e7 e9 n79 hlg (.inr ⟨_,mQ hm (by omega),rfl⟩) hD
theorem lw_10b1(hk:k<16)(s:aP H0 H')(f9:H0 o9=none)(pm:os.Perm (aq k))(e7:H' o7=some (.lst (nts os)))(e9:H' o9=some (.lst (nts lg)))(n79:o7≠o9)(hlg:lg.length<=k)(hr:r=.non\/∃m:Int,0<=m/\r=.int m)(hD:∀σ2 H2,Lv H0 us a c o6 o9 fm (k+1) σ2 H2->D2.nx σ2 H2):
  wpB G K E (.cons (.asg (.name 11) (.bin .Mod (.bin .Mult (.bin .Add (.bin .Mod (.bin .FloorDiv (.var 1) (.con (.int 7))) (.con (.int 100003))) (.con (.int 1))) (.bin .Add (.bin .Mult (.var 10) (.var 10)) (.con (.int 40692)))) (.con (.int 2147483647)))) m9) D2 [some (.ref a),some (.int fm),x2,x3,some (.ref c),some (.int us.length),some (.ref o6),some (.ref o7),some r,some (.ref o9),some (.int k),x11,x12,x13,x14,x15,x16,x17] H':=by
 have kk:0<=(k:Int)*k/\(k:Int)*k<=256:=⟨Int.mul_nonneg (by omega) (by omega),Int.le_trans (Int.mul_le_mul (by omega:(k:Int)<=16) (by omega:(k:Int)<=16) (by omega) (by decide)) (by decide)⟩;walk_at "wp";refine⟨⟨by decide,by decide⟩,by decide,rX (by omega) (by omega),rX (by omega) (by omega),by decide,?_⟩;unfold m9;walk_at "wp";refine⟨⟨by decide,by decide⟩,by decide,rX (by omega) (by omega),by decide,?_⟩;exact lw_10b3 hk s f9 pm e7 e9 n79 hlg hr hD
end
theorem lw_10(g:Gs G K CS C CN T){fm:Int}{r:V}{o7 o6:Addr}(cp:Cp0 us n H c ws)(tb:Tab T H)(e7:H o7=some (.lst []))(e6:H o6=some (.lst (nts (aq us.length))))(hrr:r=.non\/∃m:Int,0<=m/\r=.int m)(hr:D.rt=Q)(q:∀H',Q (.bl true) H'):
  wpB G K E wL D [some (.ref a),some (.int fm),x2,x3,some (.ref c),some (.int us.length),some (.ref o6),some (.ref o7),some r,x9,x10,x11,x12,x13,x14,x15,x16,x17] H:=by
 unfold wL;walk_at "wp";refine⟨bf _,fun o9 f9=>?_⟩;have s0:=aK (o:=.lst []) f9;have e9:upd H o9 (.lst []) o9=some (.lst (nts [])):=az;have e71:=s0 _ _ e7;have n79:o7≠o9:=fun z=>by rw[z,f9]at e7;cases e7
 generalize upd H o9 (.lst [])=H1 at s0 e9 e71;have hF:=cp.F.len;unfold yV;walk_at "wp";refine iJ ?_;walk_at "wp";refine⟨(us.length:Int),rfl,by omega,by omega,?_⟩;refine Kc.gX dI (Lv H us a c o6 o9 fm) ⟨s0,[],[],o7,r,_,_,_,.refl _,e71,e9,n79,ax _,hrr,_,_,_,_,_,_,_,rfl⟩ (fun _ _ _ _ _=>trivial) ?_ ?_
 ·rintro k x σ H2 H3 D2 hk ⟨s2,os,lg,o7',r',y10,y11,y12,pm,e7',e9',n79',hlg,hr',y2,y3,y13,y14,y15,y16,y17,rfl⟩ rfl s3 hD _
  have hk16:k<16:=by
   have :k<us.length:=by simpa using hk
   omega
  rw[kG];simp only[List.set_cons_succ,List.set_cons_zero,eE];exact lw_10b1 hk16 (s2.trans s3) f9 pm (s3 _ _ e7') (s3 _ _ e9') n79' hlg hr' hD
 ·rintro σ H2 ⟨s2,os,lg,o7',r',y10,y11,y12,pm,e7',e9',n79',hlg,hr',y2,y3,y13,y14,y15,y16,y17,rfl⟩
  refine lw_11 (os:=os) (lg:=lg) g ?_ (cp.same s2) ((Gr.of s2).tab tb) e7' e9' (s2 _ _ e6) hr q;simpa using pm
noncomputable def Ex(K:ae)(T:Tb):Sp:=fun vs H Q _=>∃(a:Addr)(ns:List Int),vs=[.ref a]/\SqL K H a (ns.map V.int)/\ns.length<=63/\Tab T H/\∀H',Q (.bl true) H'
theorem pr_mk{α β:Type}{F:α->β->Prop}:∀{l:List α}{m:List β},l.length=m.length->(∀(j:Nat) a b,l[j]? =some a->m[j]? =some b->F a b)->Paired F l m
 | [],[],_,_=>.nil
 |a::l,b::m,h,f=>.cons (f 0 a b rfl rfl) (pr_mk (kQ h) fun j x y e1 e2=>f (j+1) x y (by simpa using e1) (by simpa using e2))
theorem wp_law(gc:G.fn "_law_cell_at" 2=some (vD K,[]))(gm:G.fn "_law_mask" 3=some (zP,[]))(gg:G.fn "_law_grown" 4=some (spGr K,[]))(gr':G.fn "_law_rest" 2=some (K84.zO K,[]))(gn:G.fn "_law_names" 1=some (spNm,[]))(g0:G.mth "put" 2=some (CS,ub CS T,[]))(g1:G.mth "table" 0=some (CS,spTb CS T,[]))(g2:G.mth "tree" 0=some (CS,t9 K CS T,[]))(g3:G.mth "off" 1=some (CS,spOff CS C CN,[]))(g4:G.fn "_law_shelf" 2=some (spSf CS T,[])):
  Sat G K (Ex K T) GR FE:=by
 rintro vs H Q E ⟨a,ns,rfl,hs,hn63,tb,q⟩;unfold GR;change wpB G K _ _ _ [some (.ref a),none,none,none,none,none,none,none,none,none,none,none,none,none,none,none,none,none] H;walk_at "wp";refine⟨_,_,gc,a,ns,0,rfl,hs,?_⟩;generalize ns.getD 0 0=fm;unfold BP;walk_at "wp";refine⟨_,_,gc,a,ns,1,rfl,hs,?_⟩;walk_at "wp";have h0:0<=ns.getD 1 0%13:=eA _ (by decide);have h1:ns.getD 1 0%13<13:=fQ _ (by decide);obtain⟨n,hn⟩:=fC h0;rw[hn];refine⟨by decide,?_⟩;unfold BO;walk_at "wp";refine⟨_,_,gm,_,_,gg,a,ns,n,rfl,hs,hn63,by omega,fun H1 l ys us f s1 fl el hu hul ik tr=>?_⟩;refine⟨by decide,_,_,gr',a,ns,1,rfl,s1.seq hs,fun v hv=>?_⟩;refine⟨l,ys,us,n,_,v,rfl,el,ik,hu,hul,tr.ok,by omega,eA _ (by decide),hv,fun H2 p zs os bs s2 fp ep ho hb ik2=>?_⟩;have F:Fc (us.map (M6.msk n os bs)) n:=⟨by rw[ao];exact hul,by omega,fun u hu=>by
  obtain⟨w,_,rfl⟩:=aO.mp hu;exact M6.msk_ok,fun i j hij hj=>M6.msk_mis tr.ok ho.2 hb.2 ho.1 tr.mis i j hij hj⟩
 generalize us.map (M6.msk n os bs)=vs at ik2 F;have hzl:=mS ik2;unfold BN;walk_at "wp";refine⟨_,_,gn,_,rfl,.inl ⟨p,zs,rfl,.inl (SqL.of ep),?_⟩⟩;rw[hzl];refine⟨vs.length,rfl,F.len,fun H3 l3 s3 el3=>?_⟩;refine⟨_,rfl,l3,p,_,zs,rfl,SqL.of el3,SqL.of (s3 _ _ ep),by rw[ao,bI];exact aI F.len (by decide),fun H4 c ws s4 fc ec hwl hws=>?_⟩;have s14:=s1.trans (s2.trans (s3.trans s4));have hwl':ws.length=vs.length:=by rw[hwl,ao,bI,hzl,sS]
 have sh:Sh H4 ws (Lx vs):=pr_mk (by rw[hwl'];simp[Lx]) fun j w l e1 e2=>by
  have hj:j<vs.length:=by rw[<-hwl'];exact(aF.mp e1).1
  have e3:(Lx vs)[j]? =some (fK vs j):=by unfold Lx;rw[aA,bR hj];rfl
  rw[e3]at e2;cases e2;obtain⟨v',hv',r,er,hr⟩:=uj ik2 (af (by omega:j<zs.length));obtain⟨y,hy,_,hyt⟩:=hws j (.str (nmk j)) (.ref r) (by rw[aA,bR hj];rfl) (by rw[af (by omega:j<zs.length),er]);rw[hy]at e1;cases e1;have eg:vs.getD j []=v':=by rw[ah,hv'];rfl
  refine⟨y,r,rfl,hyt,?_,(GF F (p:=fun _=>true)).gd.rd (fK vs j) (eB (bF.mpr ⟨aQ.mpr hj,rfl⟩))⟩;show H4 r=some (.tup ((vs.getD j []).map V.int));rw[eg];exact s4 _ _ (s3 _ _ hr)
 unfold BL;walk_at "wp";refine .inl ⟨c,ws,rfl,.inl (SqL.of ec),?_⟩;rw[hwl'];unfold BK;walk_at "wp";refine⟨_,rfl,vs.length,rfl,aI F.len (by decide),fun o6 f6=>?_⟩;have s5:=aK (o:=.lst (nats vs.length)) f6;have e6:upd H4 o6 (.lst (nats vs.length)) o6=some (.lst (nts (aq vs.length))):=az;generalize upd H4 o6 (.lst (nats vs.length))=H5 at s5 e6;unfold BJ;walk_at "wp";refine⟨bf _,fun o7 f7=>?_⟩;have s6:=aK (o:=.lst []) f7;have e7:upd H5 o7 (.lst []) o7=some (.lst []):=az;generalize upd H5 o7 (.lst [])=H6 at s6 e7;unfold BI;walk_at "wp";have s16:=s14.trans (s5.trans s6);refine⟨_,_,gr',a,ns,0,rfl,s16.seq hs,fun r hrr=>?_⟩;exact lw_10 (us:=vs) (ws:=ws) (n:=n) ⟨g0,g1,g2,g3,g4⟩ ⟨F,s6 _ _ (s5 _ _ ec),(sh.same s5).same s6⟩ ((Gr.of s16).tab tb) e7 (s6 _ _ e6) hrr rfl q
end
end K83
namespace R
open PySem PySem.Spec PyProof.Rows L2
noncomputable def za(K:ae)(C:Addr)(m q:Str)(st:Stmt):Prop:=∃(f:Addr)(oc:Value)(od an:Option Addr)(osl:Array (Option Value))(kV doc pm cdv ct:Value),dh K (.ref C) m=some (some (.ref f))/\kZ K (.ref f)=true/\
 K.lookup f=some ⟨oc,od,.func (aD m q (bp st) (aU st) (aH st) .none kV doc pm an cdv ct),osl⟩/\di K cdv q=true/\bH K (.ref f)=true
theorem nY{K:ae}{C:Addr}{m q:Str}{st:Stmt}{f:Addr}{oc:Value}{od an:Option Addr}{osl:Array (Option Value)}{kV doc pm cdv ct:Value}(a:dh K (.ref C) m=some (some (.ref f)))(b:kZ K (.ref f)=true)
  (l:K.lookup f=some ⟨oc,od,.func (aD m q (bp st) (aU st) (aH st) .none kV doc pm an cdv ct),osl⟩)(c:di K cdv q=true)(k:bH K (.ref f)=true):za K C m q st:=
 ⟨f,oc,od,an,osl,kV,doc,pm,cdv,ct,a,b,l,c,k⟩
noncomputable def HasA(K:ae)(x y:Str)(st:Stmt):Prop:=∃(f:Addr)(oc:Value)(od an:Option Addr)(osl:Array (Option Value))(kV doc pm cdv ct:Value),cK K bq x=some (some (.ref f))/\
 K.lookup f=some ⟨oc,od,.func (aD y y (bp st) (aU st) (aH st) .none kV doc pm an cdv ct),osl⟩/\di K cdv y=true/\bH K (.ref f)=true
theorem hasA_mk{K:ae}{x y:Str}{st:Stmt}{f:Addr}{oc:Value}{od an:Option Addr}{osl:Array (Option Value)}{kV doc pm cdv ct:Value}(a:cK K bq x=some (some (.ref f)))
  (l:K.lookup f=some ⟨oc,od,.func (aD y y (bp st) (aU st) (aH st) .none kV doc pm an cdv ct),osl⟩)(c:di K cdv y=true)(k:bH K (.ref f)=true):HasA K x y st:=
 ⟨f,oc,od,an,osl,kV,doc,pm,cdv,ct,a,l,c,k⟩
section
variable {P:Program}{w:World}{K:ae}{mg:Str->Option Value}{base:Heap}{k:Nat}{vals:List (Str×V)}{fns:List ((Str×Nat)×(Sp×List V))}{x y m q:Str}{st:Stmt}{N ps:List Str}{sp:Sp}{code:CB}{inis maks mths:List ((Str×Nat)×(Addr×Sp×List V))}{dics:List (Addr×List (Key×V))}{C:Addr}
theorem add_as{h:Heap}(g:GOk P w K mg base (CXx P w) k (gam vals fns inis dics maks mths))(X:K.In h)(Gm:h.Ns bq mg)(d:HasA K x y st)
  (hc:(kE N ps (aH st)&&m6 (aH st) N code (aU st))=true)
  (hb:∀(kV doc pm:Value)(an:Option Addr)(cdv ct:Value)(us:List Value),us.length=ps.length->iZ (aD y y (bp st) (aU st) (aH st) .none kV doc pm an cdv ct) ⟨us,[]⟩=pure (ps.zip us))
  (len:∀vs H Q E,sp vs H Q E->vs.length=ps.length)
  (h:∀vs H Q E,sp vs H Q E->wpB (gam vals fns inis dics maks mths) K (fun _=>E) code {nx:=fun _ H'=>Q .non H',rt:=Q} (L2.start N vs) H):GOk P w K mg base (CXx P w) (k+1) (gam vals (((x,ps.length),(sp,[]))::fns) inis dics maks mths):=by
 rw[aj]at hc;obtain⟨f,oc,od,an,osl,kV,doc,pm,cdv,ct,a,l,c,kp⟩:=d;have F:=pj l c kp;exact g.add (n:=ps.length) (n6 F hc.1 hc.2 g len h) (cP X Gm a) kp (F.binds hb) .nil
theorem qC(n:Nat)(g:GOk P w K mg base (CXx P w) k (gam vals fns inis dics maks mths))(cl:Cls K C)(d:za K C m q st)
  (hc:(kE N ps (aH st)&&m6 (aH st) N code (aU st))=true)
  (hb:∀(kV doc pm:Value)(an:Option Addr)(cdv ct:Value)(us:List Value),us.length=ps.length->iZ (aD m q (bp st) (aU st) (aH st) .none kV doc pm an cdv ct) ⟨us,[]⟩=pure (ps.zip us))
  (len:∀vs H Q E,sp vs H Q E->vs.length=ps.length)
  (h:∀vs H Q E,sp vs H Q E->wpB (gam vals fns inis dics maks mths) K (fun _=>E) code {nx:=fun _ H'=>Q .non H',rt:=Q} (L2.start N vs) H):GOk P w K mg base (CXx P w) (k+1) (gam vals fns inis dics maks (((m,n),(C,sp,[]))::mths)):=by
 rw[aj]at hc;obtain⟨f,oc,od,an,osl,kV,doc,pm,cdv,ct,a,b,l,c,kp⟩:=d;have F:=pj l c kp;exact g.addO (n:=n) cl ⟨a,b,kp⟩ (n6 F hc.1 hc.2 g len h) (F.binds hb) .nil
theorem add_cls(n:Nat)(g:GOk P w K mg base (CXx P w) k (gam vals fns inis dics maks mths))(mk:k7 K C=true)(kc:bH K (.ref C)=true)(hm:mg x=some (.ref C))(d:za K C "__init__" q st)
  (hc:(kE N ps (aH st)&&m6 (aH st) N code (aU st))=true)
  (hb:∀(kV doc pm:Value)(an:Option Addr)(cdv ct:Value)(us:List Value),us.length=ps.length->iZ (aD "__init__" q (bp st) (aU st) (aH st) .none kV doc pm an cdv ct) ⟨us,[]⟩=pure (ps.zip us))
  (len:∀vs H Q E,sp vs H Q E->vs.length=ps.length)
  (h:∀vs H Q E,sp vs H Q E->wpB (gam vals fns inis dics maks mths) K (fun _=>E) code {nx:=fun _ H'=>Q .non H',rt:=Q} (L2.start N vs) H):GOk P w K mg base (CXx P w) (k+2) (gam vals fns inis dics (((x,n),(C,sp,[]))::maks) mths):=by
 rw[aj]at hc;obtain⟨f,oc,od,an,osl,kV,doc,pm,cdv,ct,a,b,l,c,kp⟩:=d;have F:=pj l c kp;exact g.addC (n:=n) ⟨mk,a,b,kc⟩ (n6 F hc.1 hc.2 g len h) hm (F.binds hb) .nil
end
end R
set_option maxHeartbeats 0
namespace K83
open PySem PySem.Spec PySem.Calls PyProof.Rows L2 R Cp Lt Lm
noncomputable def yx(P:PySem.Params):ae:=
 (nat_lit 2,⟨.none,none,(.dict #[] 0),#[]⟩)::
 (nat_lit 3,⟨.type "dict",none,(.dict #[⟨ak P "__name__",.str "__name__" 165,.str "law_copykin_k83_whole_any_order" 521⟩,⟨ak P "__doc__",.str "__doc__" 166,.none⟩,⟨ak P "__package__",.str "__package__" 167,.none⟩,⟨ak P "__loader__",.str "__loader__" 168,.builtin "__main__.__loader__#opaque"⟩,⟨ak P "__spec__",.str "__spec__" 169,.none⟩,⟨ak P "__annotations__",.str "__annotations__" 170,.ref 6⟩,⟨ak P "__builtins__",.str "__builtins__" 171,.ref 4⟩,⟨ak P "__file__",.str "__file__" 173,.str "/claim/cut.py" 172⟩,⟨ak P "__cached__",.str "__cached__" 174,.none⟩,⟨ak P "KinError",.str "KinError" 206,.ref 24⟩,⟨ak P "Clash",.str "Clash" 235,.ref 44⟩,⟨ak P "NoTable",.str "NoTable" 251,.ref 56⟩,⟨ak P "NoName",.str "NoName" 267,.ref 68⟩,⟨ak P "NoReading",.str "NoReading" 283,.ref 80⟩,⟨ak P "Twice",.str "Twice" 299,.ref 92⟩,⟨ak P "LETTERS",.str "LETTERS" 303,.str "abcdefghijklmnopqrstuvwxyz" 302⟩,⟨ak P "LONGEST_NAME",.str "LONGEST_NAME" 305,.int 8 304⟩,⟨ak P "MOST_PLACES",.str "MOST_PLACES" 307,.int 60 306⟩,⟨ak P "MOST_COPIES",.str "MOST_COPIES" 309,.int 40 308⟩,⟨ak P "is_whole",.str "is_whole" 316,.ref 101⟩,⟨ak P "is_name",.str "is_name" 322,.ref 106⟩,⟨ak P "is_reading",.str "is_reading" 329,.ref 113⟩,⟨ak P "are_readings",.str "are_readings" 335,.ref 118⟩,⟨ak P "is_copy",.str "is_copy" 342,.ref 125⟩,⟨ak P "is_table",.str "is_table" 348,.ref 130⟩,⟨ak P "need_table",.str "need_table" 355,.ref 137⟩,⟨ak P "need_name",.str "need_name" 361,.ref 142⟩,⟨ak P "table_list",.str "table_list" 367,.ref 147⟩,⟨ak P "with_copy",.str "with_copy" 373,.ref 152⟩,⟨ak P "without_copy",.str "without_copy" 379,.ref 157⟩,⟨ak P "place_count",.str "place_count" 386,.ref 164⟩,⟨ak P "KINDS",.str "KINDS" 397,.ref 169⟩,⟨ak P "first_of_kinds",.str "first_of_kinds" 403,.ref 174⟩,⟨ak P "clash",.str "clash" 415,.ref 181⟩,⟨ak P "refuse_clash",.str "refuse_clash" 423,.ref 188⟩,⟨ak P "group_at",.str "group_at" 437,.ref 195⟩,⟨ak P "turned",.str "turned" 443,.ref 200⟩,⟨ak P "grown",.str "grown" 449,.ref 205⟩,⟨ak P "tree",.str "tree" 457,.ref 212⟩,⟨ak P "tree_trees",.str "tree_trees" 458,.ref 212⟩,⟨ak P "Shelf",.str "Shelf" 520,.ref 257⟩,⟨ak P "_law_cell_at",.str "_law_cell_at" 530,.ref 268⟩,⟨ak P "_law_drawn",.str "_law_drawn" 538,.ref 275⟩,⟨ak P "_law_grown",.str "_law_grown" 544,.ref 280⟩,⟨ak P "_law_shape",.str "_law_shape" 550,.ref 285⟩,⟨ak P "_law_mask",.str "_law_mask" 556,.ref 290⟩,⟨ak P "_law_rest",.str "_law_rest" 564,.ref 297⟩,⟨ak P "_law_names",.str "_law_names" 570,.ref 302⟩,⟨ak P "_law_shelf",.str "_law_shelf" 580,.ref 309⟩,⟨ak P "law",.str "law" 586,.ref 314⟩] 50),#[]⟩)::
 (nat_lit 23,⟨.type "dict",none,(.dict #[⟨ak P "__module__",.str "__module__" 196,.str "copykin.errors" 187⟩,⟨ak P "__firstlineno__",.str "__firstlineno__" 200,.int 2 199⟩,⟨ak P "__static_attributes__",.str "__static_attributes__" 201,.ref 22⟩,⟨ak P "__weakref__",.str "__weakref__" 203,.ref 25⟩,⟨ak P "__doc__",.str "__doc__" 204,.none⟩] 3),#[]⟩)::
 (nat_lit 24,⟨.type "type",none,(.cls {name:="KinError",bases:=[.type "ValueError"],mro:=[.ref 24,.type "ValueError",.type "Exception",.type "BaseException",.type "object"],ns:=23,qualname:="KinError",hasDict:=true,slotNames:=[],subclasses:=[.ref 44,.ref 56,.ref 68,.ref 80,.ref 92],abstract:=false,collection:=none,hasDel:=false}),#[(some (.ref 15)),none,(some (.str "KinError" 189)),(some (.str "KinError" 197)),(some (.builtin "ValueError.__new__")),(some (.bool true))]⟩)::
 (nat_lit 55,⟨.type "dict",none,(.dict #[⟨ak P "__module__",.str "__module__" 243,.str "copykin.errors" 187⟩,⟨ak P "__firstlineno__",.str "__firstlineno__" 247,.int 11 246⟩,⟨ak P "__static_attributes__",.str "__static_attributes__" 248,.ref 54⟩,⟨ak P "__doc__",.str "__doc__" 249,.none⟩] 2),#[]⟩)::
 (nat_lit 56,⟨.type "type",none,(.cls {name:="NoTable",bases:=[.ref 24],mro:=[.ref 56,.ref 24,.type "ValueError",.type "Exception",.type "BaseException",.type "object"],ns:=55,qualname:="NoTable",hasDict:=true,slotNames:=[],subclasses:=[],abstract:=false,collection:=none,hasDel:=false}),#[(some (.ref 47)),none,(some (.str "NoTable" 236)),(some (.str "NoTable" 244)),(some (.builtin "ValueError.__new__")),(some (.bool true))]⟩)::
 (nat_lit 67,⟨.type "dict",none,(.dict #[⟨ak P "__module__",.str "__module__" 259,.str "copykin.errors" 187⟩,⟨ak P "__firstlineno__",.str "__firstlineno__" 263,.int 13 262⟩,⟨ak P "__static_attributes__",.str "__static_attributes__" 264,.ref 66⟩,⟨ak P "__doc__",.str "__doc__" 265,.none⟩] 2),#[]⟩)::
 (nat_lit 68,⟨.type "type",none,(.cls {name:="NoName",bases:=[.ref 24],mro:=[.ref 68,.ref 24,.type "ValueError",.type "Exception",.type "BaseException",.type "object"],ns:=67,qualname:="NoName",hasDict:=true,slotNames:=[],subclasses:=[],abstract:=false,collection:=none,hasDel:=false}),#[(some (.ref 59)),none,(some (.str "NoName" 252)),(some (.str "NoName" 260)),(some (.builtin "ValueError.__new__")),(some (.bool true))]⟩)::
 (nat_lit 91,⟨.type "dict",none,(.dict #[⟨ak P "__module__",.str "__module__" 291,.str "copykin.errors" 187⟩,⟨ak P "__firstlineno__",.str "__firstlineno__" 295,.int 17 294⟩,⟨ak P "__static_attributes__",.str "__static_attributes__" 296,.ref 90⟩,⟨ak P "__doc__",.str "__doc__" 297,.none⟩] 2),#[]⟩)::
 (nat_lit 92,⟨.type "type",none,(.cls {name:="Twice",bases:=[.ref 24],mro:=[.ref 92,.ref 24,.type "ValueError",.type "Exception",.type "BaseException",.type "object"],ns:=91,qualname:="Twice",hasDict:=true,slotNames:=[],subclasses:=[],abstract:=false,collection:=none,hasDel:=false}),#[(some (.ref 83)),none,(some (.str "Twice" 284)),(some (.str "Twice" 292)),(some (.builtin "ValueError.__new__")),(some (.bool true))]⟩)::
 (nat_lit 100,⟨.type "code",none,(.fields #[.str "is_whole" 310,.str "is_whole" 311,.str "/claim/cut.py" 312,.int 24 0,.int 1 0,.int 0 0,.int 0 0,.int 3 0,.ref 95,.bool true,.int 181 0,.ref 96,.none,.ref 97,.ref 98,.ref 99,.int 314 0,.int 24 0,.str "/claim/cut.py" 315]),#[]⟩)::
 (nat_lit 101,⟨.type "function",none,(.func (aD "is_whole" "is_whole" (bp (top 12)) (aU (top 12)) (aH (top 12)) .none .none .none (.str "copykin.tables" 300) none (.ref 100) .none)),#[]⟩)::
 (nat_lit 105,⟨.type "code",none,(.fields #[.str "is_name" 317,.str "is_name" 318,.str "/claim/cut.py" 319,.int 26 0,.int 1 0,.int 0 0,.int 0 0,.int 3 0,.ref 102,.bool true,.int 181 0,.ref 103,.none,.none,.none,.ref 104,.int 320 0,.int 26 0,.str "/claim/cut.py" 321]),#[]⟩)::
 (nat_lit 106,⟨.type "function",none,(.func (aD "is_name" "is_name" (bp (top 13)) (aU (top 13)) (aH (top 13)) .none .none .none (.str "copykin.tables" 300) none (.ref 105) .none)),#[]⟩)::
 (nat_lit 112,⟨.type "code",none,(.fields #[.str "is_reading" 323,.str "is_reading" 324,.str "/claim/cut.py" 325,.int 32 0,.int 1 0,.int 0 0,.int 0 0,.int 3 0,.ref 107,.bool true,.int 181 0,.ref 108,.none,.ref 109,.ref 110,.ref 111,.int 327 0,.int 32 0,.str "/claim/cut.py" 328]),#[]⟩)::
 (nat_lit 113,⟨.type "function",none,(.func (aD "is_reading" "is_reading" (bp (top 14)) (aU (top 14)) (aH (top 14)) .none .none .none (.str "copykin.tables" 300) none (.ref 112) .none)),#[]⟩)::
 (nat_lit 117,⟨.type "code",none,(.fields #[.str "are_readings" 330,.str "are_readings" 331,.str "/claim/cut.py" 332,.int 34 0,.int 1 0,.int 0 0,.int 0 0,.int 3 0,.ref 114,.bool true,.int 181 0,.ref 115,.none,.none,.none,.ref 116,.int 333 0,.int 34 0,.str "/claim/cut.py" 334]),#[]⟩)::
 (nat_lit 118,⟨.type "function",none,(.func (aD "are_readings" "are_readings" (bp (top 15)) (aU (top 15)) (aH (top 15)) .none .none .none (.str "copykin.tables" 300) none (.ref 117) .none)),#[]⟩)::
 (nat_lit 124,⟨.type "code",none,(.fields #[.str "is_copy" 336,.str "is_copy" 337,.str "/claim/cut.py" 338,.int 38 0,.int 1 0,.int 0 0,.int 0 0,.int 3 0,.ref 119,.bool true,.int 181 0,.ref 120,.none,.ref 121,.ref 122,.ref 123,.int 340 0,.int 38 0,.str "/claim/cut.py" 341]),#[]⟩)::
 (nat_lit 125,⟨.type "function",none,(.func (aD "is_copy" "is_copy" (bp (top 16)) (aU (top 16)) (aH (top 16)) .none .none .none (.str "copykin.tables" 300) none (.ref 124) .none)),#[]⟩)::
 (nat_lit 129,⟨.type "code",none,(.fields #[.str "is_table" 343,.str "is_table" 344,.str "/claim/cut.py" 345,.int 42 0,.int 1 0,.int 0 0,.int 0 0,.int 3 0,.ref 126,.bool true,.int 181 0,.ref 127,.none,.none,.none,.ref 128,.int 346 0,.int 42 0,.str "/claim/cut.py" 347]),#[]⟩)::
 (nat_lit 130,⟨.type "function",none,(.func (aD "is_table" "is_table" (bp (top 17)) (aU (top 17)) (aH (top 17)) .none .none .none (.str "copykin.tables" 300) none (.ref 129) .none)),#[]⟩)::
 (nat_lit 136,⟨.type "code",none,(.fields #[.str "need_table" 349,.str "need_table" 350,.str "/claim/cut.py" 351,.int 50 0,.int 1 0,.int 0 0,.int 0 0,.int 3 0,.ref 131,.bool true,.int 181 0,.ref 132,.none,.ref 133,.ref 134,.ref 135,.int 353 0,.int 50 0,.str "/claim/cut.py" 354]),#[]⟩)::
 (nat_lit 137,⟨.type "function",none,(.func (aD "need_table" "need_table" (bp (top 18)) (aU (top 18)) (aH (top 18)) .none .none .none (.str "copykin.tables" 300) none (.ref 136) .none)),#[]⟩)::
 (nat_lit 141,⟨.type "code",none,(.fields #[.str "need_name" 356,.str "need_name" 357,.str "/claim/cut.py" 358,.int 53 0,.int 2 0,.int 0 0,.int 0 0,.int 3 0,.ref 138,.bool true,.int 181 0,.ref 139,.none,.none,.none,.ref 140,.int 359 0,.int 53 0,.str "/claim/cut.py" 360]),#[]⟩)::
 (nat_lit 142,⟨.type "function",none,(.func (aD "need_name" "need_name" (bp (top 19)) (aU (top 19)) (aH (top 19)) .none .none .none (.str "copykin.tables" 300) none (.ref 141) .none)),#[]⟩)::
 (nat_lit 146,⟨.type "code",none,(.fields #[.str "table_list" 362,.str "table_list" 363,.str "/claim/cut.py" 364,.int 57 0,.int 1 0,.int 0 0,.int 0 0,.int 3 0,.ref 143,.bool true,.int 181 0,.ref 144,.none,.none,.none,.ref 145,.int 365 0,.int 57 0,.str "/claim/cut.py" 366]),#[]⟩)::
 (nat_lit 147,⟨.type "function",none,(.func (aD "table_list" "table_list" (bp (top 20)) (aU (top 20)) (aH (top 20)) .none .none .none (.str "copykin.tables" 300) none (.ref 146) .none)),#[]⟩)::
 (nat_lit 151,⟨.type "code",none,(.fields #[.str "with_copy" 368,.str "with_copy" 369,.str "/claim/cut.py" 370,.int 61 0,.int 3 0,.int 0 0,.int 0 0,.int 3 0,.ref 148,.bool true,.int 181 0,.ref 149,.none,.none,.none,.ref 150,.int 371 0,.int 61 0,.str "/claim/cut.py" 372]),#[]⟩)::
 (nat_lit 152,⟨.type "function",none,(.func (aD "with_copy" "with_copy" (bp (top 21)) (aU (top 21)) (aH (top 21)) .none .none .none (.str "copykin.tables" 300) none (.ref 151) .none)),#[]⟩)::
 (nat_lit 156,⟨.type "code",none,(.fields #[.str "without_copy" 374,.str "without_copy" 375,.str "/claim/cut.py" 376,.int 67 0,.int 2 0,.int 0 0,.int 0 0,.int 3 0,.ref 153,.bool true,.int 181 0,.ref 154,.none,.none,.none,.ref 155,.int 377 0,.int 67 0,.str "/claim/cut.py" 378]),#[]⟩)::
 (nat_lit 157,⟨.type "function",none,(.func (aD "without_copy" "without_copy" (bp (top 22)) (aU (top 22)) (aH (top 22)) .none .none .none (.str "copykin.tables" 300) none (.ref 156) .none)),#[]⟩)::
 (nat_lit 163,⟨.type "code",none,(.fields #[.str "place_count" 380,.str "place_count" 381,.str "/claim/cut.py" 382,.int 70 0,.int 1 0,.int 0 0,.int 0 0,.int 3 0,.ref 158,.bool true,.int 181 0,.ref 159,.none,.ref 160,.ref 161,.ref 162,.int 384 0,.int 70 0,.str "/claim/cut.py" 385]),#[]⟩)::
 (nat_lit 164,⟨.type "function",none,(.func (aD "place_count" "place_count" (bp (top 23)) (aU (top 23)) (aH (top 23)) .none .none .none (.str "copykin.tables" 300) none (.ref 163) .none)),#[]⟩)::
 (nat_lit 165,⟨.type "tuple",none,(.seq #[.int 0 389,.int 0 390] 0),#[]⟩)::
 (nat_lit 166,⟨.type "tuple",none,(.seq #[.int 0 391,.int 1 392] 0),#[]⟩)::
 (nat_lit 167,⟨.type "tuple",none,(.seq #[.int 1 393,.int 0 394] 0),#[]⟩)::
 (nat_lit 168,⟨.type "tuple",none,(.seq #[.int 1 395,.int 1 396] 0),#[]⟩)::
 (nat_lit 169,⟨.type "tuple",none,(.seq #[.ref 165,.ref 166,.ref 167,.ref 168] 0),#[]⟩)::
 (nat_lit 173,⟨.type "code",none,(.fields #[.str "first_of_kinds" 398,.str "first_of_kinds" 399,.str "/claim/cut.py" 400,.int 77 0,.int 3 0,.int 0 0,.int 0 0,.int 3 0,.ref 170,.bool true,.int 181 0,.ref 171,.none,.none,.none,.ref 172,.int 401 0,.int 77 0,.str "/claim/cut.py" 402]),#[]⟩)::
 (nat_lit 174,⟨.type "function",none,(.func (aD "first_of_kinds" "first_of_kinds" (bp (top 26)) (aU (top 26)) (aH (top 26)) .none .none .none (.str "copykin.clashes" 387) none (.ref 173) .none)),#[]⟩)::
 (nat_lit 180,⟨.type "code",none,(.fields #[.str "clash" 404,.str "clash" 405,.str "/claim/cut.py" 406,.int 84 0,.int 1 0,.int 0 0,.int 0 0,.int 3 0,.ref 175,.bool true,.int 181 0,.ref 176,.none,.ref 177,.ref 178,.ref 179,.int 413 0,.int 84 0,.str "/claim/cut.py" 414]),#[]⟩)::
 (nat_lit 181,⟨.type "function",none,(.func (aD "clash" "clash" (bp (top 27)) (aU (top 27)) (aH (top 27)) .none .none .none (.str "copykin.clashes" 387) none (.ref 180) .none)),#[]⟩)::
 (nat_lit 187,⟨.type "code",none,(.fields #[.str "refuse_clash" 416,.str "refuse_clash" 417,.str "/claim/cut.py" 418,.int 93 0,.int 1 0,.int 0 0,.int 0 0,.int 3 0,.ref 182,.bool true,.int 181 0,.ref 183,.none,.ref 184,.ref 185,.ref 186,.int 421 0,.int 93 0,.str "/claim/cut.py" 422]),#[]⟩)::
 (nat_lit 188,⟨.type "function",none,(.func (aD "refuse_clash" "refuse_clash" (bp (top 28)) (aU (top 28)) (aH (top 28)) .none .none .none (.str "copykin.clashes" 387) none (.ref 187) .none)),#[]⟩)::
 (nat_lit 194,⟨.type "code",none,(.fields #[.str "group_at" 426,.str "group_at" 427,.str "/claim/cut.py" 428,.int 98 0,.int 2 0,.int 0 0,.int 0 0,.int 3 0,.ref 189,.bool true,.int 181 0,.ref 190,.none,.ref 191,.ref 192,.ref 193,.int 435 0,.int 98 0,.str "/claim/cut.py" 436]),#[]⟩)::
 (nat_lit 195,⟨.type "function",none,(.func (aD "group_at" "group_at" (bp (top 30)) (aU (top 30)) (aH (top 30)) .none .none .none (.str "copykin.trees" 424) none (.ref 194) .none)),#[]⟩)::
 (nat_lit 199,⟨.type "code",none,(.fields #[.str "turned" 438,.str "turned" 439,.str "/claim/cut.py" 440,.int 104 0,.int 2 0,.int 0 0,.int 0 0,.int 3 0,.ref 196,.bool true,.int 181 0,.ref 197,.none,.none,.none,.ref 198,.int 441 0,.int 104 0,.str "/claim/cut.py" 442]),#[]⟩)::
 (nat_lit 200,⟨.type "function",none,(.func (aD "turned" "turned" (bp (top 31)) (aU (top 31)) (aH (top 31)) .none .none .none (.str "copykin.trees" 424) none (.ref 199) .none)),#[]⟩)::
 (nat_lit 204,⟨.type "code",none,(.fields #[.str "grown" 444,.str "grown" 445,.str "/claim/cut.py" 446,.int 106 0,.int 1 0,.int 0 0,.int 0 0,.int 3 0,.ref 201,.bool true,.int 181 0,.ref 202,.none,.none,.none,.ref 203,.int 447 0,.int 106 0,.str "/claim/cut.py" 448]),#[]⟩)::
 (nat_lit 205,⟨.type "function",none,(.func (aD "grown" "grown" (bp (top 32)) (aU (top 32)) (aH (top 32)) .none .none .none (.str "copykin.trees" 424) none (.ref 204) .none)),#[]⟩)::
 (nat_lit 211,⟨.type "code",none,(.fields #[.str "tree" 450,.str "tree" 451,.str "/claim/cut.py" 452,.int 121 0,.int 1 0,.int 0 0,.int 0 0,.int 3 0,.ref 206,.bool true,.int 181 0,.ref 207,.none,.ref 208,.ref 209,.ref 210,.int 455 0,.int 121 0,.str "/claim/cut.py" 456]),#[]⟩)::
 (nat_lit 212,⟨.type "function",none,(.func (aD "tree" "tree" (bp (top 33)) (aU (top 33)) (aH (top 33)) .none .none .none (.str "copykin.trees" 424) none (.ref 211) .none)),#[]⟩)::
 (nat_lit 225,⟨.type "code",none,(.fields #[.str "__init__" 473,.str "Shelf.__init__" 474,.str "/claim/cut.py" 475,.int 131 0,.int 1 0,.int 0 0,.int 0 0,.int 3 0,.ref 220,.bool true,.int 181 0,.ref 221,.none,.ref 222,.ref 223,.ref 224,.int 477 0,.int 131 0,.str "/claim/cut.py" 478]),#[]⟩)::
 (nat_lit 226,⟨.type "function",none,(.func (aD "__init__" "Shelf.__init__" (bp (eR 36 0)) (aU (eR 36 0)) (aH (eR 36 0)) .none .none .none (.str "copykin.shelf" 459) none (.ref 225) .none)),#[]⟩)::
 (nat_lit 232,⟨.type "code",none,(.fields #[.str "put" 480,.str "Shelf.put" 481,.str "/claim/cut.py" 482,.int 134 0,.int 3 0,.int 0 0,.int 0 0,.int 3 0,.ref 227,.bool true,.int 181 0,.ref 228,.none,.ref 229,.ref 230,.ref 231,.int 487 0,.int 134 0,.str "/claim/cut.py" 488]),#[]⟩)::
 (nat_lit 233,⟨.type "function",none,(.func (aD "put" "Shelf.put" (bp (eR 36 1)) (aU (eR 36 1)) (aH (eR 36 1)) .none .none .none (.str "copykin.shelf" 459) none (.ref 232) .none)),#[]⟩)::
 (nat_lit 239,⟨.type "code",none,(.fields #[.str "off" 490,.str "Shelf.off" 491,.str "/claim/cut.py" 492,.int 143 0,.int 2 0,.int 0 0,.int 0 0,.int 3 0,.ref 234,.bool true,.int 181 0,.ref 235,.none,.ref 236,.ref 237,.ref 238,.int 495 0,.int 143 0,.str "/claim/cut.py" 496]),#[]⟩)::
 (nat_lit 240,⟨.type "function",none,(.func (aD "off" "Shelf.off" (bp (eR 36 2)) (aU (eR 36 2)) (aH (eR 36 2)) .none .none .none (.str "copykin.shelf" 459) none (.ref 239) .none)),#[]⟩)::
 (nat_lit 246,⟨.type "code",none,(.fields #[.str "table" 498,.str "Shelf.table" 499,.str "/claim/cut.py" 500,.int 146 0,.int 1 0,.int 0 0,.int 0 0,.int 3 0,.ref 241,.bool true,.int 181 0,.ref 242,.none,.ref 243,.ref 244,.ref 245,.int 502 0,.int 146 0,.str "/claim/cut.py" 503]),#[]⟩)::
 (nat_lit 247,⟨.type "function",none,(.func (aD "table" "Shelf.table" (bp (eR 36 3)) (aU (eR 36 3)) (aH (eR 36 3)) .none .none .none (.str "copykin.shelf" 459) none (.ref 246) .none)),#[]⟩)::
 (nat_lit 253,⟨.type "code",none,(.fields #[.str "tree" 505,.str "Shelf.tree" 506,.str "/claim/cut.py" 507,.int 149 0,.int 1 0,.int 0 0,.int 0 0,.int 3 0,.ref 248,.bool true,.int 181 0,.ref 249,.none,.ref 250,.ref 251,.ref 252,.int 509 0,.int 149 0,.str "/claim/cut.py" 510]),#[]⟩)::
 (nat_lit 254,⟨.type "function",none,(.func (aD "tree" "Shelf.tree" (bp (eR 36 4)) (aU (eR 36 4)) (aH (eR 36 4)) .none .none .none (.str "copykin.shelf" 459) none (.ref 253) .none)),#[]⟩)::
 (nat_lit 256,⟨.type "dict",none,(.dict #[⟨ak P "__module__",.str "__module__" 468,.str "copykin.shelf" 459⟩,⟨ak P "__firstlineno__",.str "__firstlineno__" 472,.int 129 471⟩,⟨ak P "__init__",.str "__init__" 479,.ref 226⟩,⟨ak P "put",.str "put" 489,.ref 233⟩,⟨ak P "off",.str "off" 497,.ref 240⟩,⟨ak P "table",.str "table" 504,.ref 247⟩,⟨ak P "tree",.str "tree" 511,.ref 254⟩,⟨ak P "__static_attributes__",.str "__static_attributes__" 513,.ref 255⟩,⟨ak P "__dict__",.str "__dict__" 515,.ref 258⟩,⟨ak P "__weakref__",.str "__weakref__" 517,.ref 259⟩,⟨ak P "__doc__",.str "__doc__" 518,.none⟩] 4),#[]⟩)::
 (nat_lit 257,⟨.type "type",none,(.cls {name:="Shelf",bases:=[.type "object"],mro:=[.ref 257,.type "object"],ns:=256,qualname:="Shelf",hasDict:=true,slotNames:=[],subclasses:=[],abstract:=false,collection:=none,hasDel:=false}),#[none,none,(some (.str "Shelf" 461)),(some (.str "Shelf" 469)),(some (.builtin "object.__new__")),(some (.bool true))]⟩)::
 (nat_lit 267,⟨.type "code",none,(.fields #[.str "_law_cell_at" 523,.str "_law_cell_at" 524,.str "/claim/cut.py" 525,.int 152 0,.int 2 0,.int 0 0,.int 0 0,.int 3 0,.ref 262,.bool true,.int 181 0,.ref 263,.none,.ref 264,.ref 265,.ref 266,.int 528 0,.int 152 0,.str "/claim/cut.py" 529]),#[]⟩)::
 (nat_lit 268,⟨.type "function",none,(.func (aD "_law_cell_at" "_law_cell_at" (bp (top 38)) (aU (top 38)) (aH (top 38)) .none .none .none (.str "law_copykin_k83_whole_any_order" 521) none (.ref 267) .none)),#[]⟩)::
 (nat_lit 274,⟨.type "code",none,(.fields #[.str "_law_drawn" 531,.str "_law_drawn" 532,.str "/claim/cut.py" 533,.int 156 0,.int 2 0,.int 0 0,.int 0 0,.int 3 0,.ref 269,.bool true,.int 181 0,.ref 270,.none,.ref 271,.ref 272,.ref 273,.int 536 0,.int 156 0,.str "/claim/cut.py" 537]),#[]⟩)::
 (nat_lit 275,⟨.type "function",none,(.func (aD "_law_drawn" "_law_drawn" (bp (top 39)) (aU (top 39)) (aH (top 39)) .none .none .none (.str "law_copykin_k83_whole_any_order" 521) none (.ref 274) .none)),#[]⟩)::
 (nat_lit 279,⟨.type "code",none,(.fields #[.str "_law_grown" 539,.str "_law_grown" 540,.str "/claim/cut.py" 541,.int 160 0,.int 4 0,.int 0 0,.int 0 0,.int 3 0,.ref 276,.bool true,.int 181 0,.ref 277,.none,.none,.none,.ref 278,.int 542 0,.int 160 0,.str "/claim/cut.py" 543]),#[]⟩)::
 (nat_lit 280,⟨.type "function",none,(.func (aD "_law_grown" "_law_grown" (bp (top 40)) (aU (top 40)) (aH (top 40)) .none .none .none (.str "law_copykin_k83_whole_any_order" 521) none (.ref 279) .none)),#[]⟩)::
 (nat_lit 284,⟨.type "code",none,(.fields #[.str "_law_shape" 545,.str "_law_shape" 546,.str "/claim/cut.py" 547,.int 173 0,.int 3 0,.int 0 0,.int 0 0,.int 3 0,.ref 281,.bool true,.int 181 0,.ref 282,.none,.none,.none,.ref 283,.int 548 0,.int 173 0,.str "/claim/cut.py" 549]),#[]⟩)::
 (nat_lit 285,⟨.type "function",none,(.func (aD "_law_shape" "_law_shape" (bp (top 41)) (aU (top 41)) (aH (top 41)) .none .none .none (.str "law_copykin_k83_whole_any_order" 521) none (.ref 284) .none)),#[]⟩)::
 (nat_lit 289,⟨.type "code",none,(.fields #[.str "_law_mask" 551,.str "_law_mask" 552,.str "/claim/cut.py" 553,.int 186 0,.int 3 0,.int 0 0,.int 0 0,.int 3 0,.ref 286,.bool true,.int 181 0,.ref 287,.none,.none,.none,.ref 288,.int 554 0,.int 186 0,.str "/claim/cut.py" 555]),#[]⟩)::
 (nat_lit 290,⟨.type "function",none,(.func (aD "_law_mask" "_law_mask" (bp (top 42)) (aU (top 42)) (aH (top 42)) .none .none .none (.str "law_copykin_k83_whole_any_order" 521) none (.ref 289) .none)),#[]⟩)::
 (nat_lit 296,⟨.type "code",none,(.fields #[.str "_law_rest" 557,.str "_law_rest" 558,.str "/claim/cut.py" 559,.int 192 0,.int 2 0,.int 0 0,.int 0 0,.int 3 0,.ref 291,.bool true,.int 181 0,.ref 292,.none,.ref 293,.ref 294,.ref 295,.int 562 0,.int 192 0,.str "/claim/cut.py" 563]),#[]⟩)::
 (nat_lit 297,⟨.type "function",none,(.func (aD "_law_rest" "_law_rest" (bp (top 43)) (aU (top 43)) (aH (top 43)) .none .none .none (.str "law_copykin_k83_whole_any_order" 521) none (.ref 296) .none)),#[]⟩)::
 (nat_lit 301,⟨.type "code",none,(.fields #[.str "_law_names" 565,.str "_law_names" 566,.str "/claim/cut.py" 567,.int 196 0,.int 1 0,.int 0 0,.int 0 0,.int 3 0,.ref 298,.bool true,.int 181 0,.ref 299,.none,.none,.none,.ref 300,.int 568 0,.int 196 0,.str "/claim/cut.py" 569]),#[]⟩)::
 (nat_lit 302,⟨.type "function",none,(.func (aD "_law_names" "_law_names" (bp (top 44)) (aU (top 44)) (aH (top 44)) .none .none .none (.str "law_copykin_k83_whole_any_order" 521) none (.ref 301) .none)),#[]⟩)::
 (nat_lit 308,⟨.type "code",none,(.fields #[.str "_law_shelf" 571,.str "_law_shelf" 572,.str "/claim/cut.py" 573,.int 199 0,.int 2 0,.int 0 0,.int 0 0,.int 3 0,.ref 303,.bool true,.int 181 0,.ref 304,.none,.ref 305,.ref 306,.ref 307,.int 578 0,.int 199 0,.str "/claim/cut.py" 579]),#[]⟩)::
 (nat_lit 309,⟨.type "function",none,(.func (aD "_law_shelf" "_law_shelf" (bp (top 45)) (aU (top 45)) (aH (top 45)) .none .none .none (.str "law_copykin_k83_whole_any_order" 521) none (.ref 308) .none)),#[]⟩)::
 (nat_lit 313,⟨.type "code",none,(.fields #[.str "law" 581,.str "law" 582,.str "/claim/cut.py" 583,.int 204 0,.int 1 0,.int 0 0,.int 0 0,.int 3 0,.ref 310,.bool true,.int 181 0,.ref 311,.none,.none,.none,.ref 312,.int 584 0,.int 204 0,.str "/claim/cut.py" 585]),#[]⟩)::
 (nat_lit 314,⟨.type "function",none,(.func (aD "law" "law" (bp (top 46)) (aU (top 46)) (aH (top 46)) .none .none .none (.str "law_copykin_k83_whole_any_order" 521) none (.ref 313) .none)),#[]⟩)::[]
noncomputable def yz:List Addr:=[2,3,23,24,55,56,67,68,91,92,100,101,105,106,112,113,117,118,124,125,129,130,136,137,141,142,146,147,151,152,156,157,163,164,165,166,167,168,169,173,174,180,181,187,188,194,195,199,200,204,205,211,212,225,226,232,233,239,240,246,247,253,254,256,257,267,268,274,275,279,280,284,285,289,290,296,297,301,302,308,309,313,314]
noncomputable def lhsB(w:World):=(Hd treeTable PySem.Challenge.pw_copykin_k83_whole_any_order w 5220).map (zr (jk K83.yx K83.yz (fun _=>by kernel_rfl) [144]))
noncomputable def rhsB(w:World):=some (zq (jk K83.yx K83.yz (fun _=>by kernel_rfl) [144]) w)
theorem laidB:(seen lhsB&&seen rhsB)=true:=by k_qdec
theorem leftB(w:World):lhsB w=rhsB w:=by
 have _:=laidB;rw[PySem.W.Fast.te1977407488334168162,PySem.W.Fast.te1961270539087103208]
 kernel_rfl
theorem four_of{us:List Value}(h:us.length=4):∃a b c d,us=[a,b,c,d]:=by
 cases us with
 |nil=>exact nomatch h
 |cons a r=>
  obtain⟨b,c,d,e⟩:=Kc.jX (kQ h);exact⟨a,b,c,d,by rw[e]⟩
noncomputable def FQ(st:Stmt):Pos:=match aU st with
 |_::.Assign _ (.Call _ _ [⟨_,.Lambda _ _ _ p,_⟩] _) _::_=>p
 |_=>⟨0,0,0,0⟩
noncomputable def tb(p:Addr):Tb:=⟨p,FQ (top 20),"table_list.<locals>.<lambda>"⟩
theorem tl_ok:(kE iS nP (aH (top 20))&&chkK (aH (top 20)) iS jM 1 (.var 0) "copy" (FQ (top 20)) jL (aU (top 20)))=true:=by decide+kernel
theorem tl_q:("table_list":Str)++".<locals>."++"<lambda>"="table_list.<locals>.<lambda>":=by decide+kernel
noncomputable def vals(C CN CT CS kd:Addr):List (Str×V):=[("LETTERS",.str LETTERS),("LONGEST_NAME",.int 8),("MOST_PLACES",.int 60),("MOST_COPIES",.int 40),("NoTable",.ref C),("NoName",.ref CN),("Twice",.ref CT),("Shelf",.ref CS),("KINDS",.ref kd)]
theorem qt{K:ae}{a:Addr}{od:Option Addr}{n:Nat}{sl:Array (Option Value)}{i j:Int}{t u:Tok}(l:K.lookup a=some ⟨.type "tuple",od,.seq #[.int i t,.int j u] n,sl⟩)(H:Hp):SqT K H a [.int i,.int j]:=
 .inr ⟨_,_,_,l,rfl,rfl,by show 2<=sizeLine;decide,.cons ⟨t,rfl⟩ (.cons ⟨u,rfl⟩ .nil)⟩
theorem FU{K:ae}{kd a0 a1 a2 a3:Addr}{od o0 o1 o2 o3:Option Addr}{n n0 n1 n2 n3:Nat}{sl s0 s1 s2 s3:Array (Option Value)}{t0 t1 t2 t3 u0 u1 u2 u3:Tok}(l:K.lookup kd=some ⟨.type "tuple",od,.seq #[.ref a0,.ref a1,.ref a2,.ref a3] n,sl⟩)
  (l0:K.lookup a0=some ⟨.type "tuple",o0,.seq #[.int 0 t0,.int 0 u0] n0,s0⟩)(l1:K.lookup a1=some ⟨.type "tuple",o1,.seq #[.int 0 t1,.int 1 u1] n1,s1⟩)(l2:K.lookup a2=some ⟨.type "tuple",o2,.seq #[.int 1 t2,.int 0 u2] n2,s2⟩)(l3:K.lookup a3=some ⟨.type "tuple",o3,.seq #[.int 1 t3,.int 1 u3] n3,s3⟩):Kc.Kinds K kd:=
 ⟨a0,a1,a2,a3,fun H=>⟨.inr ⟨_,_,_,l,rfl,rfl,by show 4<=sizeLine;decide,.cons rfl (.cons rfl (.cons rfl (.cons rfl .nil)))⟩,qt l0 H,qt l1 H,qt l2 H,qt l3 H⟩⟩
noncomputable def wV(K:ae)(x:Str)(st:Stmt)(c p:Addr):Prop:=∃(f:Addr)(oc:Value)(od an:Option Addr)(osl:Array (Option Value))(kV doc pm ct:Value),cK K bq x=some (some (.ref f))/\
 K.lookup f=some ⟨oc,od,.func (aD x x (bp st) (aU st) (aH st) .none kV doc pm an (.ref c) ct),osl⟩/\di K (.ref c) x=true/\bH K (.ref f)=true/\Hg K c p=true
theorem uG{K:ae}{x:Str}{st:Stmt}{f c p:Addr}{oc:Value}{od an:Option Addr}{osl:Array (Option Value)}{kV doc pm ct:Value}(a:cK K bq x=some (some (.ref f)))
  (l:K.lookup f=some ⟨oc,od,.func (aD x x (bp st) (aU st) (aH st) .none kV doc pm an (.ref c) ct),osl⟩)(k:di K (.ref c) x=true)(q:bH K (.ref f)=true)(h:Hg K c p=true):∃c,wV K x st c p:=
 ⟨c,f,oc,od,an,osl,kV,doc,pm,ct,a,l,k,q,h⟩
theorem add_fnK{P:Program}{w:World}{K:ae}{mg:Str->Option Value}{base h:Heap}{k:Nat}{vals:List (Str×V)}{fns:List ((Str×Nat)×(Sp×List V))}{x lx:Str}{st:Stmt}{N ps:List Str}{sp:Sp}{c1:CS}{i:Nat}{ce:R.CE}{c2:CB}{T:Tb}{c:Addr}{inis:List ((Str×Nat)×(Addr×Sp×List V))}{dics:List (Addr×List (Key×V))}
  (g:GOk P w K mg base (CXx P w) k (gam vals fns inis dics))(X:K.In h)(Xb:K.In base)(Gm:h.Ns bq mg)(d:wV K x st c T.P)(hc:(kE N ps (aH st)&&chkK (aH st) N c1 i ce lx T.pos c2 (aU st))=true)(hq:x++".<locals>."++"<lambda>"=T.q)(hb:BM mg base)
  (hbd:∀(p:Pos)(body:Expr)(scope:Scope)(qual:Str)(pm ctv v:Value)(c':Addr),iZ (PySem.W.kla_fn "<lambda>" qual (nX lx p) body scope [] pm (.ref c') ctv) ⟨[v],[]⟩=pure [(lx,v)])
  (hba:∀(kV doc pm:Value)(an:Option Addr)(cdv ct:Value)(us:List Value),us.length=ps.length->iZ (aD x x (bp st) (aU st) (aH st) .none kV doc pm an cdv ct) ⟨us,[]⟩=pure (ps.zip us))(len:∀vs H Q E,sp vs H Q E->vs.length=ps.length)
  (hw:∀vs H Q E,sp vs H Q E->tp (R.wpS (gam vals fns inis dics) K (fun _=>E) c1) (tp (vq (qO K T (wpE (gam vals fns inis dics) K (fun _=>E) ce)) (kG i)) (wpB (gam vals fns inis dics) K (fun _=>E) c2)) {nx:=fun _ H'=>Q .non H',rt:=Q} (L2.start N vs) H):
  GOk P w K mg base (CXx P w) (k+1) (gam vals (((x,ps.length),(sp,[]))::fns) inis dics):=by
 rw[aj]at hc;obtain⟨f,oc,od,an,osl,kV,doc,pm,ct,a,l,q1,q2,q3⟩:=d;have F:=pj l q1 q2;exact g.add (n:=ps.length) (Gk F hc.1 hc.2 rfl (BZ Xb q3) hq hb hbd g len hw) (cP X Gm a) q2 (F.binds hba) .nil
theorem all_mk{P:Program}{w:World}{K:ae}{h:Heap}{mg:Str->Option Value}{fa p:Addr}(X:K.In h)(Gm:h.Ns bq mg)(hfa:mg "law"=some (.ref fa)){t1 t2 t3 t4:Tok}{C CN CT CS kd:Addr}
  (v1:cK K bq "LETTERS"=some (some (.str LETTERS t1)))(v2:cK K bq "LONGEST_NAME"=some (some (.int 8 t2)))(v3:cK K bq "MOST_PLACES"=some (some (.int 60 t3)))(v4:cK K bq "MOST_COPIES"=some (some (.int 40 t4)))(v5:cK K bq "NoTable"=some (some (.ref C)))(v6:cK K bq "NoName"=some (some (.ref CN)))(v7:cK K bq "Twice"=some (some (.ref CT)))(v8:cK K bq "Shelf"=some (some (.ref CS)))(v9:cK K bq "KINDS"=some (some (.ref kd)))
  (xc:XC K C)(xn:XC K CN)(xt:XC K CT)(ownCS:K82.Ow K CS)(kd0:Kc.Kinds K kd)(ha33:R.HasA K "tree_trees" "tree" (top 33))(mkCS:k7 K CS=true)(kcCS:bH K (.ref CS)=true)(hm36_0:R.za K CS "__init__" "Shelf.__init__" (eR 36 0))(hm36_1:R.za K CS "put" "Shelf.put" (eR 36 1))(hm36_2:R.za K CS "off" "Shelf.off" (eR 36 2))(hm36_3:R.za K CS "table" "Shelf.table" (eR 36 3))(hm36_4:R.za K CS "tree" "Shelf.tree" (eR 36 4))(bl:∀x∈iE,cK K bq x=some none)
  (h12:HasFn K "is_whole" (top 12))(h13:HasFn K "is_name" (top 13))(h14:HasFn K "is_reading" (top 14))(h15:HasFn K "are_readings" (top 15))(h16:HasFn K "is_copy" (top 16))(h17:HasFn K "is_table" (top 17))(h18:HasFn K "need_table" (top 18))(h19:HasFn K "need_name" (top 19))(h21:HasFn K "with_copy" (top 21))(h22:HasFn K "without_copy" (top 22))(h23:HasFn K "place_count" (top 23))(h26:HasFn K "first_of_kinds" (top 26))(h27:HasFn K "clash" (top 27))(h28:HasFn K "refuse_clash" (top 28))(h30:HasFn K "group_at" (top 30))(h31:HasFn K "turned" (top 31))(h32:HasFn K "grown" (top 32))(h38:HasFn K "_law_cell_at" (top 38))(h39:HasFn K "_law_drawn" (top 39))(h40:HasFn K "_law_grown" (top 40))(h41:HasFn K "_law_shape" (top 41))(h42:HasFn K "_law_mask" (top 42))(h43:HasFn K "_law_rest" (top 43))(h44:HasFn K "_law_names" (top 44))(h45:HasFn K "_law_shelf" (top 45))(h20:∃c,wV K "table_list" (top 20) c p)(h46:HasFn K "law" (top 46)):
  ∃fd:eN,(∀(s:Shared)(v:Value),BindsTo s fd ⟨[v],[]⟩ [("_law_script",v)])/\∀base:Heap,K.In base->base.Ns bq mg->BM mg base->gY P w K mg base CX0 34 fa fd ["_law_script"] (fun vs H Q _=>Ex K (tb p) vs H Q E0):=by
 obtain⟨f,oc',od,an,osl,kV,doc,pm,cdv,ct,a,l,c,k⟩:=id h46;have e:=hfa.symm.trans (cP X Gm a);cases e;obtain⟨cc,h20⟩:=h20;refine⟨aD "law" "law" (bp (top 46)) (aU (top 46)) (aH (top 46)) .none kV doc pm an cdv ct,fun s v=>.of_eq rfl,fun base Xb _ bm=>?_⟩;have hv:∀x v,(x,v)∈vals C CN CT CS kd->∃u,mg x=some u/\RelV v u:=by
  intro x v hm;simp only[vals,ay,bJ,or_false,Prod.mk.injEq]at hm;rcases hm with⟨rfl,rfl⟩ |⟨rfl,rfl⟩ |⟨rfl,rfl⟩ |⟨rfl,rfl⟩ |⟨rfl,rfl⟩ |⟨rfl,rfl⟩ |⟨rfl,rfl⟩ |⟨rfl,rfl⟩ |⟨rfl,rfl⟩
  ·exact⟨_,cP X Gm v1,t1,rfl⟩
  ·exact⟨_,cP X Gm v2,t2,rfl⟩
  ·exact⟨_,cP X Gm v3,t3,rfl⟩
  ·exact⟨_,cP X Gm v4,t4,rfl⟩
  ·exact⟨_,cP X Gm v5,rfl⟩
  ·exact⟨_,cP X Gm v6,rfl⟩
  ·exact⟨_,cP X Gm v7,rfl⟩
  ·exact⟨_,cP X Gm v8,rfl⟩
  ·exact⟨_,cP X Gm v9,rfl⟩
 have g0:GOk P w K mg base (CXx P w) 0 (gam (vals C CN CT CS kd) []):=GOk.start hv fun x hx=>PySem.W.mg_none_of X Gm (bl x hx);have g1:=d3 (N:=Cp.rD) (ps:=Cp.Ad) g0 (h12.def X Gm) (by decide+kernel) (fun _ _ _ _ _ _ us hl=>by obtain⟨_,rfl⟩:=Kc.fG hl;rfl) (sp:=spB isWhole) (fun vs H Q E h=>Kc.bW h fun _ h=>Kc.gy h rfl) xq;have g2:=d3 (N:=Cp.uA) (ps:=Cp.Cy) g1 (h13.def X Gm) (by decide+kernel) (fun _ _ _ _ _ _ us hl=>by obtain⟨_,rfl⟩:=Kc.fG hl;rfl) (sp:=spN) (fun vs H Q E h=>Kc.bW h fun _ h=>Kc.gy h rfl) (zB (by kernel_rfl) (by kernel_rfl));have g3:=d3 (N:=Cp.nT) (ps:=Cp.vW) g2 (h14.def X Gm) (by decide+kernel) (fun _ _ _ _ _ _ us hl=>by obtain⟨_,rfl⟩:=Kc.fG hl;rfl) (sp:=spB bG) (fun vs H Q E h=>Kc.bW h fun _ h=>Kc.gy h rfl) (tj (by kernel_rfl));have g4:=d3 (N:=Cp.lu) (ps:=Cp.rn) g3 (h15.def X Gm) (by decide+kernel) (fun _ _ _ _ _ _ us hl=>by obtain⟨_,rfl⟩:=Kc.fG hl;rfl) (sp:=spR) (fun vs H Q E h=>Kc.bW h fun _ h=>Kc.gy h rfl) (qe (by kernel_rfl) (by kernel_rfl));have g5:=d3 (N:=Cp.uB) (ps:=Cp.Cz) g4 (h16.def X Gm) (by decide+kernel) (fun _ _ _ _ _ _ us hl=>by obtain⟨_,rfl⟩:=Kc.fG hl;rfl) (sp:=spC) (fun vs H Q E h=>Kc.bW h fun _ h=>Kc.gy h rfl) (zC (by kernel_rfl) (by kernel_rfl));have g6:=d3 (N:=Cp.rE) (ps:=Cp.Ae) g5 (h17.def X Gm) (by decide+kernel) (fun _ _ _ _ _ _ us hl=>by obtain⟨_,rfl⟩:=Kc.fG hl;rfl) (sp:=Cp.spT) (fun vs H Q E h=>Kc.bW h fun _ h=>Kc.gy h rfl) (xr (by kernel_rfl) (by kernel_rfl));have g7:=d3 (N:=Cp.nS) (ps:=Cp.vV) g6 (h18.def X Gm) (by decide+kernel) (fun _ _ _ _ _ _ us hl=>by obtain⟨_,rfl⟩:=Kc.fG hl;rfl) (sp:=oS C) (fun vs H Q E h=>Kc.bW h fun _ h=>Kc.gy h rfl) (tf (by kernel_rfl) (by kernel_rfl) xc);have g8:=d3 (N:=K32.pI) (ps:=K32.xR) g7 (h19.def X Gm) (by decide+kernel) (fun _ _ _ _ _ _ us hl=>by obtain⟨_,_,rfl⟩:=Kc.jB hl;rfl) (sp:=K32.qS C CN) (fun vs H Q E h=>Kc.bW h fun _ h=>Kc.bW h fun _ h=>Kc.gy h rfl) (K32.B7 (C:=C) (CN:=CN) (by kernel_rfl) (by kernel_rfl) (by kernel_rfl) xn);have g9:=add_fnK (T:=tb p) (N:=iS) (ps:=nP) (lx:="copy") g8 X Xb Gm h20 tl_ok tl_q bm (fun _ _ _ _ _ _ _ _=>rfl) (fun _ _ _ _ _ _ us hl=>by obtain⟨_,rfl⟩:=Kc.fG hl;rfl) (sp:=qT C (tb p)) (fun vs H Q E h=>Kc.bW h fun _ h=>Kc.gy h rfl) (td (C:=C) (by kernel_rfl));have g10:=d3 (N:=K82.pH) (ps:=K82.xQ) g9 (h21.def X Gm) (by decide+kernel) (fun _ _ _ _ _ _ us hl=>by obtain⟨_,_,_,rfl⟩:=Kc.jX hl;rfl) (sp:=K82.spWc CT C) (fun vs H Q E h=>Kc.bW h fun _ h=>Kc.bW h fun _ h=>Kc.bW h fun _ h=>Kc.bW h fun _ h=>Kc.bW h fun _ h=>Kc.bW h fun _ h=>Kc.gy h rfl) (K82.wp_wc (C:=C) (CT:=CT) (by kernel_rfl) xt (by kernel_rfl));have g11:=d3 (N:=K82.lq) (ps:=K82.rj) g10 (h22.def X Gm) (by decide+kernel) (fun _ _ _ _ _ _ us hl=>by obtain⟨_,_,rfl⟩:=Kc.jB hl;rfl) (sp:=K82.spWo C CN) (fun vs H Q E h=>Kc.bW h fun _ h=>Kc.bW h fun _ h=>Kc.bW h fun _ h=>Kc.bW h fun _ h=>Kc.gy h rfl) (K82.wp_wo (C:=C) (CN:=CN) (by kernel_rfl));have g12:=d3 (N:=Cp.mo) (ps:=Cp.tB) g11 (h23.def X Gm) (by decide+kernel) (fun _ _ _ _ _ _ us hl=>by obtain⟨_,rfl⟩:=Kc.fG hl;rfl) (sp:=vB C) (fun vs H Q E h=>Kc.bW h fun _ h=>Kc.gy h rfl) (qL (C:=C) (by kernel_rfl));have g13:=d3 (N:=Kc.jY) (ps:=Kc.oY) g12 (h26.def X Gm) (by decide+kernel) (fun _ _ _ _ _ _ us hl=>by obtain⟨_,_,_,rfl⟩:=Kc.jX hl;rfl) (sp:=Kc.vz) (fun vs H Q E h=>Kc.bW h fun _ h=>Kc.bW h fun _ h=>Kc.bW h fun _ h=>Kc.bW h fun _ h=>Kc.bW h fun _ h=>Kc.gy h rfl) (Kc.Ea (by kernel_rfl) kd0);have g14:=d3 (N:=K22.Bp) (ps:=K22.p_clash) g13 (h27.def X Gm) (by decide+kernel) (fun _ _ _ _ _ _ us hl=>by obtain⟨_,rfl⟩:=Kc.fG hl;rfl) (sp:=K22.vC C (tb p)) (fun vs H Q E h=>Kc.bW h fun _ h=>Kc.gy h rfl) (K22.Ec (C:=C) (T:=tb p) (by kernel_rfl) (by kernel_rfl) (by kernel_rfl));have g15:=d3 (N:=K83.lr) (ps:=K83.rm) g14 (h28.def X Gm) (by decide+kernel) (fun _ _ _ _ _ _ us hl=>by obtain⟨_,rfl⟩:=Kc.fG hl;rfl) (sp:=AS (tb p)) (fun vs H Q E h=>Kc.bW h fun _ h=>Kc.gy h rfl) (wp_ref (C:=C) (T:=tb p) (by kernel_rfl));have g16:=d3 (N:=K32.rF) (ps:=K32.Af) g15 (h30.def X Gm) (by decide+kernel) (fun _ _ _ _ _ _ us hl=>by obtain⟨_,_,rfl⟩:=Kc.jB hl;rfl) (sp:=K32.vy) (fun vs H Q E h=>Kc.bW h fun _ h=>Kc.bW h fun _ h=>Kc.bW h fun _ h=>Kc.bW h fun _ h=>Kc.bW h fun _ h=>Kc.gy h rfl) K32.D9;have g17:=d3 (N:=K32.yg) (ps:=K32.Fp) g16 (h31.def X Gm) (by decide+kernel) (fun _ _ _ _ _ _ us hl=>by obtain⟨_,_,rfl⟩:=Kc.jB hl;rfl) (sp:=K32.lb K) (fun vs H Q E h=>Kc.bW h fun _ h=>Kc.bW h fun _ h=>Kc.bW h fun _ h=>Kc.bW h fun _ h=>Kc.gy h rfl) K32.B6;have g18:=d3 (N:=K32.Bo) (ps:=K32.p_grown) g17 (h32.def X Gm) (by decide+kernel) (fun _ _ _ _ _ _ us hl=>by obtain⟨_,rfl⟩:=Kc.fG hl;rfl) (sp:=K32.qU) (fun vs H Q E h=>Kc.bW h fun _ h=>Kc.bW h fun _ h=>Kc.bW h fun _ h=>Kc.bW h fun _ h=>Kc.gy h rfl) (K32.B8 (by kernel_rfl) (by kernel_rfl));have g19:=R.add_as (N:=K32.FD) (ps:=K32.p_tree) g18 X Gm ha33 (by decide+kernel) (fun _ _ _ _ _ _ us hl=>by obtain⟨_,rfl⟩:=Kc.fG hl;rfl) (sp:=zM (tb p)) (fun vs H Q E h=>Kc.bW h fun _ h=>Kc.gy h rfl) (K83.wp_tree (C:=C) (T:=tb p) (by kernel_rfl) (by kernel_rfl) (by kernel_rfl));have g20:=R.add_cls 0 (x:="Shelf") (N:=K82.kF) (ps:=K82.qf) g19 mkCS kcCS (cP X Gm v8) hm36_0 (by decide+kernel) (fun _ _ _ _ _ _ us hl=>by obtain⟨_,rfl⟩:=Kc.fG hl;rfl) (sp:=K82.spIni CS) (fun vs H Q E h=>Kc.bW h fun _ h=>Kc.bW h fun _ h=>Kc.gy h rfl) (K82.wp_ini ownCS);have g21:=R.qC 2 (N:=K83.rG) (ps:=K83.Ag) g20 ownCS.c hm36_1 (by decide+kernel) (fun _ _ _ _ _ _ us hl=>by obtain⟨_,_,_,rfl⟩:=Kc.jX hl;rfl) (sp:=ub CS (tb p)) (fun vs H Q E h=>Kc.bW h fun _ h=>Kc.bW h fun _ h=>Kc.bW h fun _ h=>Kc.bW h fun _ h=>Kc.bW h fun _ h=>Kc.bW h fun _ h=>Kc.bW h fun _ h=>Kc.bW h fun _ h=>Kc.bW h fun _ h=>Kc.gy h rfl) (K83.wp_put (C:=C) (CT:=CT) (T:=tb p) ownCS (by kernel_rfl) (by kernel_rfl) (by kernel_rfl) (by kernel_rfl));have g22:=R.qC 1 (N:=K82.rH) (ps:=K82.Ah) g21 ownCS.c hm36_2 (by decide+kernel) (fun _ _ _ _ _ _ us hl=>by obtain⟨_,_,rfl⟩:=Kc.jB hl;rfl) (sp:=K82.spOff CS C CN) (fun vs H Q E h=>Kc.bW h fun _ h=>Kc.bW h fun _ h=>Kc.bW h fun _ h=>Kc.bW h fun _ h=>Kc.bW h fun _ h=>Kc.bW h fun _ h=>Kc.gy h rfl) (K82.wp_off (C:=C) (CN:=CN) ownCS (by kernel_rfl));have g23:=R.qC 0 (N:=K82.nU) (ps:=K82.vX) g22 ownCS.c hm36_3 (by decide+kernel) (fun _ _ _ _ _ _ us hl=>by obtain⟨_,rfl⟩:=Kc.fG hl;rfl) (sp:=K82.spTb CS (tb p)) (fun vs H Q E h=>Kc.bW h fun _ h=>Kc.bW h fun _ h=>Kc.bW h fun _ h=>Kc.bW h fun _ h=>Kc.bW h fun _ h=>Kc.gy h rfl) (K82.wp_tb (C:=C) (T:=tb p) ownCS (by kernel_rfl));have g24:=R.qC 0 (N:=K82.pO) (ps:=K82.xX) g23 ownCS.c hm36_4 (by decide+kernel) (fun _ _ _ _ _ _ us hl=>by obtain⟨_,rfl⟩:=Kc.fG hl;rfl) (sp:=t9 K CS (tb p)) (fun vs H Q E h=>Kc.bW h fun _ h=>Kc.bW h fun _ h=>Kc.bW h fun _ h=>Kc.bW h fun _ h=>Kc.bW h fun _ h=>Kc.bW h fun _ h=>Kc.gy h rfl) (wp_trS (T:=tb p) ownCS (by kernel_rfl));have g25:=d3 (N:=Lt.mq) (ps:=Lt.tE) g24 (h38.def X Gm) (by decide+kernel) (fun _ _ _ _ _ _ us hl=>by obtain⟨_,_,rfl⟩:=Kc.jB hl;rfl) (sp:=Lt.vD K) (fun vs H Q E h=>Kc.bW h fun _ h=>Kc.bW h fun _ h=>Kc.bW h fun _ h=>Kc.gy h rfl) Lt.wp_cell;have g26:=d3 (N:=K84.pN) (ps:=K84.xW) g25 (h39.def X Gm) (by decide+kernel) (fun _ _ _ _ _ _ us hl=>by obtain⟨_,_,rfl⟩:=Kc.jB hl;rfl) (sp:=K84.vA K) (fun vs H Q E h=>Kc.bW h fun _ h=>Kc.bW h fun _ h=>Kc.bW h fun _ h=>Kc.gy h rfl) K84.Eb;have g27:=d3 (N:=K84.pM) (ps:=K84.xV) g26 (h40.def X Gm) (by decide+kernel) (fun _ _ _ _ _ _ us hl=>by obtain⟨_,_,_,_,rfl⟩:=four_of hl;rfl) (sp:=spGr K) (fun vs H Q E h=>Kc.bW h fun _ h=>Kc.bW h fun _ h=>Kc.bW h fun _ h=>Kc.gy h rfl) (K83.wp_gr (by kernel_rfl));have g28:=d3 (N:=K84.pK) (ps:=K84.xT) g27 (h41.def X Gm) (by decide+kernel) (fun _ _ _ _ _ _ us hl=>by obtain⟨_,_,_,rfl⟩:=Kc.jX hl;rfl) (sp:=K84.vx) (fun vs H Q E h=>Kc.bW h fun _ h=>Kc.bW h fun _ h=>Kc.bW h fun _ h=>Kc.gy h rfl) K84.D7;have g29:=d3 (N:=K84.rC) (ps:=K84.Ac) g28 (h42.def X Gm) (by decide+kernel) (fun _ _ _ _ _ _ us hl=>by obtain⟨_,_,_,rfl⟩:=Kc.jX hl;rfl) (sp:=zP) (fun vs H Q E h=>Kc.bW h fun _ h=>Kc.bW h fun _ h=>Kc.bW h fun _ h=>Kc.bW h fun _ h=>Kc.bW h fun _ h=>Kc.bW h fun _ h=>Kc.gy h rfl) (K83.wp_mask (by kernel_rfl));have g30:=d3 (N:=K84.rB) (ps:=K84.Ab) g29 (h43.def X Gm) (by decide+kernel) (fun _ _ _ _ _ _ us hl=>by obtain⟨_,_,rfl⟩:=Kc.jB hl;rfl) (sp:=K84.zO K) (fun vs H Q E h=>Kc.bW h fun _ h=>Kc.bW h fun _ h=>Kc.bW h fun _ h=>Kc.gy h rfl) (K84.wp_rest (by kernel_rfl));have g31:=d3 (N:=K83.pL) (ps:=K83.xU) g30 (h44.def X Gm) (by decide+kernel) (fun _ _ _ _ _ _ us hl=>by obtain⟨_,rfl⟩:=Kc.fG hl;rfl) (sp:=spNm) (fun vs H Q E h=>Kc.bW h fun _ h=>Kc.gy h rfl) wp_nm;have g32:=d3 (N:=K83.pJ) (ps:=K83.xS) g31 (h45.def X Gm) (by decide+kernel) (fun _ _ _ _ _ _ us hl=>by obtain⟨_,_,rfl⟩:=Kc.jB hl;rfl) (sp:=spSf CS (tb p)) (fun vs H Q E h=>Kc.bW h fun _ h=>Kc.bW h fun _ h=>Kc.bW h fun _ h=>Kc.bW h fun _ h=>Kc.bW h fun _ h=>Kc.bW h fun _ h=>Kc.gy h rfl) (wp_sf (T:=tb p) (by kernel_rfl) (by kernel_rfl));have hk:(kE K83.FE K83.p_law (aH (top 46))&&m6 (aH (top 46)) K83.FE K83.GR (aU (top 46)))=true:=by decide+kernel
 rw[aj]at hk;exact gY.calm (n6 (pj l c k) hk.1 hk.2 g32 (fun vs H Q E h=>Kc.bW h fun _ h=>Kc.bW h fun _ h=>Kc.gy h rfl) (wp_law (C:=C) (CN:=CN) (CS:=CS) (T:=tb p) (by kernel_rfl) (by kernel_rfl) (by kernel_rfl) (by kernel_rfl) (by kernel_rfl) (by kernel_rfl) (by kernel_rfl) (by kernel_rfl) (by kernel_rfl) (by kernel_rfl)))
end K83
open PySem PySem.W PyProof.Rows
set_option maxRecDepth 100000 in
set_option maxHeartbeats 0 in
theorem PySem.Challenge.cw_copykin_k83_whole_any_order_holds : PySem.Challenge.rw_copykin_k83_whole_any_order.Holds := by
 w_on;o_law
 refine PySem.W.holds_open (q:=K83.vw) (loose:=K83.loo) (Xt:=K83.xt)
  (XP:=PySem.W.XL K83.vw []) (Yf:=zr (jk K83.yx K83.yz (fun _=>by kernel_rfl) [144])) (Ya:=zq (jk K83.yx K83.yz (fun _=>by kernel_rfl) [144]))
  (YP:=PySem.W.Hook.says (jk K83.yx K83.yz (fun _=>by kernel_rfl) [144])) (N:=5220) (fun w=>K83.both (K83.leftA w) (K83.leftB w)) (PySem.W.Hook.of _) (PySem.W.Hook.keeps _)
  (fun s e=>PySem.W.xl_of s (i6.mp e).1) PySem.W.XL.keeps
  (by rfl) (by rfl) (by rfl)
  (fun s e=>PySem.W.recFacts_of (i6.mp e).2) rfl (by assumption) (by decide+kernel)
  ⟨rfl,rfl,rfl,rfl,rfl,by decide+kernel⟩ ?hw ?hc
 (case hw=>w_witness2)
 k_fill
 refine Lm.Ed (l:=PySem.Challenge.rw_copykin_k83_whole_any_order) (n:=63) (k:=34) (x:="_law_script") (CX:=L2.CX0) (sp:=fun K=>fun vs H Q _=>K83.Ex K (K83.tb 144) vs H Q L2.E0) (tabs:=[144]) rfl (by decide) rfl ⟨rfl,by decide,by decide⟩ (fun w h Y=>He Y) ?T ?F (fun K H a ns hl ht hS=>⟨a,ns,rfl,hS,hl,.inl (ht 144 (aL.mpr rfl)),fun _=>rfl⟩) (fun _ _ _ _ z=>z)
 case T=>
  intro w s₀ mg mb h G Y p hp;obtain rfl:=aL.mp hp;have KX:=He Y;have T:=PySem.W.km_tabs_of Y 144 (aL.mpr rfl);have F:∃c,K83.wV (L2.KOf KX) "table_list" (K83.top 20) c 144:=by
   dsimp only[L2.KOf];refine' K83.uG ?ta ?tl ?tk ?tq ?th;(case ta=>k_is);(case tl=>k_is);(case tk=>k_is);(case tq=>k_is);(case th=>first |k_is|kernel_rfl)
  obtain⟨c,_,_,_,_,_,_,_,_,_,_,_,_,_,q⟩:=F;exact⟨T,((BZ KX q).tab T).isCodeTable,by kernel_rfl⟩
 case F=>
  intro w mg fa h KX G hmg;refine' K83.all_mk (p:=144) KX G hmg ?v1 ?v2 ?v3 ?v4 ?v5 ?v6 ?v7 ?v8 ?v9 ?xc ?xn ?xt ?ownCS ?kd0 ?ha33 ?mkCS ?kcCS ?hm36_0 ?hm36_1 ?hm36_2 ?hm36_3 ?hm36_4 ?bl ?h12 ?h13 ?h14 ?h15 ?h16 ?h17 ?h18 ?h19 ?h21 ?h22 ?h23 ?h26 ?h27 ?h28 ?h30 ?h31 ?h32 ?h38 ?h39 ?h40 ?h41 ?h42 ?h43 ?h44 ?h45 ?h20 ?h46
  (case v1=>k_is);(case v2=>k_is);(case v3=>k_is);(case v4=>k_is);(case v5=>k_is);(case v6=>k_is);(case v7=>k_is);(case v8=>k_is);(case v9=>k_is)
  (case xc=>refine'⟨?x1,?x2⟩;(case x1=>k_is);(case x2=>k_exc))
  (case xn=>refine'⟨?x1,?x2⟩;(case x1=>k_is);(case x2=>k_exc))
  (case xt=>refine'⟨?x1,?x2⟩;(case x1=>k_is);(case x2=>k_exc))
  (case ownCS=>refine'⟨⟨?c1,?c2,?c3,?c4⟩,?n⟩;(case c1=>first |k_is|kernel_rfl);(case c2=>first |k_is|kernel_rfl);(case c3=>first |k_is|kernel_rfl);(case c4=>k_is);(case n=>unfold L2.lK;k_is))
  (case kd0=>refine' K83.FU ?l ?l0 ?l1 ?l2 ?l3;(case l=>k_is);(case l0=>k_is);(case l1=>k_is);(case l2=>k_is);(case l3=>k_is))
  (case ha33=>refine' R.hasA_mk ?a ?l ?c ?k;(case a=>k_is);(case l=>k_is);(case c=>k_is);(case k=>k_is))
  (case mkCS=>first |k_is|kernel_rfl)
  (case kcCS=>k_is)
  (case hm36_0=>refine' R.nY ?a ?b ?l ?c ?k;(case a=>k_is);(case b=>first |k_is|kernel_rfl);(case l=>k_is);(case c=>k_is);(case k=>k_is))
  (case hm36_1=>refine' R.nY ?a ?b ?l ?c ?k;(case a=>k_is);(case b=>first |k_is|kernel_rfl);(case l=>k_is);(case c=>k_is);(case k=>k_is))
  (case hm36_2=>refine' R.nY ?a ?b ?l ?c ?k;(case a=>k_is);(case b=>first |k_is|kernel_rfl);(case l=>k_is);(case c=>k_is);(case k=>k_is))
  (case hm36_3=>refine' R.nY ?a ?b ?l ?c ?k;(case a=>k_is);(case b=>first |k_is|kernel_rfl);(case l=>k_is);(case c=>k_is);(case k=>k_is))
  (case hm36_4=>refine' R.nY ?a ?b ?l ?c ?k;(case a=>k_is);(case b=>first |k_is|kernel_rfl);(case l=>k_is);(case c=>k_is);(case k=>k_is))
  (case bl=>
   intro x hx;simp only[R.iE,ay,bJ,or_false]at hx;rcases hx with rfl|rfl|rfl|rfl|rfl|rfl|rfl|rfl|rfl|rfl|rfl|rfl|rfl|rfl|rfl|rfl|rfl|rfl|rfl<;>k_is)
  (case h20=>refine' K83.uG ?ua ?ul ?uk ?uq ?uh;(case ua=>k_is);(case ul=>k_is);(case uk=>k_is);(case uq=>k_is);(case uh=>first |k_is|kernel_rfl))
  all_goals(refine' R.Ga ?a ?l ?c ?k;(case a=>k_is);(case l=>k_is);(case c=>k_is);(case k=>k_is))
