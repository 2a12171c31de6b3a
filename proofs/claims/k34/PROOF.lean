import PyProof.Rows.All
import Wide.All
import OpenK.AllK
import Wide.FinOn
import Lean
import PyProof.EqAt
import PyProof.EqKinds
import PyProof.TupleCall
import PyProof.NeKinds
import PySem.Challenge.RW_copykin_k34_whole_any_order
open Array renaming length_toList → aO, getElem?_toList → bA, getElem?_eq_getElem → bH, getD_eq_getD_getElem? → bZ, getElem?_eq_some_iff → cI, size_map → eR, getElem?_setIfInBounds → fZ, perm_iff_toList_perm → gI, mem_toList_iff → jr, forIn_toList → kG, replicate → mW, getElem?_map → qw, ext' → IK
open Bool renaming false_ne_true → aD, false_eq_true → aE, and_eq_true → aL, or_eq_true → dj, not_true → dJ, false_and → dN, eq_iff_iff → eH, true_and → eP, and_false → fM, eq_false_iff → gE, and_eq_true_iff → E1
open Classical renaming byContradiction → aR, not_forall → eV, not_imp → j6, epsilon_spec → yA
open False renaming elim → kE
open ForInStep renaming yield → gV
open Int renaming toNat_natCast → aP, emod_nonneg → bG, emod_lt_of_pos → bV, eq_ofNat_of_zero_le → dD, zero_add → d7, fdiv_eq_ediv_of_nonneg → Al
open Int.ofNat renaming inj → u6
open Lean.Name renaming str → cy, anonymous → AB
open List renaming getElem?_eq_getElem → ae, getD_eq_getElem?_getD → ag, length_map → ai, getElem?_map → ak, mem_map → ao, range → aq, size_toArray → ay, mem_cons → aB, mem_singleton → aC, getElem?_eq_some_iff → aF, mem_of_getElem? → aG, mem_cons_of_mem → aH, mem_cons_self → aI, mem_range → aK, length_eq_zero_iff → aX, getElem?_range → a6, mem_append_right → a8, map_map → bg, lookup_cons → bo, map_cons → bp, length_range → bq, getElem_mem → bu, getElem?_eq_none → bB, all_eq_true → bE, mem_append → bF, mem_iff_getElem? → bJ, pairwise_map → bQ, length_take → bR, length_cons → bS, nodup_cons → bU, mem_map_of_mem → bY, map_congr_left → cm, any_eq_true → cw, length_append → cC, map_append → cH, getElem_map → cJ, ext_getElem → cK, getElem?_append_right → cX, take_add_one → dc, nodup_append → de, not_mem_nil → dy, mem_iff_getElem → dz, getElem_inj → dY, toArray → dZ, mem_filter → eE, foldl_cons → eF, length_pos_iff → eK, take_of_length_le → eN, take_length → eQ, pairwise_iff_getElem → eY, getElem?_append_left → eZ, map_id → fu, getElem?_take_of_lt → fA, eraseIdx_eq_take_drop_succ → fC, take → gp, ext_getElem? → gB, nodup_nil → gJ, nodup_range → gU, find?_cons → iJ, getElem?_drop → iM, replicate → iX, append_assoc → iY, mem_reverse → jf, mem_of_mem_take → jv, mem_append_left → jw, lookup → jx, length → jy, filterMap_cons → jP, zip_cons_cons → kI, find?_eq_none → kJ, filter_append → kK, pairwise_singleton → lP, pairwise_lt_range → mU, map_nil → mV, length_nil → m7, append_nil → m8, length_singleton → nP, getElem?_toArray → nQ, mem_erase_of_ne → ou, toList_toArray → pO, map_eq_nil_iff → pP, filter_sublist → pQ, map_take → qr, mem_filterMap → qS, lookup_append → qT, take_sublist → rR, eraseIdxIfInBounds_toArray → uv, cons_append → uB, of_mem_zip → wA, nodup_iff_pairwise_ne → yE, length_eraseIdx_of_lt → yF, forIn_nil → yG, drop_zero → yH, mem_of_find?_eq_some → Aj, getElem?_eq_none_iff → Ak, map_drop → Ax, length_erase_of_mem → Ay, any_cons → Az, all_cons → AA, getElem?_cons_succ → B1, length_pos_of_mem → Dl, getElem?_set_self → Dm, perm_cons_erase → EX, getElem?_set_ne → EY
open List.Pairwise renaming and_mem → eG, nil → jz
open List.Perm renaming refl → dW, eq_of_pairwise → gR, swap → jI
open List.cons renaming injEq → rD
open Nat renaming le_refl → ax, ne_of_lt → aJ, zero_le → a7, lt_succ_of_lt → a9, le_trans → ba, lt_of_lt_of_le → bc, lt_succ_self → bT, lt_of_le_of_lt → cP, le_add_right → cQ, ne_of_gt → dq, lt_irrefl → dM, le_succ → d8, le_succ_of_le → fz, lt_trans → fY, not_lt_zero → gh, not_lt → gQ, le_of_not_lt → hO, le_of_lt → hU, mod_lt → k6, le_of_eq → m6, eq_of_testBit_eq → pJ, zero_add → ur, sub_self → uu, strongRecOn → yw, le_antisymm → yx, max_le → Ai, sub_zero → EO, min_self → ER, and_self → ES
open Nat.succ renaming inj → pN
open Ne renaming symm → cb
open Option renaming isSome_iff_exists → fq, isNone_iff_eq_none → gO, isSome_some → iu, map_some → ju, getD_none → rQ, map_eq_some_iff → Aw, isSome_none → EW
open Option.some renaming inj → aT, injEq → jJ
open PyProof.Rows renaming IntsAre → cf, callWith_type1 → cu, listUpdate_at → fQ, slot_tuple_getitem → iq, callWith_builtin1 → iL, boot_list → kH, AllBare → mX, tupleItemsOf_ → m5, subscriptTail_builtinR → pI, get?_update_seq → pL, entry_list_sort → pM, slot_list_sort → rm, seqEpoch_at → rA, boot_tuple → uo, size_push' → uY, boot_int → u5, plain_sorted → yo, entry_sorted → yr, StrsAre → yu, kind_sorted → Aq, sortedHeap → EF, args_list_sort → EL, subscriptTail → Iz, sortedAll_old → IA
open PyProof.Rows.F renaming plain_set_update_loop → cz, entry_set_update_loop → dX
open PySem renaming wpAny_bind → aa, wpAny_pure → aj, SetTable → aM, wpAny_holding → bf, mem_of_lookup → bj, wpAny_newObj_type → bx, mainGlobals → bM, starEach → bP, wpAny_setState_of → bX, IsTupleKey → cn, wpAny_call_entry → cB, codeAny_builtin → cL, cellsFrom → cM, wpAny_truthy_bool → cU, compareOp → da, wpAny_seqItems → du, plainId_quiet → dw, wpAny_setField_rec → dE, wpAny_callSpecial?_slot → dH, wpAny_askSetting → dI, NameKind → d5, Fin → eA, wpAny_field → eW, binaryOp → fh, assignEach → fj, bootBuiltins → fL, wpAny_mono → fP, wpAny_tryCatch → fW, scanBound → fX, wpAny_letGo → gu, wpAny_rule → gw, wpAny_pyIter_tuple → gy, wpAny_Call_Name_kw → gz, sysModules → gA, FuncData → gH, codeAny → gT, strIterType → ip, seqItems? → iG, pickOrder → iH, wpAny_updateSeq → iW, recursionLimit → jl, foldedSetIterable → jo, wpAny_isInstance → jK, wpAny_forIn_list → jL, wpAny_eqBool_int → jM, wpAny_standAt → jZ, wpAny_newList → j4, sliceBounds → kB, GenState → kD, wpAny_passesOwn → kY, wpAny_richCompare_same_room → lB, codeAny_mono → lC, noteFrame → lK, setsByText → lM, builtinsNs → lN, wpAny_storeSet_of → mO, wpAny_pyIter_list → mP, wpAny_of_eq → mQ, seqIndex_of → mR, fits_of_scanBound → mS, atKey_none_of_get → mT, tupleKind → n9, relayAll → og, bindArgs → oh, wpAny_typeOf → pH, letOwnedTupleGo → pK, wpAny_setField → rj, sizeLine_eq → rp, setField → rq, firstArgMember → rB, swapsWith → rP, wpAny_attempt → uw, wpAny_eqBool_tuple → uX, call_meets → uZ, setAddHashed → yn, setFlight → Af, noFill_tuple_add → Ag, richCompare → Ap, wpAny_specialOf → BY, Within → B0, callerA → Dh, wpAny_Name → EE, raiseNew → EG, isSubtype_type → EH, dictSetDefault → EI, closureFor → EJ, checkCount → EK, swapsWithSole → Iy, seq_tuple_add → IB, behindInMarks → IC
open PySem.Around renaming under_plainId → bN
open PySem.AutoSeq1 renaming wpAny_loadPart' → kN
open PySem.Builtin renaming bitAnd → iP, bitXor → jQ
open PySem.Builtin.Builtins renaming bindParams → fE
open PySem.Builtin.List renaming listTouch → kM, listLengthHint → qu, listExtendWith → qv
open PySem.Builtin.Range renaming rangeSize → rT
open PySem.Builtin.Slice renaming slicePlaces → gb, sliceAdjust → jq, sliceApplied → qt
open PySem.Builtin.SmallTypes renaming nextOf → fR
open PySem.Builtin.Str renaming occurrences → gX, strSliceIndices → qU
open PySem.Builtin.Tuple renaming tupleCompareSizes → eS, tupleExact → gC
open PySem.Calls renaming call_function_entry → gW, spliced_cons → kF, Name_function_global → yB
open PySem.EntryCells renaming newEntry → Ao
open PySem.F renaming plain_min_loop → fT, plain_max_loop → fU, slot_tuple_iterator_next → hV, args_tuple_add_2 → kZ, entry_tuple_add → lE, slot_tuple_add → lO, slot_tuple_lt → oy, slot_dict_setdefault → um, entry_min_loop → yy, entry_max_loop → yz, slot_list_index → yD, args_tuple_iterator_next_1 → An, entry_tuple_iterator_next → AD
open PySem.Heap renaming get?_push_of_some → ah, get?_push_size → au, lt_size → av, get?_update_other → aN, get?_update_self → bK, size_push → cg, SameBut → cO, size_update → uC, MadeExcOf → yI, get?_none_of_le → EZ
open PySem.Heap.SameBut renaming update → bC, refl → Am
open PySem.IsL renaming update → EN
open PySem.Moved renaming trans → k9
open PySem.NameKind renaming free → cj, cell → cS
open PySem.Obj renaming mapSeq → aY, putSet → gP, mapFields → iI, data_mapFields → iO, isFreed_of_fields → oq, data_mapDictKeys → IJ
open PySem.Paired renaming length → k7
open PySem.PassesOwn renaming leaving → Dk
open PySem.PyData renaming keyHash → aA
open PySem.SeqAt.EqAt renaming str_int → Ar, int_str → As
open PySem.SetTable renaming insertAt → bD, below → cq, grown → eM, advance → gF, fits → oj, turns → uy, Probe → uA, slot → wy, fill → wz, has → yC, sameMemory → BZ, orStandIn → Di, tooFull → ET, relaid → IE
open PySem.SetTable.below renaming go → yv
open PySem.SetTable.probe renaming go → cW
open PySem.Str renaming ofString → cZ
open PySem.Value renaming ref → aV, none → bL, int → eO, str → iK, type → kC, isInt_shape → rC, bool → yt
open PySem.W renaming Frag → af, fnOf → aQ, keepIn → cE, kas_sort → cV, kia_one → dg, nsIn → eJ, mg_of → fk, codeIn → fB, kitOne → iN, kas_descPart → jm, kmHook → jN, findIn → jO, kas_sort → lD, methodObj → qp, instObj → uj, lookIn → u4, kas_rev → yq, cellsFrom_some → Ah, codeHd_of_K → Dj, callWith_K → EM, kitx_list → EU, kitx_dict → EV, plainGet → IF, openEnds → IG, km_in_of → IH, codeHdIn → II
open PySem.W.Hook renaming val → Au, obs → Av
open PySem.W.KasT renaming ret → rS
open PySem.Walks renaming list → ID
open PySem.pickOrder renaming go → yp
open Sum renaming inl → eX, inr → fw
set_option Elab.async false
set_option linter.all false
set_option maxRecDepth 100000
set_option maxHeartbeats 0
namespace K34
open PySem PySem.Spec PySem.Calls PyProof.Rows
noncomputable def top(i:Nat):Stmt:=PySem.Challenge.pw_copykin_k34_whole_any_order.main.body.getD i (.Pass ⟨0,0,0,0⟩)
noncomputable def vw:Program:=
 {PySem.Challenge.pw_copykin_k34_whole_any_order with main:={PySem.Challenge.pw_copykin_k34_whole_any_order.main with body:=[top 1,top 2,top 3,top 5,top 6,top 7,top 8,top 9,top 10,top 11,top 12,top 13,top 14,top 15,top 16,top 17,top 19,top 20,top 21,top 22,top 24,top 25,top 26,top 27,top 29,top 30,top 31,top 32,top 33,top 34,top 35,top 36,top 37,top 38,top 39]}}
noncomputable def loo:List Str:=[]
noncomputable def xt(s:Shared):Bool:=PySem.W.xlAt vw [] s&&PySem.W.recOk [] s
noncomputable def lhsA(w:World):=(IG treeTable PySem.Challenge.pw_copykin_k34_whole_any_order w 3196).map
 (PySem.W.openSeen vw loo (importedModules PySem.Challenge.pw_copykin_k34_whole_any_order.main.body) xt true)
noncomputable def rhsA(_:World):=some (PySem.W.openGood vw loo)
noncomputable def seen{α:Type}(_:α):Bool:=true
theorem laidA:(seen lhsA&&seen rhsA)=true:=by k_qdec
theorem leftA(w:World):lhsA w=rhsA w:=by
 have _:=laidA;rw[PySem.W.Fast.te11396851689802106536,PySem.W.Fast.te9383629228326534308]
 kernel_rfl
theorem both{α β γ:Type}{o:Option α}{f:α->β}{g:α->γ}{a:β}{b:γ}(h:o.map f=some a)(k:o.map g=some b):(o.map fun s=>(f s,g s))=some (a,b):=by
 cases o with
 |none=>cases h
 |some x=>
  injection h with h;injection k with k;rw[<-h,<-k];rfl
end K34
namespace L2
open PySem PySem.Spec PyProof.Rows
noncomputable abbrev Key:=Sum Int Str
noncomputable def tf:Key->Value->Bool
 |.inl k,v=>Value.isInt k v
 |.inr x,v=>Value.isStrOf x v
noncomputable def keyH(w:World):Key->Int
 |.inl k=>hashInt k
 |.inr x=>hashStr w x
theorem eU:∀{k:Key}{v:Value},tf k v=true->(∃i t,k=eX i/\v=eO i t)\/(∃x t,k=fw x/\v=iK x t)
 |.inl i,v,h=>by
  obtain⟨t,e⟩:=rC (k:=i) (v:=v) h;exact .inl ⟨i,t,rfl,e⟩
 |.inr x,v,h=>by
  obtain⟨t,e⟩:=Value.isStrOf_shape (x:=x) (v:=v) h;exact .inr ⟨x,t,rfl,e⟩
theorem Ec(i:Int)(t:Tok):tf (.inl i) (.int i t)=true:=by simp[tf,Value.isInt]
theorem Eb(x:Str)(t:Tok):tf (.inr x) (.str x t)=true:=by simp[tf,Value.isStrOf]
theorem key_ll(a b:Int):decide ((eX a:Key)=eX b)=(a==b):=by
 by_cases e:a=b
 ·subst e;simp
 ·have h:¬(eX a:Key)=eX b:=fun q=>e (eX.inj q)
  rw[decide_eq_false h];exact(beq_eq_false_iff_ne.mpr e).symm
theorem key_rr(a b:Str):decide ((fw a:Key)=fw b)=decide (a=b):=by
 by_cases e:a=b
 ·subst e;simp
 ·have h:¬(fw a:Key)=fw b:=fun q=>e (fw.inj q)
  rw[decide_eq_false h,decide_eq_false e]
theorem key_lr(a:Int)(b:Str):decide ((eX a:Key)=fw b)=false:=decide_eq_false (fun q=>nomatch q)
theorem key_rl(a:Str)(b:Int):decide ((fw a:Key)=eX b)=false:=decide_eq_false (fun q=>nomatch q)
noncomputable def aZ(prog:Program)(w:World):PySem.KeyKind prog w Key where
 is:=tf
 hash:=keyH w
 inj:=fun v a b ha hb=>by
  rcases eU ha with⟨i,t,rfl,rfl⟩ |⟨x,t,rfl,rfl⟩
  ·rcases eU hb with⟨j,u,rfl,e⟩ |⟨y,u,rfl,e⟩
   ·injection e with e1 _;rw[e1]
   ·exact nomatch e
  ·rcases eU hb with⟨j,u,rfl,e⟩ |⟨y,u,rfl,e⟩
   ·exact nomatch e
   ·injection e with e1 _;rw[e1]
 byValue:=fun k v h=>by
  rcases eU h with⟨i,t,rfl,rfl⟩ |⟨x,t,rfl,rfl⟩<;>rfl
 pyHash:=fun hv h=>by
  rcases eU hv with⟨i,t,rfl,rfl⟩ |⟨x,t,rfl,rfl⟩
  ·exact wpAny_pyHash_int h
  ·exact wpAny_pyHash_str h
 eqBool:=fun hu hv h=>by
  rcases eU hu with⟨i,t,rfl,rfl⟩ |⟨x,t,rfl,rfl⟩
  ·rcases eU hv with⟨j,u,rfl,rfl⟩ |⟨y,u,rfl,rfl⟩
   ·rw[key_ll]at h;exact jM h
   ·rw[key_lr]at h;exact As i t y u _ _ _ _ h
  ·rcases eU hv with⟨j,u,rfl,rfl⟩ |⟨y,u,rfl,rfl⟩
   ·rw[key_rl]at h;exact Ar x t j u _ _ _ _ h
   ·rw[key_rr]at h;exact wpAny_eqBool_str h
 «strs»:=fun k x t v h=>by
  rcases eU h with⟨i,u,rfl,e⟩ |⟨y,u,rfl,e⟩
  ·exact nomatch e
  ·injection e with e1 _
   subst e1;cases v<;>rfl
theorem sW(prog:Program)(w:World)(k:Key)(v:Value):(aZ prog w).is k v=tf k v:=rfl
theorem lX(prog:Program)(w:World)(i:Int)(t:Tok):(aZ prog w).is (.inl i) (.int i t)=true:=Ec i t
theorem zv(prog:Program)(w:World)(x:Str)(t:Tok):(aZ prog w).is (.inr x) (.str x t)=true:=Eb x t
inductive V where
 |non|bl (b:Bool) |int (i:Int) |str (x:Str) |byt (b:Array UInt8) |flt (b:UInt64) |ref (a:Addr) |ty (n:String)
 deriving DecidableEq
noncomputable def RelV:V->Value->Prop
 |.non,u=>u=bL
 |.bl b,u=>u=yt b
 |.int i,u=>∃t,u=eO i t
 |.str x,u=>∃t,u=iK x t
 |.byt b,u=>∃t,u=Value.bytes b t
 |.flt b,u=>∃t,u=Value.float b t
 |.ref a,u=>u=aV a
 |.ty n,u=>u=kC n
noncomputable abbrev bO:List V->List Value->Prop:=Paired RelV
theorem bO.length{xs:List V}{us:List Value}(r:bO xs us):xs.length=us.length:=k7 r
theorem bO.get:∀{xs:List V}{us:List Value}{i:Nat}{x:V},bO xs us->xs[i]? =some x->∃u,us[i]? =some u/\RelV x u
 |_,_,_,_,.nil,e=>by simp at e
 |_,_,0,_,.cons r _,e=>by simp at e;subst e;exact⟨_,rfl,r⟩
 |_,_,i+1,x,.cons _ t,e=>by
  obtain⟨u,h1,h2⟩:=bO.get (i:=i) (x:=x) t (by simpa using e);exact⟨u,by simpa using h1,h2⟩
theorem bO.set{x:V}{u:Value}(r:RelV x u):∀{xs:List V}{us:List Value}(i:Nat),bO xs us->bO (xs.set i x) (us.set i u)
 |_,_,_,.nil=>.nil
 |_,_,0,.cons _ t=>.cons r t
 |_,_,i+1,.cons q t=>.cons q (bO.set r i t)
theorem bO.append:∀{xs ys:List V}{us ws:List Value},bO xs us->bO ys ws->bO (xs++ys) (us++ws)
 |_,_,_,_,.nil,s=>s
 |_,_,_,_,.cons r t,s=>.cons r (bO.append t s)
theorem bO.take:∀{xs:List V}{us:List Value}(n:Nat),bO xs us->bO (xs.take n) (us.take n)
 |_,_,0,_=>.nil
 |_,_,_+1,.nil=>.nil
 |_,_,n+1,.cons r t=>.cons r (bO.take n t)
theorem bO.drop:∀{xs:List V}{us:List Value}(n:Nat),bO xs us->bO (xs.drop n) (us.drop n)
 |_,_,0,r=>r
 |_,_,_+1,.nil=>.nil
 |_,_,n+1,.cons _ t=>bO.drop n t
noncomputable def ui:Option V->Option Value->Prop
 |some v,some u=>RelV v u
 |none,none=>True
 |_,_=>False
noncomputable def KV{κ:Type}:List (κ×V)->List (κ×Value)->Prop:=Paired fun(p:κ×V)(q:κ×Value)=>p.1=q.1/\RelV p.2 q.2
noncomputable def kV:Key->V
 |.inl i=>.int i
 |.inr x=>.str x
inductive HO where
 |lst (xs:List V)
 |tup (xs:List V)
 |dK (kvs:List (Key×V)) |dT (kvs:List (List Key×V))
 |set (S:Int->Bool) (n:Nat)
 |ins (C dx:Addr) (fs:List (Str×V))
 |own (x:Addr)
 |xd (fs:List (Str×V))
 |met (f x:Addr)
 |rng (lo hi:Int)
 |frz (o:Obj) (u:HO)
 |tbl (ps:Array Value)
 |ext (φ:Heap->Prop)
noncomputable abbrev Hp:=Addr->Option HO
noncomputable def upd(H:Hp)(a:Addr)(o:HO):Hp:=fun b=>if b=a then some o else H b
theorem aw{H:Hp}{a:Addr}{o:HO}:upd H a o a=some o:=by unfold upd;rw[if_pos rfl]
theorem bh{H:Hp}{a b:Addr}{o:HO}(h:b≠a):upd H a o b=H b:=by unfold upd;rw[if_neg h]
theorem ne_of{H:Hp}{a b:Addr}{o u:HO}(h:H a=some o)(h':H b=some u)(d:o≠u):a≠b:=by
 intro e;subst e;rw[h]at h';exact d (aT h')
theorem ck{H:Hp}{a b:Addr}{o:HO}(h:H a=some o)(h':H b=none):a≠b:=by
 intro e;subst e;rw[h]at h';cases h'
section
variable(P:Program)(w:World)
noncomputable def dQ(H:Hp)(h:Heap)(a:Addr):HO->Prop
 |.lst xs=>xs.length<=sizeLine/\∃(its:List Value)(n:Nat),bO xs its/\h.get? a=some {cls:=.type "list",data:=.seq its.toArray n}
 |.tup xs=>xs.length<=sizeLine/\∃its:List Value,bO xs its/\IsTup h a its.toArray
 |.dK kvs=>kvs.length<=sizeLine/\(a==gA)=false/\∃vs,KV kvs vs/\h.DictOf (aZ P w) a vs
 |.dT kvs=>kvs.length<=sizeLine/\(a==gA)=false/\∃xs:List (List Key×Addr×Value),
   Paired (fun(p:List Key×V)(q:List Key×Addr×Value)=>p.1=q.1/\H q.2.1=some (.tup (p.1.map kV))/\RelV p.2 q.2.2) kvs xs/\
   ∃o es ep,h.get? a=some o/\o.ExactDict/\o.data=.dict es ep/\es.toList=xs.map (entryOfKey (n9 (aZ P w)))/\(xs.map (·.1)).Nodup
 |.set S n=>h.SetOf (intKind P w) a S n
 |.ins C dx fs=>H dx=some (.own a)/\fs.length<=1000/\dx≠a/\h.get? a=some (uj C dx)/\
   ∃mA,h.Ns1 dx mA/\(∀f,ui (fs.lookup f) (mA f))/\B0 mA (fs.map (·.1))
 |.own _=>∃o,h.get? a=some o
 |.xd fs=>∃mA,h.Ns1 a mA/\∀f,ui (fs.lookup f) (mA f)
 |.rng lo hi=>∃t u v,h.get? a=some {cls:=.type "range",data:=.fields #[.int lo t,.int hi u,.int 1 v]}
 |.frz o u=>h.get? a=some o/\dQ H h a u
 |.tbl ps=>h.get? a=some {cls:=.none,data:=.fields ps}
 |.met f x=>h.get? a=some (qp (.ref f) (.ref x))
 |.ext φ=>φ h/\(∃o,h.get? a=some o)/\∀h1 h2:Heap,φ h1->(∀o,h1.get? a=some o->h2.get? a=some o)->φ h2
noncomputable def HOk(H:Hp)(h:Heap):Prop:=∀a o,H a=some o->dQ P w H h a o
end
section
variable {P:Program}{w:World}{H H':Hp}{h h':Heap}{a:Addr}{o:HO}
theorem dQ.lt(x:dQ P w H h a o):a<h.objs.size:=by
 cases o with
 |lst xs=>obtain⟨_,_,_,_,e⟩:=x;exact av e
 |tup xs=>obtain⟨_,_,_,p⟩:=x;exact p.lt
 |dK kvs=>obtain⟨_,_,_,_,o,_,_,e,_⟩:=x;exact av e
 |dT kvs=>obtain⟨_,_,_,_,o,_,_,e,_⟩:=x;exact av e
 |set S n=>obtain⟨o,_,_,_,e,_⟩:=x;exact av e
 |ins C dx fs=>obtain⟨_,_,_,e,_⟩:=x;exact av e
 |own y=>obtain⟨_,e⟩:=x;exact av e
 |xd fs=>obtain⟨_,⟨_,_,_,e,_⟩,_⟩:=x;exact av e
 |rng lo hi=>obtain⟨_,_,_,e⟩:=x;exact av e
 |frz ob u=>obtain⟨e,_⟩:=x;exact av e
 |tbl ps=>exact av (show h.get? a=some _ from x)
 |met f y=>exact av (show h.get? a=some _ from x)
 |ext φ=>obtain⟨_,⟨_,e⟩,_⟩:=x;exact av e
theorem Paired.Bj{α β:Type}{F G:α->β->Prop}:∀{l₁:List α}{l₂:List β},Paired F l₁ l₂->(∀a b,F a b->G a b)->Paired G l₁ l₂
 |_,_,.nil,_=>.nil
 |_,_,.cons r t,f=>.cons (f _ _ r) (Paired.Bj t f)
theorem dQ.mY(x:dQ P w H h a o)(k:∀b u,(b=a\/H b=some (.own a))->h.get? b=some u->h'.get? b=some u)
  (ho:∀b,H b=some (.own a)->H' b=some (.own a))(ht:∀b xs,H b=some (.tup xs)->H' b=some (.tup xs)):dQ P w H' h' a o:=by
 induction o with
 |lst xs=>obtain⟨z,its,n,r,e⟩:=x;exact⟨z,its,n,r,k _ _ (.inl rfl) e⟩
 |tup xs=>obtain⟨z,its,r,ob,e,c⟩:=x;exact⟨z,its,r,ob,k _ _ (.inl rfl) e,c⟩
 |dK kvs=>obtain⟨z,y,vs,r,ob,es,ep,e,c⟩:=x;exact⟨z,y,vs,r,ob,es,ep,k _ _ (.inl rfl) e,c⟩
 |dT kvs=>
  obtain⟨z,y,xs,r,ob,es,ep,e,c⟩:=x;exact⟨z,y,xs,Paired.Bj r fun p q z=>⟨z.1,ht _ _ z.2.1,z.2.2⟩,ob,es,ep,k _ _ (.inl rfl) e,c⟩
 |set S n=>obtain⟨ob,es,ep,t,e,c⟩:=x;exact⟨ob,es,ep,t,k _ _ (.inl rfl) e,c⟩
 |ins C dx fs=>
  obtain⟨d,z,ne,e,mA,⟨od,es,ep,e2,c⟩,r⟩:=x;exact⟨ho _ d,z,ne,k _ _ (.inl rfl) e,mA,⟨od,es,ep,k _ _ (.inr d) e2,c⟩,r⟩
 |own y=>obtain⟨ob,e⟩:=x;exact⟨ob,k _ _ (.inl rfl) e⟩
 |xd fs=>obtain⟨mA,⟨od,es,ep,e,c⟩,r⟩:=x;exact⟨mA,⟨od,es,ep,k _ _ (.inl rfl) e,c⟩,r⟩
 |rng lo hi=>obtain⟨t,u,v,e⟩:=x;exact⟨t,u,v,k _ _ (.inl rfl) e⟩
 |frz ob u ih=>obtain⟨e,q⟩:=x;exact⟨k _ _ (.inl rfl) e,ih q⟩
 |tbl ps=>
  have e:h.get? a=some {cls:=.none,data:=.fields ps}:=x;show h'.get? a=some {cls:=.none,data:=.fields ps};exact k a _ (.inl rfl) e
 |met f y=>
  have e:h.get? a=some (qp (.ref f) (.ref y)):=x;show h'.get? a=some (qp (.ref f) (.ref y));exact k a _ (.inl rfl) e
 |ext φ=>obtain⟨p,⟨o,e⟩,st⟩:=x;exact⟨st _ _ p fun o q=>k _ _ (.inl rfl) q,⟨o,k _ _ (.inl rfl) e⟩,st⟩
theorem HOk.lt(x:HOk P w H h)(e:H a=some o):a<h.objs.size:=(x a o e).lt
theorem HOk.fresh(x:HOk P w H h)(e:h.objs.size<=a):H a=none:=by
 cases q:H a with
 |none=>rfl
 |some u=>exact absurd (bc (x.lt q) e) (dM _)
theorem HOk.kept(x:HOk P w H h)(k:∀b u,h.get? b=some u->h'.get? b=some u):HOk P w H h':=fun a o e=>
 (x a o e).mY (fun b u _ q=>k b u q) (fun _ q=>q) fun _ _ q=>q
theorem HOk.laid(x:HOk P w H h)(k:∀b u,h.get? b=some u->h'.get? b=some u)(hp:h.objs.size<=a)(new:dQ P w (upd H a o) h' a o):HOk P w (upd H a o) h':=fun b u e=>by
 have hn:=x.fresh hp;by_cases hb:b=a
 ·subst hb;rw[aw]at e;cases e;exact new
 ·rw[bh hb]at e
  exact(x b u e).mY (fun c v _ q=>k c v q) (fun c q=>by rw[bh (ck q hn)];exact q) fun c xs q=>by rw[bh (ck q hn)];exact q
end
noncomputable def Rd(H:Hp)(a:Addr)(u:HO):Prop:=H a=some u\/∃o,H a=some (.frz o u)
theorem Rd.ok{P:Program}{w:World}{H:Hp}{h:Heap}{a:Addr}{u:HO}(r:Rd H a u)(x:HOk P w H h):dQ P w H h a u:=by
 rcases r with r|⟨o,r⟩
 ·exact x a u r
 ·obtain⟨_,q⟩:=x a _ r
  exact q
noncomputable def Mut:Option HO->Prop
 |some (.lst _)=>True
 |some (.dK _)=>True
 |some (.dT _)=>True
 |some (.set _ _)=>True
 |some (.ins _ _ _)=>True
 |some (.ext _)=>True
 |_=>False
section
variable {P:Program}{w:World}{H:Hp}{h h':Heap}{x e:Addr}{o':HO}
theorem HOk.write(ok:HOk P w H h)(mu:Mut (H x))(he:e=x\/H e=some (.own x))(k:∀b u,b≠e->h.get? b=some u->h'.get? b=some u)(heo:∃u,h'.get? e=some u)
  (new:dQ P w (upd H x o') h' x o'):HOk P w (upd H x o') h':=fun b u q=>by
 have nown:∀c y,H c=some (.own y)->c≠x:=fun c y r z=>by subst z;rw[r]at mu;exact mu
 have ntup:∀c xs,H c=some (.tup xs)->c≠x:=fun c xs r z=>by subst z;rw[r]at mu;exact mu
 by_cases hb:b=x
 ·subst hb;rw[aw]at q;cases q;exact new
 ·rw[bh hb]at q
  by_cases hbe:b=e
  ·have q':H b=some (.own x):=by
    rcases he with z|z
    ·exact absurd (hbe.trans z) hb
    ·rw[hbe];exact z
   rw[q]at q';cases q';obtain⟨v,hv⟩:=heo;exact⟨v,by rw[hbe];exact hv⟩
  ·refine(ok b u q).mY (fun c v hc r=>k c v ?_ r) (fun c r=>by rw[bh (nown c b r)];exact r) fun c xs r=>by rw[bh (ntup c xs r)];exact r
   rcases hc with rfl|hc
   ·exact hbe
   ·rintro rfl
    rcases he with z|z
    ·exact nown c b hc z
    ·rw[hc]at z;cases z;exact hb rfl
end
structure Un(fs ex:List Addr)(H H':Hp)(h h':Heap):Prop where
 keep:∀b o,h.get? b=some o->H b=none->b∉fs->b∉ex->h'.get? b=some o
 slot:∀b o,h.get? b=some o->H b=none->b∈fs->b∉ex->∃sl,h'.get? b=some {o with slots:=sl}
 free:∀b o,h.get? b=some o->H b=none->b∉ex->H' b=none
 there:∀b o,h.get? b=some o->b∉ex->∃o',h'.get? b=some o'
 tups:∀b xs,H b=some (.tup xs)->H' b=some (.tup xs)
 frzs:∀b o u,H b=some (.frz o u)->H' b=some (.frz o u)
 tbls:∀b ps,H b=some (.tbl ps)->∃more,H' b=some (.tbl (ps++more))
section
variable {fs fs' ex ex':List Addr}{H H1 H2:Hp}{h h1 h2 h':Heap}{a x e:Addr}{o:HO}
theorem Un.any(u:Un fs ex H H1 h h1){b:Addr}{ob:Obj}(q:h.get? b=some ob)(n:H b=none)(hx:b∉ex):∃sl,h1.get? b=some {ob with slots:=sl}:=by
 by_cases hb:b∈fs
 ·exact u.slot b ob q n hb hx
 ·exact⟨ob.slots,u.keep b ob q n hb hx⟩
theorem Un.kept(k:∀b u,h.get? b=some u->h'.get? b=some u):Un fs ex H H h h':=
 ⟨fun b ob q _ _ _=>k b ob q,fun b ob q _ _ _=>⟨ob.slots,k b ob q⟩,fun _ _ _ n _=>n,fun b ob q _=>⟨ob,k b ob q⟩,fun _ _ q=>q,fun _ _ _ q=>q,fun _ ps q=>⟨#[],by rw[q];simp⟩⟩
theorem Un.refl:Un fs ex H H h h:=Un.kept fun _ _ q=>q
theorem Un.laid(k:∀b u,h.get? b=some u->h'.get? b=some u)(hp:h.objs.size<=a)(hn:H a=none):Un fs ex H (upd H a o) h h' where
 keep:=fun b u q _ _ _=>k b u q
 slot:=fun b u q _ _ _=>⟨u.slots,k b u q⟩
 free:=fun b u q n _=>by rw[bh (aJ (bc (av q) hp))];exact n
 there:=fun b u q _=>⟨u,k b u q⟩
 tups:=fun b xs q=>by rw[bh (ck q hn)];exact q
 frzs:=fun b u xs q=>by rw[bh (ck q hn)];exact q
 tbls:=fun b ps q=>⟨#[],by rw[bh (ck q hn),q];simp⟩
theorem Un.write(mu:Mut (H x))(he:e=x\/H e=some (.own x))(k:∀b u,b≠e->h.get? b=some u->h'.get? b=some u)(heo:∃u,h'.get? e=some u):Un fs ex H (upd H x o) h h':=by
 have hx:∀b,H b=none->b≠x:=fun b n z=>by subst z;rw[n]at mu;exact mu
 have hb:∀b,H b=none->b≠e:=fun b n z=>by
  subst z;rcases he with r|r
  ·exact hx b n r
  ·rw[n]at r;cases r
 have hm:∀b u,H b=some u->¬Mut (some u)->b≠x:=fun b u q nm z=>by subst z;rw[q]at mu;exact nm mu
 refine⟨fun b u q n _ _=>k b u (hb b n) q,fun b u q n _ _=>⟨u.slots,k b u (hb b n) q⟩,fun b u q n _=>by rw[bh (hx b n)];exact n,fun b u q _=>?_,
  fun b xs q=>by rw[bh (hm b _ q fun z=>z)];exact q,fun b u xs q=>by rw[bh (hm b _ q fun z=>z)];exact q,fun b ps q=>⟨#[],by rw[bh (hm b _ q fun z=>z),q];simp⟩⟩
 by_cases hbe:b=e
 ·subst hbe;exact heo
 ·exact⟨u,k b u hbe q⟩
end
noncomputable def trk(h:Heap)(H:Hp):List Addr:=(aq h.objs.size).filter fun a=>(H a).isSome
noncomputable def zH(h:Heap)(H:Hp):Heap:=PySem.W.hideAll h (trk h H)
theorem Ei(h:Heap)(H:Hp):(zH h H).objs.size=h.objs.size:=PySem.W.hideAll_size _ _
theorem tE{h:Heap}{H:Hp}{b:Addr}{o:Obj}(e:h.get? b=some o)(n:H b=none):(zH h H).get? b=some o:=
 PySem.W.hideAll_get _ e fun hm=>by
  have q:(H b).isSome=true:=(eE.mp hm).2;rw[n]at q;simp at q
theorem of_hidT{h:Heap}{H:Hp}{b:Addr}{o:Obj}(e:(zH h H).get? b=some o):h.get? b=some o/\H b=none:=by
 have e':h.get? b=some o:=PySem.W.of_hideAll (trk h H) e;refine⟨e',?_⟩;cases q:H b with
 |none=>rfl
 |some x=>
  have hm:b∈trk h H:=eE.mpr ⟨aK.mpr (av e'),by simp[q]⟩;have z:(zH h H).get? b=none:=PySem.W.hideAll_none (trk h H) hm;rw[z]at e;cases e
structure Mod(K:af)(mg:Str->Option Value)(base:Heap):Prop where
 kin:K.In base
 glob:base.Ns bM mg
 blt:∃mb,base.Ns lN mb/\∀x:Str,x≠"__name__"->mb x=fL x
 nolimit:base.NoLimit
structure Cx where
 prog:Program
 w:World
 K:af
 mg:Str->Option Value
 base:Heap
 A:Around
 N:List Str
 s₀:Shared
 H₀:Hp
 env:Env
 outer:List Env
 stack:List Env
 ex:List Addr
 fn:Str->Bool
 calm:Bool
 pn:List (Addr×Obj)
 xe:Value->Shared->Prop
noncomputable def frs(l:List Env):List Addr:=l.filterMap (·.frame)
noncomputable abbrev Cx.fs(X:Cx):List Addr:=frs X.outer
noncomputable def Vis(sc:Scope)(x:Str):Prop:=sc.names.lookup x=some .local\/sc.names.lookup x=some .cell\/sc.names.lookup x=some .free
noncomputable def Loc(sc:Scope)(x:Str):Prop:=sc.names.lookup x=some .local\/sc.names.lookup x=some .cell
noncomputable def Look(env:Env)(h:Heap)(m:Str->Option Value)(x:Str)(u:Value):Prop:=
 (env.kindOf x=some .local/\m x=some u)\/((env.kindOf x=some .cell\/env.kindOf x=some .free)/\∃c,env.cells.lookup x=some c/\h.IsCell c (some u))
structure Cx.Ok(X:Cx):Prop where
 mod:Mod X.K X.mg X.base
 kind:X.env.scope.kind=.function
 glob:X.env.globals=bM
 blt:X.env.builtins=lN
 above:X.s₀.heap.objs.size<=X.env.locals
 inj:∀x y c,X.env.cells.lookup x=some c->X.env.cells.lookup y=some c->x=y
 has:∀x,(X.env.kindOf x=some .cell\/X.env.kindOf x=some .free)->∃c,X.env.cells.lookup x=some c
 cab:∀x c,X.fn x=true->X.env.cells.lookup x=some c->X.s₀.heap.objs.size<=c
 hd:X.calm=true->X.A.handled=none
 frames:X.A.frames=some X.stack
 stk:X.stack=X.outer\/(X.stack=X.env::X.outer/\X.env.frame=some X.env.locals)
 exf:∀b∈X.ex,b≠X.env.locals/\∀x c,X.env.cells.lookup x=some c->c≠b
 bs:∀b o,X.base.get? b=some o->X.s₀.heap.get? b=some o/\X.H₀ b=none
 bsz:X.base.objs.size<=X.s₀.heap.objs.size
 noex:∀b o,X.base.get? b=some o->b∉X.ex
 exfs:∀b∈X.ex,b∉X.fs
 xS:X.s₀.heap.FunFrames X.base X.outer
 frf:∀b∈X.fs,X.H₀ b=none
structure Inv(X:Cx)(pins:List (Addr×Obj))(σ:List (Option V))(H:Hp)(s:Shared):Prop where
 ok:X.Ok
 os:s.os=X.s₀.os
 bare:mX s.gens
 base:Un X.fs X.ex X.H₀ H X.s₀.heap s.heap
 loc:∃m,s.heap.Ns X.env.locals m/\∀(i:Nat)(x:Str)(v:V),X.N[i]? =some x->σ[i]? =some (some v)->Vis X.env.scope x->∃u,RelV v u/\Look X.env s.heap m x u
 cell:∀x c,X.env.cells.lookup x=some c->∃v,s.heap.IsCell c v
 free:H X.env.locals=none
 freeC:∀x c,X.env.cells.lookup x=some c->H c=none
 pin:∀p∈X.pn++pins,s.heap.get? p.1=some p.2/\H p.1=none/\p.1≠X.env.locals/\p.1∉X.fs/\∀v,p.2.data≠.cell v
 hok:HOk X.prog X.w H s.heap
 len:σ.length=X.N.length
section
variable {X:Cx}{pins:List (Addr×Obj)}{σ:List (Option V)}{H H':Hp}{s:Shared}{h':Heap}
theorem Cx.Ok.nofr(ok:X.Ok){b:Addr}{o:Obj}(e:X.base.get? b=some o):b∉X.fs:=fun hb=>by
 have :=(ok.xS.mem hb).1
 rw[e]at this;cases this
theorem Inv.bs(I:Inv X pins σ H s):∀b o,X.base.get? b=some o->s.heap.get? b=some o/\H b=none:=fun b o e=>
 ⟨I.base.keep b o (I.ok.bs b o e).1 (I.ok.bs b o e).2 (I.ok.nofr e) (I.ok.noex b o e),I.base.free b o (I.ok.bs b o e).1 (I.ok.bs b o e).2 (I.ok.noex b o e)⟩
theorem Inv.bk(I:Inv X pins σ H s):∀b o,X.base.get? b=some o->s.heap.get? b=some o:=fun b o e=>(I.bs b o e).1
theorem Inv.mod(I:Inv X pins σ H s):Mod X.K X.mg X.base:=I.ok.mod
theorem Inv.kIn(I:Inv X pins σ H s):X.K.In s.heap:=I.ok.mod.kin.keeps I.bk
theorem Inv.nolimit(I:Inv X pins σ H s):s.heap.NoLimit:=I.ok.mod.nolimit.keeps I.bk
theorem Inv.lt(I:Inv X pins σ H s):X.env.locals<s.heap.objs.size:=let⟨_,hn,_⟩:=I.loc;hn.lt
theorem Inv.sz(I:Inv X pins σ H s):X.s₀.heap.objs.size<=s.heap.objs.size:=ba I.ok.above (hU I.lt)
theorem Inv.nofs(I:Inv X pins σ H s){a:Addr}(h:s.heap.objs.size<=a):a∉X.fs:=fun hb=>by
 obtain⟨_,o,ho,_⟩:=I.ok.xS.mem hb;exact absurd (bc (av ho) (ba I.sz h)) (dM _)
theorem Inv.cne(I:Inv X pins σ H s):∀x c,X.env.cells.lookup x=some c->c≠X.env.locals:=fun x c e z=>by
 obtain⟨v,o,ho,hd⟩:=I.cell x c e;obtain⟨m,⟨o',es,ep,ho',hd',_⟩,_⟩:=I.loc;rw[z,ho']at ho;cases ho;rw[hd']at hd;cases hd
theorem Inv.xS(I:Inv X pins σ H s):s.heap.FunFrames X.base X.outer:=by
 have all:∀(l:List Env),(∀b∈frs l,b∈X.fs)->X.s₀.heap.FunFrames X.base l->s.heap.FunFrames X.base l:=by
  intro l
  induction l with
  |nil=>intro _ _;trivial
  |cons env r ih=>
   intro hs hl;obtain⟨hk,⟨L,o,hf,hn,ho,hd⟩,hr⟩:=hl;have hL:L∈X.fs:=hs L (by unfold frs;rw[jP,hf];exact aI);obtain⟨sl,e⟩:=I.base.slot L o ho (I.ok.frf L hL) hL fun z=>I.ok.exfs L z hL;exact⟨hk,⟨L,_,hf,hn,e,hd⟩,ih (fun b hb=>hs b (by unfold frs;rw[jP,hf];exact aH _ hb)) hr⟩
 exact all X.outer (fun _ hb=>hb) I.ok.xS
theorem Inv.stack(I:Inv X pins σ H s):s.heap.FunFrames X.base X.stack:=by
 rcases I.ok.stk with e|⟨e,hf⟩
 ·rw[e];exact I.xS
 ·rw[e]
  obtain⟨m,hn,_⟩:=I.loc;refine .cons (by rw[I.ok.kind];decide) hf hn ?_ I.xS;exact EZ (ba I.ok.bsz I.ok.above)
theorem Inv.AQ(I:Inv X pins σ H s):∀b∈frs X.stack,b∈X.env.locals::X.fs:=fun b hb=>by
 rcases I.ok.stk with e|⟨e,hf⟩
 ·rw[e]at hb;exact aH _ hb
 ·rw[e]at hb
  unfold frs at hb;rw[jP,hf]at hb;exact hb
theorem Inv.wN(I:Inv X pins σ H s):∀b∈frs X.stack,H b=none:=fun b hb=>by
 rcases aB.mp (I.AQ b hb)with e|hb
 ·rw[e];exact I.free
 ·obtain⟨_,o,ho,_⟩:=I.ok.xS.mem hb
  exact I.base.free b o ho (I.ok.frf b hb) fun z=>I.ok.exfs b z hb
theorem Inv.step{g':Array kD}{t':Nat}{d':Drawn}{ch:List Addr}(I:Inv X pins σ H s)
  (hch:∀b∈ch,(b∈X.ex\/X.s₀.heap.objs.size<=b)/\b≠X.env.locals/\(∀x c,X.env.cells.lookup x=some c->c≠b)/\∀p∈X.pn++pins,p.1≠b)
  (keep:∀b o,b≠X.env.locals->b∉X.fs->b∉ch->s.heap.get? b=some o->H b=none->h'.get? b=some o)
  (slot:∀b o,b≠X.env.locals->b∈X.fs->b∉ch->s.heap.get? b=some o->H b=none->∃sl,h'.get? b=some {o with slots:=sl}) (free:∀b o,b∉ch->s.heap.get? b=some o->H b=none->H' b=none)
  (there:∀b o,b∉ch->s.heap.get? b=some o->∃o',h'.get? b=some o')
  (tups:∀b xs,H b=some (.tup xs)->H' b=some (.tup xs)) (frzs:∀b o u,H b=some (.frz o u)->H' b=some (.frz o u)) (tbls:∀b ps,H b=some (.tbl ps)->∃more,H' b=some (.tbl (ps++more)))
  (ns:∀m,s.heap.Ns X.env.locals m->h'.Ns X.env.locals m) (hok:HOk X.prog X.w H' h') (hg:mX g'):
  Inv X pins σ H' {s with heap:=h',gens:=g',drawn:=d',toks:=t'}:=by
 have neL:∀b o,X.s₀.heap.get? b=some o->b≠X.env.locals:=fun b o e=>aJ (bc (av e) I.ok.above);have neC:∀b o,X.s₀.heap.get? b=some o->b∉X.ex->b∉ch:=fun b o e hx hb=>by
  rcases(hch b hb).1 with z|z
  ·exact hx z
  ·exact absurd (bc (av e) z) (dM _)
 have cellK:∀x c,X.env.cells.lookup x=some c->∀v,s.heap.IsCell c v->h'.IsCell c v:=fun x c e v ⟨o,ho,hd⟩=>by
  have nch:c∉ch:=fun z=>(hch c z).2.2.1 x c e rfl;by_cases hc:c∈X.fs
  ·obtain⟨sl,q⟩:=slot c o (I.cne x c e) hc nch ho (I.freeC x c e)
   exact⟨_,q,hd⟩
  ·exact⟨o,keep c o (I.cne x c e) hc nch ho (I.freeC x c e),hd⟩
 refine⟨I.ok,I.os,hg,⟨fun b o e n hb hx=>?_,fun b o e n hb hx=>?_,fun b o e n hx=>?_,fun b o e hx=>?_,fun b xs e=>tups b xs (I.base.tups b xs e),fun b o xs e=>frzs b o xs (I.base.frzs b o xs e),fun b ps e=>?_⟩,?_,fun x c e=>?_,?_,fun x c e=>?_,fun p hp=>?_,hok,I.len⟩
 ·exact keep b o (neL b o e) hb (neC b o e hx) (I.base.keep b o e n hb hx) (I.base.free b o e n hx)
 ·obtain⟨sl,e1⟩:=I.base.slot b o e n hb hx
  obtain⟨sl',e2⟩:=slot b _ (neL b o e) hb (neC b o e hx) e1 (I.base.free b o e n hx);exact⟨sl',e2⟩
 ·obtain⟨o',e1⟩:=I.base.there b o e hx
  exact free b o' (neC b o e hx) e1 (I.base.free b o e n hx)
 ·obtain⟨o',e1⟩:=I.base.there b o e hx
  exact there b o' (neC b o e hx) e1
 ·obtain⟨m1,e1⟩:=I.base.tbls b ps e
  obtain⟨m2,e2⟩:=tbls b _ e1;exact⟨m1++m2,by rw[e2,Array.append_assoc]⟩
 ·obtain⟨m,hn,hl⟩:=I.loc
  refine⟨m,ns m hn,fun i x v e1 e2 e3=>?_⟩;obtain⟨u,r,l⟩:=hl i x v e1 e2 e3;refine⟨u,r,?_⟩;rcases l with l|⟨k,c,e,z⟩
  ·exact .inl l
  ·exact .inr ⟨k,c,e,cellK x c e _ z⟩
 ·obtain⟨v,z⟩:=I.cell x c e
  exact⟨v,cellK x c e v z⟩
 ·obtain⟨m,⟨o,_,_,ho,_⟩,_⟩:=I.loc
  exact free _ o (fun z=>(hch _ z).2.1 rfl) ho I.free
 ·obtain⟨v,o,ho,hd⟩:=I.cell x c e
  exact free c o (fun z=>(hch c z).2.2.1 x c e rfl) ho (I.freeC x c e)
 ·obtain⟨e,n,ne,nf,d⟩:=I.pin p hp
  have nch:p.1∉ch:=fun z=>(hch p.1 z).2.2.2 p hp rfl;exact⟨keep p.1 p.2 ne nf nch e n,free p.1 p.2 nch e n,ne,nf,d⟩
theorem Inv.un{t':Nat}(I:Inv X pins σ H s)(u:Un X.fs [] H H' s.heap h')(hok:HOk X.prog X.w H' h'):Inv X pins σ H' {s with heap:=h',toks:=t'}:=by
 obtain⟨m,⟨o,es,ep,ho,r⟩,_⟩:=id I.loc;obtain⟨sl,hL⟩:=u.any ho I.free (by simp);exact I.step (g':=s.gens) (d':=s.drawn) (ch:=[]) (fun _ z=>nomatch z) (fun b o _ hb _ e n=>u.keep b o e n hb (by simp)) (fun b o _ hb _ e n=>u.slot b o e n hb (by simp)) (fun b o _ e n=>u.free b o e n (by simp)) (fun b o _ e=>u.there b o e (by simp)) u.tups u.frzs u.tbls (fun m' hm=>by
  obtain⟨o',es',ep',ho',r'⟩:=hm;rw[ho]at ho';cases ho';exact⟨_,es',ep',hL,r'⟩) hok I.bare
theorem Inv.call{g':Array kD}{t':Nat}{d':Drawn}{ch:List Addr}(I:Inv X pins σ H s)(u:Un (frs X.stack) ch H H' s.heap h')(hok:HOk X.prog X.w H' h')(hg:mX g')
  (hch:∀b∈ch,(b∈X.ex\/X.s₀.heap.objs.size<=b)/\b≠X.env.locals/\(∀x c,X.env.cells.lookup x=some c->c≠b)/\∀p∈X.pn++pins,p.1≠b):
  Inv X pins σ H' {s with heap:=h',gens:=g',drawn:=d',toks:=t'}:=by
 obtain⟨m,⟨o,es,ep,ho,r⟩,_⟩:=id I.loc;obtain⟨sl,hL⟩:=u.any ho I.free fun z=>(hch _ z).2.1 rfl;exact I.step (ch:=ch) hch (fun b o hL hb hc e n=>u.keep b o e n (fun z=>(aB.mp (I.AQ b z)).elim hL hb) hc) (fun b o _ _ hc e n=>u.any e n hc) (fun b o hc e n=>u.free b o e n hc) (fun b o hc e=>u.there b o e hc) u.tups u.frzs u.tbls (fun m' hm=>by
  obtain⟨o',es',ep',ho',r'⟩:=hm;rw[ho]at ho';cases ho';exact⟨_,es',ep',hL,r'⟩) hok hg
theorem Inv.turned{t':Nat}{it:Addr}(I:Inv X pins σ H s)(k:∀b o,b≠it->s.heap.get? b=some o->h'.get? b=some o)(hn:H it=none)(hL:it≠X.env.locals)
  (h1:it∈X.ex\/X.s₀.heap.objs.size<=it)(h2:∀x c,X.env.cells.lookup x=some c->c≠it)(h3:∀p∈X.pn++pins,p.1≠it):Inv X pins σ H {s with heap:=h',toks:=t'}:=by
 have nit:∀b u,H b=some u->b≠it:=fun b u e z=>by rw[z,hn]at e;cases e
 refine I.step (g':=s.gens) (d':=s.drawn) (ch:=[it]) (fun b hb=>?_) (fun b o _ _ hc e _=>k b o (fun z=>hc (by simp[z])) e) (fun b o _ _ hc e _=>⟨o.slots,k b o (fun z=>hc (by simp[z])) e⟩) (fun _ _ _ _ n=>n)
  (fun b o hc e=>⟨o,k b o (fun z=>hc (by simp[z])) e⟩) (fun _ _ e=>e) (fun _ _ _ e=>e) (fun b ps e=>⟨#[],by rw[e];simp⟩) (fun m hm=>?_) (fun b u e=>?_) I.bare
 ·have e:b=it:=by simpa using hb
  subst e;exact⟨h1,hL,h2,h3⟩
 ·obtain⟨o,es,ep,ho,r⟩:=hm
  exact⟨o,es,ep,k _ o (cb hL) ho,r⟩
 ·refine(I.hok b u e).mY (fun c v hc q=>k c v ?_ q) (fun _ q=>q) fun _ _ q=>q
  rcases hc with z|z
  ·rw[z];exact nit b u e
  ·exact nit c _ z
theorem Inv.tok(I:Inv X pins σ H s)(t:Nat):Inv X pins σ H {s with toks:=t}:=I.un (h':=s.heap) (t':=t) Un.refl I.hok
theorem Inv.kept{t':Nat}(I:Inv X pins σ H s)(k:∀b u,s.heap.get? b=some u->h'.get? b=some u):Inv X pins σ H {s with heap:=h',toks:=t'}:=I.un (Un.kept k) (I.hok.kept k)
theorem Inv.laid{a:Addr}{o:HO}{t':Nat}(I:Inv X pins σ H s)(k:∀b u,s.heap.get? b=some u->h'.get? b=some u)(hp:s.heap.objs.size<=a)(new:dQ X.prog X.w (upd H a o) h' a o):
  Inv X pins σ (upd H a o) {s with heap:=h',toks:=t'}:=I.un (Un.laid k hp (I.hok.fresh hp)) (I.hok.laid k hp new)
theorem Inv.write{x e:Addr}{o:HO}{t':Nat}(I:Inv X pins σ H s)(mu:Mut (H x))(he:e=x\/H e=some (.own x))(k:∀b u,b≠e->s.heap.get? b=some u->h'.get? b=some u)(heo:∃u,h'.get? e=some u)
  (new:dQ X.prog X.w (upd H x o) h' x o):Inv X pins σ (upd H x o) {s with heap:=h',toks:=t'}:=I.un (Un.write mu he k heo) (I.hok.write mu he k heo new)
theorem Inv.xw{pins':List (Addr×Obj)}(I:Inv X pins σ H s)(h:∀p∈pins',s.heap.get? p.1=some p.2/\H p.1=none/\p.1≠X.env.locals/\p.1∉X.fs/\∀v,p.2.data≠.cell v):Inv X pins' σ H s:=
 ⟨I.ok,I.os,I.bare,I.base,I.loc,I.cell,I.free,I.freeC,fun p hp=>(bF.mp hp).elim (fun z=>I.pin p (jw _ z)) (h p),I.hok,I.len⟩
theorem zt{N:List Str}(hN:N.Nodup){i j:Nat}{x:Str}(a:N[i]? =some x)(b:N[j]? =some x):i=j:=by
 obtain⟨h1,e1⟩:=aF.mp a;obtain⟨h2,e2⟩:=aF.mp b;exact(dY hN).mp (e1.trans e2.symm)
theorem Dw{M:Model}{A:Around}{E:Value->Shared->Prop}{i:Nat}{x:Str}{v:V}{u:Value}{Q:Unit->Shared->Prop}(I:Inv X pins σ H s)(hN:X.N.Nodup)(hi:X.N[i]? =some x)(hx:Loc X.env.scope x)(r:RelV v u)
  (h:∀s',Inv X pins (σ.set i (some v)) H s'->(∃a,cO a s.heap s'.heap/\(a=X.env.locals\/X.env.cells.lookup x=some a))->Q () s')(hf:X.fn x=true\/X.env.scope.names.lookup x=some .local:=by first |exact .inl rfl|exact .inr rfl|assumption):wpAny M A (storeName X.env x u) Q E s:=by
 obtain⟨m,hn,hl⟩:=id I.loc;have hcls:(X.env.scope.kind== .class||(X.env.scope.kind== .module&&X.env.locals != X.env.globals))=false:=by rw[I.ok.kind];rfl
 have hiσ:i<σ.length:=by rw[I.len];exact(aF.mp hi).1
 have cne:=I.cne;have tracked:∀{a:Addr}{h':Heap},(∃o,s.heap.get? a=some o/\H a=none)->cO a s.heap h'->HOk X.prog X.w H h':=fun{a h'} ha hs b ob e=>by
  obtain⟨_,_,hfree⟩:=ha;refine(I.hok b ob e).mY (fun c w' hc q=>(hs.2 c ?_).trans q) (fun _ q=>q) fun _ _ q=>q;rintro rfl;rcases hc with rfl|hc
  ·rw[hfree]at e;cases e
  ·rw[hfree]at hc;cases hc
 rcases hx with hk|hk
 ·refine wpAny_storeName_local hk hn (fun h' hn' hs=>?_) hcls
  obtain⟨oL,_,_,hoL,_⟩:=id hn;refine h _ ⟨I.ok,I.os,I.bare,⟨fun b o e n hb hx=>?_,fun b o e n hb hx=>?_,I.base.free,fun b o e hx=>?_,I.base.tups,I.base.frzs,I.base.tbls⟩,⟨_,hn',fun j y v' e1 e2 e3=>?_⟩,fun y c e=>?_,I.free,I.freeC,fun p hp=>?_,tracked ⟨oL,hoL,I.free⟩ hs,by simpa using I.len⟩ ⟨_,hs,.inl rfl⟩
  ·exact(hs.2 b (aJ (bc (av e) I.ok.above))).trans (I.base.keep b o e n hb hx)
  ·obtain⟨sl,e1⟩:=I.base.slot b o e n hb hx
   exact⟨sl,(hs.2 b (aJ (bc (av e) I.ok.above))).trans e1⟩
  ·obtain⟨o',e1⟩:=I.base.there b o e hx
   exact⟨o',(hs.2 b (aJ (bc (av e) I.ok.above))).trans e1⟩
  ·by_cases hj:j=i
   ·subst hj
    rw[hi]at e1;cases e1;rw[Dm hiσ]at e2;cases e2;exact⟨u,r,.inl ⟨hk,by simp⟩⟩
   ·rw[EY (cb hj)]at e2
    obtain⟨u',r',q⟩:=hl j y v' e1 e2 e3;refine⟨u',r',?_⟩;rcases q with⟨k,e⟩ |⟨k,c,e,z⟩
    ·refine .inl ⟨k,?_⟩
     have :y≠x:=fun e=>hj (zt hN e1 (e▸hi));simp[this,e]
    ·exact .inr ⟨k,c,e,z.sameBut hs (cne y c e)⟩
  ·obtain⟨w',z⟩:=I.cell y c e
   exact⟨w',z.sameBut hs (cne y c e)⟩
  ·obtain⟨e,n,ne,nf,d⟩:=I.pin p hp
   exact⟨(hs.2 p.1 ne).trans e,n,ne,nf,d⟩
 ·have hfn:X.fn x=true:=by
   rcases hf with z|z
   ·exact z
   ·rw[z]at hk;cases hk
  obtain⟨c,hc⟩:=I.ok.has x (.inl hk);obtain⟨w',z⟩:=I.cell x c hc;refine wpAny_storeName_cell I.ok.kind hk hc z (fun h' hc' hs=>?_);obtain⟨oc,hoc,hocd⟩:=id z;refine h {s with heap:=h'} ⟨I.ok,I.os,I.bare,⟨fun b o e n hb hx=>?_,fun b o e n hb hx=>?_,I.base.free,fun b o e hx=>?_,I.base.tups,I.base.frzs,I.base.tbls⟩,⟨m,hn.sameBut hs (cb (cne x c hc)),fun j y v' e1 e2 e3=>?_⟩,fun y c' e=>?_,I.free,I.freeC,fun p hp=>?_,tracked ⟨oc,hoc,I.freeC x c hc⟩ hs,by simpa using I.len⟩ ⟨c,hs,.inr hc⟩
  ·exact(hs.2 b (aJ (bc (av e) (I.ok.cab x c hfn hc)))).trans (I.base.keep b o e n hb hx)
  ·obtain⟨sl,e1⟩:=I.base.slot b o e n hb hx
   exact⟨sl,(hs.2 b (aJ (bc (av e) (I.ok.cab x c hfn hc)))).trans e1⟩
  ·obtain⟨o',e1⟩:=I.base.there b o e hx
   exact⟨o',(hs.2 b (aJ (bc (av e) (I.ok.cab x c hfn hc)))).trans e1⟩
  ·by_cases hj:j=i
   ·subst hj
    rw[hi]at e1;cases e1;rw[Dm hiσ]at e2;cases e2;exact⟨u,r,.inr ⟨.inl hk,c,hc,hc'⟩⟩
   ·rw[EY (cb hj)]at e2
    obtain⟨u',r',q⟩:=hl j y v' e1 e2 e3;refine⟨u',r',?_⟩;rcases q with q|⟨k,c',e,z'⟩
    ·exact .inl q
    ·refine .inr ⟨k,c',e,z'.sameBut hs ?_⟩
     rintro rfl;exact hj (zt hN e1 (I.ok.inj _ _ _ e hc▸hi))
  ·by_cases hcc:c'=c
   ·subst hcc;exact⟨_,hc'⟩
   ·obtain⟨w2,z2⟩:=I.cell y c' e
    exact⟨w2,z2.sameBut hs hcc⟩
  ·obtain⟨e,n,ne,nf,d⟩:=I.pin p hp
   refine⟨(hs.2 p.1 ?_).trans e,n,ne,nf,d⟩;intro q;rw[q,hoc]at e;have q':oc=p.2:=aT e;exact d w' (by rw[<-q'];exact hocd)
theorem yW{M:Model}{A:Around}{E:Value->Shared->Prop}{i:Nat}{x:Str}{v:V}{u:Value}{Q:Unit->Shared->Prop}(I:Inv X pins σ H s)(hN:X.N.Nodup)(hi:X.N[i]? =some x)(hx:Loc X.env.scope x)(r:RelV v u)
  (h:∀s',Inv X pins (σ.set i (some v)) H s'->Q () s')(hf:X.fn x=true\/X.env.scope.names.lookup x=some .local:=by first |exact .inl rfl|exact .inr rfl|assumption):wpAny M A (storeName X.env x u) Q E s:=
 Dw I hN hi hx r (fun s' I' _=>h s' I') hf
theorem Inv.call'{s':Shared}{ch:List Addr}(I:Inv X pins σ H s)(ho:s'.os=s.os)(u:Un (frs X.stack) ch H H' s.heap s'.heap)(hok:HOk X.prog X.w H' s'.heap)(hg:mX s'.gens)
  (hch:∀b∈ch,(b∈X.ex\/X.s₀.heap.objs.size<=b)/\b≠X.env.locals/\(∀x c,X.env.cells.lookup x=some c->c≠b)/\∀p∈X.pn++pins,p.1≠b):Inv X pins σ H' s':=by
 obtain⟨h',g',d',t',o'⟩:=s';have e:o'=s.os:=ho;subst e;exact I.call (g':=g') (t':=t') (d':=d') u hok hg hch
end
noncomputable abbrev XK:=Value->Option Addr->Hp->Prop
noncomputable abbrev St:=List (Option V)
noncomputable abbrev VK:=V->Hp->Prop
noncomputable abbrev TE:=St->Hp->VK->Prop
noncomputable abbrev TT:=St->Hp->(Bool->Hp->Prop)->Prop
noncomputable abbrev TA:=St->Hp->(List V->Hp->Prop)->Prop
structure Ends where
 nx:St->Hp->Prop
 rt:VK
 bk:St->Hp->Prop:=fun _ _=>False
 ct:St->Hp->Prop:=fun _ _=>False
noncomputable abbrev TS:=Ends->St->Hp->Prop
noncomputable def EP(X:Cx)(pins:List (Addr×Obj))(σ:St)(Q:VK)(u:Value)(s':Shared):Prop:=∃v H',Inv X pins σ H' s'/\RelV v u/\Q v H'
noncomputable def TP(X:Cx)(pins:List (Addr×Obj))(σ:St)(Q:Bool->Hp->Prop)(b:Bool)(s':Shared):Prop:=∃H',Inv X pins σ H' s'/\Q b H'
noncomputable def AP(X:Cx)(pins:List (Addr×Obj))(σ:St)(Q:List V->Hp->Prop)(us:List Value)(s':Shared):Prop:=∃vs H',Inv X pins σ H' s'/\bO vs us/\Q vs H'
noncomputable def SP(X:Cx)(pins:List (Addr×Obj))(D:Ends)(f:Flow)(s':Shared):Prop:=
 match f with
 |.next=>∃σ' H',Inv X pins σ' H' s'/\D.nx σ' H'
 |.brk=>∃σ' H',Inv X pins σ' H' s'/\D.bk σ' H'
 |.cont=>∃σ' H',Inv X pins σ' H' s'/\D.ct σ' H'
 |.ret u=>∃v σ' H',Inv X pins σ' H' s'/\RelV v u/\D.rt v H'
noncomputable def PE(X:Cx)(e:Expr)(t:TE):Prop:=
 ∀(pins:List (Addr×Obj))(s:Shared)(σ:St)(H:Hp)(Q:VK),Inv X pins σ H s->t σ H Q->wpAny (model X.prog X.w) X.A (eval e X.env) (EP X pins σ Q) X.xe s
noncomputable def PT(X:Cx)(e:Expr)(t:TT):Prop:=
 ∀(pins:List (Addr×Obj))(s:Shared)(σ:St)(H:Hp)(Q:Bool->Hp->Prop),Inv X pins σ H s->t σ H Q->wpAny (model X.prog X.w) X.A (isTrue e X.env (eval e X.env)) (TP X pins σ Q) X.xe s
noncomputable def PW(X:Cx)(e:Expr)(t:TT):Prop:=
 ∀(whole:Sem Value)(pins:List (Addr×Obj))(s:Shared)(σ:St)(H:Hp)(Q:Bool->Hp->Prop),Inv X pins σ H s->t σ H Q->wpAny (model X.prog X.w) X.A (isTrue e X.env whole) (TP X pins σ Q) X.xe s
theorem PW.pt{X:Cx}{e:Expr}{t:TT}(h:PW X e t):PT X e t:=h _
noncomputable def PA(X:Cx)(es:List Expr)(t:TA):Prop:=
 ∀(pos:Pos)(pins:List (Addr×Obj))(s:Shared)(σ:St)(H:Hp)(Q:List V->Hp->Prop),Inv X pins σ H s->t σ H Q->wpAny (model X.prog X.w) X.A (spliced (backTo pos (bP es X.env))) (AP X pins σ Q) X.xe s
noncomputable def PS(X:Cx)(st:Stmt)(t:TS):Prop:=
 ∀(pins:List (Addr×Obj))(s:Shared)(σ:St)(H:Hp)(D:Ends),Inv X pins σ H s->t D σ H->wpAny (model X.prog X.w) X.A (exec st X.env) (SP X pins D) X.xe s
noncomputable def PSs(X:Cx)(st:List Stmt)(t:TS):Prop:=
 ∀(pins:List (Addr×Obj))(s:Shared)(σ:St)(H:Hp)(D:Ends),Inv X pins σ H s->t D σ H->wpAny (model X.prog X.w) X.A (execs st X.env) (SP X pins D) X.xe s
theorem thn{α:Type}{t:Sem α}{Q Q':α->Shared->Prop}{M:Model}{A:Around}{E:Value->Shared->Prop}{s:Shared}(h:wpAny M A t Q E s)(hQ:∀a s,Q a s->Q' a s):wpAny M A t Q' E s:=fP h hQ fun _ _ x=>x
section
variable {X:Cx}
noncomputable def uH(i:Nat):TE:=fun σ H Q=>∃v,σ[i]? =some (some v)/\Q v H
noncomputable def tC(v:V):TE:=fun _ H Q=>Q v H
theorem pe_var{i:Nat}{x:Str}{pos:Pos}(hN:X.N[i]? =some x)(hv:Vis X.env.scope x)(hd:(x==("__debug__":Str))=false:=by decide) (hcd:(x==("__classdict__":Str))=false:=by decide):PE X (.Name x pos) (uH i):=by
 intro pins s σ H Q I h;obtain⟨v,e,h⟩:=h;obtain⟨m,hn,hl⟩:=I.loc;obtain⟨u,r,l⟩:=hl i x v hN e hv;have fin:EP X pins σ Q u s:=⟨v,H,I,r,h⟩;rcases l with⟨hk,hm⟩ |⟨hk,c,hc,hcell⟩
 ·exact EE (wpAny_loadName_local I.ok.kind hk hn hm fin) hd
 ·rcases hk with hk|hk
  ·exact EE (wpAny_loadName_cell I.ok.kind hk hc hcell fin) hd
  ·exact EE (wpAny_loadName_free I.ok.kind hk hc hcell fin hcd) hd
theorem pe_int{i j pos}:PE X (.Constant (.int i) j pos) (tC (.int i)):=fun _ _ _ H _ I h=>wpAny_Constant_int ⟨.int i,H,I.tok _,⟨_,rfl⟩,h⟩
theorem pe_bl{b j pos}:PE X (.Constant (.bool b) j pos) (tC (.bl b)):=fun _ _ _ H _ I h=>Constant_bool ⟨.bl b,H,I,rfl,h⟩
theorem pe_non{j pos}:PE X (.Constant .none j pos) (tC .non):=fun _ _ _ H _ I h=>Constant_none ⟨.non,H,I,rfl,h⟩
theorem pe_str{x j pos}:PE X (.Constant (.str x) j pos) (tC (.str x)):=fun _ _ _ H _ I h=>Calls.Constant_str ⟨.str x,H,I.tok _,⟨_,rfl⟩,h⟩
noncomputable def Gl(X:Cx)(x:Str):Prop:=X.env.kindOf x=some .globalImplicit
theorem rK{E:Value->Shared->Prop}{pins:List (Addr×Obj)}{s:Shared}{σ:St}{H:Hp}{x:Str}{u:Value}{pos:Pos}{Q:Value->Shared->Prop}(I:Inv X pins σ H s)(hg:Gl X x)(hm:X.mg x=some u)(h:Q u s)
  (hd:(x==("__debug__":Str))=false:=by decide):wpAny (model X.prog X.w) X.A (eval (.Name x pos) X.env) Q E s:=
 yB I.ok.kind hg (Calls.loadGlobal_global (by rw[I.ok.glob];exact I.mod.glob.keeps I.bk) hm h) hd
theorem iR{E:Value->Shared->Prop}{pins:List (Addr×Obj)}{s:Shared}{σ:St}{H:Hp}{x:Str}{u:Value}{pos:Pos}{Q:Value->Shared->Prop}(I:Inv X pins σ H s)(hg:Gl X x)(hm:X.mg x=none)(hv:fL x=some u)(h:Q u s)
  (hn:x≠"__name__":=by decide) (hd:(x==("__debug__":Str))=false:=by decide):wpAny (model X.prog X.w) X.A (eval (.Name x pos) X.env) Q E s:=by
 obtain⟨mb,h1,h2⟩:=I.mod.blt;exact yB I.ok.kind hg (Calls.loadGlobal_builtin (by rw[I.ok.glob];exact I.mod.glob.keeps I.bk) hm (by rw[I.ok.blt];exact h1.keeps I.bk) ((h2 x hn).trans hv) h) hd
theorem pe_glob{x:Str}{v:V}{u:Value}{pos:Pos}(hg:Gl X x)(hm:X.mg x=some u)(r:RelV v u)(hd:(x==("__debug__":Str))=false:=by decide):PE X (.Name x pos) (tC v):=
 fun _ _ _ H _ I h=>rK I hg hm ⟨v,H,I,r,h⟩ hd
theorem pe_bltn{x:Str}{v:V}{u:Value}{pos:Pos}(hg:Gl X x)(hm:X.mg x=none)(hv:fL x=some u)(r:RelV v u)(hn:x≠"__name__":=by decide) (hd:(x==("__debug__":Str))=false:=by decide):PE X (.Name x pos) (tC v):=
 fun _ _ _ H _ I h=>iR I hg hm hv ⟨v,H,I,r,h⟩ hn hd
variable {a b:Expr}{ta tb:TE}{pos:Pos}
variable {tA tB':TT}{rest:List Expr}
noncomputable def tAnd(t u:TT):TT:=fun σ H Q=>t σ H fun c H1=>if c=true then u σ H1 Q else Q false H1
noncomputable def tOr(t u:TT):TT:=fun σ H Q=>t σ H fun c H1=>if c=true then Q true H1 else u σ H1 Q
noncomputable def tNot(t:TT):TT:=fun σ H Q=>t σ H fun c H1=>Q (!c) H1
theorem pw_and1(ha:PT X a tA):PW X (.BoolOp .And [a] pos) tA:=by
 intro wh pins s σ H Q I h;refine isTrue_and (thn (ha pins s σ H Q I h) fun c s1 e=>?_);cases c with
 |true=>exact isTrue_and_nil e
 |false=>exact e
theorem pw_or1(ha:PT X a tA):PW X (.BoolOp .Or [a] pos) tA:=by
 intro wh pins s σ H Q I h;refine isTrue_or (thn (ha pins s σ H Q I h) fun c s1 e=>?_);cases c with
 |false=>exact isTrue_or_nil e
 |true=>exact e
theorem F5(ha:PT X a tA)(hb:PW X (.BoolOp .And (b::rest) pos) tB'):PW X (.BoolOp .And (a::b::rest) pos) (tAnd tA tB'):=by
 intro wh pins s σ H Q I h;refine isTrue_and (thn (ha pins s σ H _ I h) fun c s1 ⟨H1,I1,q1⟩=>?_);cases c with
 |true=>exact hb wh pins s1 σ H1 Q I1 q1
 |false=>exact⟨H1,I1,q1⟩
theorem pw_or(ha:PT X a tA)(hb:PW X (.BoolOp .Or (b::rest) pos) tB'):PW X (.BoolOp .Or (a::b::rest) pos) (tOr tA tB'):=by
 intro wh pins s σ H Q I h;refine isTrue_or (thn (ha pins s σ H _ I h) fun c s1 ⟨H1,I1,q1⟩=>?_);cases c with
 |true=>exact⟨H1,I1,q1⟩
 |false=>exact hb wh pins s1 σ H1 Q I1 q1
theorem pt_not(ha:PT X a tA):PT X (.UnaryOp .Not a pos) (tNot tA):=by
 intro pins s σ H Q I h;exact isTrue_not (ha pins s σ H (fun c H1=>Q (!c) H1) I h)
noncomputable def Fp(ta tb:TE):TE:=fun σ H Q=>ta σ H fun x H1=>∃c,x=.bl c/\if c=true then tb σ H1 Q else Q (.bl false) H1
noncomputable def tOrV(ta tb:TE):TE:=fun σ H Q=>ta σ H fun x H1=>∃c,x=.bl c/\if c=true then Q (.bl true) H1 else tb σ H1 Q
noncomputable def Fk(ta:TE):TE:=fun σ H Q=>ta σ H fun x H1=>∃c,x=.bl c/\Q (.bl (!c)) H1
theorem Gn{op}{t:TE}(h:PE X a t):PE X (.BoolOp op [a] pos) t:=fun pins s σ H Q I hw=>BoolOp_one (h pins s σ H Q I hw)
theorem Gz(ha:PE X a ta)(hb:PE X (.BoolOp .And (b::rest) pos) tb):PE X (.BoolOp .And (a::b::rest) pos) (Fp ta tb):=by
 intro pins s σ H Q I h;refine BoolOp_and (thn (ha pins s σ H _ I h) fun v s1 ⟨x,H1,I1,r1,q1⟩=>?_);obtain⟨c,rfl,q1⟩:=q1;cases r1;refine cU ?_;cases c with
 |true=>exact hb pins s1 σ H1 Q I1 q1
 |false=>exact⟨.bl false,H1,I1,rfl,q1⟩
theorem pe_or(ha:PE X a ta)(hb:PE X (.BoolOp .Or (b::rest) pos) tb):PE X (.BoolOp .Or (a::b::rest) pos) (tOrV ta tb):=by
 intro pins s σ H Q I h;refine BoolOp_or (thn (ha pins s σ H _ I h) fun v s1 ⟨x,H1,I1,r1,q1⟩=>?_);obtain⟨c,rfl,q1⟩:=q1;cases r1;refine cU ?_;cases c with
 |false=>exact hb pins s1 σ H1 Q I1 q1
 |true=>exact⟨.bl true,H1,I1,rfl,q1⟩
theorem pe_not(ha:PE X a ta):PE X (.UnaryOp .Not a pos) (Fk ta):=by
 intro pins s σ H Q I h;refine UnaryOp_ (thn (ha pins s σ H _ I h) fun v s1 ⟨x,H1,I1,r1,q1⟩=>?_);obtain⟨c,rfl,q1⟩:=q1;cases r1;exact not_of (cU ⟨.bl (!c),H1,I1,rfl,q1⟩)
noncomputable def tIf(t:TT)(ta tb:TE):TE:=fun σ H Q=>t σ H fun c H1=>if c=true then ta σ H1 Q else tb σ H1 Q
theorem Gp{c:Expr}(hc:PT X c tA)(ha:PE X a ta)(hb:PE X b tb):PE X (.IfExp c a b pos) (tIf tA ta tb):=by
 intro pins s σ H Q I h;refine wpAny_IfExp (thn (hc pins s σ H _ I h) fun d s1 ⟨H1,I1,q1⟩=>?_);cases d with
 |true=>exact ha pins s1 σ H1 Q I1 q1
 |false=>exact hb pins s1 σ H1 Q I1 q1
end
noncomputable def SqL(K:af)(H:Hp)(a:Addr)(xs:List V):Prop:=
 Rd H a (.lst xs)\/
  ∃(o:Obj)(its:Array Value)(n:Nat),K.lookup a=some o/\o.cls=.type "list"/\o.dict=none/\o.data=.seq its n/\its.size<=sizeLine/\bO xs its.toList
noncomputable def SqT(K:af)(H:Hp)(a:Addr)(xs:List V):Prop:=
 Rd H a (.tup xs)\/
  ∃(o:Obj)(its:Array Value)(n:Nat),K.lookup a=some o/\o.cls=.type "tuple"/\o.data=.seq its n/\its.size<=sizeLine/\bO xs its.toList
noncomputable def absV:Value->Option V
 |.none=>some .non
 |.bool b=>some (.bl b)
 |.int i _=>some (.int i)
 |.str x _=>some (.str x)
 |.bytes b _=>some (.byt b)
 |.float b _=>some (.flt b)
 |.ref a=>some (.ref a)
 |.type n=>some (.ty n)
 |_=>none
theorem RelV.abs{x:V}{u:Value}(r:RelV x u):absV u=some x:=by
 cases x with
 |non=>cases r;rfl
 |bl _=>cases r;rfl
 |int _=>obtain⟨t,rfl⟩:=r;rfl
 |str _=>obtain⟨t,rfl⟩:=r;rfl
 |byt _=>obtain⟨t,rfl⟩:=r;rfl
 |flt _=>obtain⟨t,rfl⟩:=r;rfl
 |ref _=>cases r;rfl
 |ty _=>cases r;rfl
theorem RelV.inj{x y:V}{u:Value}(r:RelV x u)(q:RelV y u):x=y:=aT (r.abs.symm.trans q.abs)
theorem bO.inj{xs ys:List V}{us:List Value}(h:bO xs us):bO ys us->xs=ys:=by
 induction h generalizing ys with
 |nil=>intro k;cases k;rfl
 |cons r k ih=>
  intro w;cases w with
  |cons r' w'=>rw[r.inj r',ih w']
section
variable {X:Cx}{pins:List (Addr×Obj)}{σ:St}{H:Hp}{s:Shared}{a:Addr}{xs ys:List V}
theorem SqL.of{K:af}(h:H a=some (.lst xs)):SqL K H a xs:=.inl (.inl h)
theorem SqT.of{K:af}(h:H a=some (.tup xs)):SqT K H a xs:=.inl (.inl h)
theorem Inv.list(I:Inv X pins σ H s)(h:SqL X.K H a xs):∃its:List Value,bO xs its/\PlainL s.heap a its.toArray/\xs.length<=sizeLine:=by
 rcases h with h|⟨o,its,n,hk,hc,hd,hs,hz,r⟩
 ·obtain⟨z,its,n,r,e⟩:=h.ok I.hok
  exact⟨its,r,⟨_,n,e,rfl,rfl,rfl⟩,z⟩
 ·refine⟨its.toList,r,⟨o,n,I.kIn a o hk,hc,hd,by simpa using hs⟩,?_⟩
  have e:=r.length;simp only[aO]at e;omega
theorem Inv.tuple(I:Inv X pins σ H s)(h:SqT X.K H a xs):∃its:List Value,bO xs its/\IsTup s.heap a its.toArray/\xs.length<=sizeLine:=by
 rcases h with h|⟨o,its,n,hk,hc,hs,hz,r⟩
 ·obtain⟨z,its,r,p⟩:=h.ok I.hok
  exact⟨its,r,p,z⟩
 ·refine⟨its.toList,r,⟨o,I.kIn a o hk,hc,n,by simpa using hs⟩,?_⟩
  have e:=r.length;simp only[aO]at e;omega
theorem Inv.zB(I:Inv X pins σ H s)(h:SqL X.K H a xs)(h':SqL X.K H a ys):xs=ys:=by
 obtain⟨its,r,⟨o,n,e,_,_,d⟩,_⟩:=I.list h;obtain⟨its',r',⟨o',n',e',_,_,d'⟩,_⟩:=I.list h';rw[e]at e';cases e';rw[d]at d';injection d' with d1 _
 have :its=its':=by simpa using congrArg Array.toList d1
 subst this;exact r.inj r'
theorem Inv.pS(I:Inv X pins σ H s)(h:SqT X.K H a xs)(h':SqT X.K H a ys):xs=ys:=by
 obtain⟨its,r,⟨o,e,_,n,d⟩,_⟩:=I.tuple h;obtain⟨its',r',⟨o',e',_,n',d'⟩,_⟩:=I.tuple h';rw[e]at e';cases e';rw[d]at d';injection d' with d1 _
 have :its=its':=by simpa using congrArg Array.toList d1
 subst this;exact r.inj r'
end
section
variable {X:Cx}{st:Stmt}{rest:List Stmt}{t u:TS}{e:Expr}{te:TE}{pos:Pos}
noncomputable def yT:TS:=fun D σ H=>D.nx σ H
noncomputable def uI(t u:TS):TS:=fun D σ H=>t {D with nx:=u D} σ H
theorem pss_nil:PSs X [] yT:=fun _ _ σ H _ I h=>wpAny_execs_nil ⟨σ,H,I,h⟩
theorem sE(h1:PS X st t)(h2:PSs X rest u):PSs X (st::rest) (uI t u):=by
 intro pins s σ H D I h;refine wpAny_execs_cons (thn (h1 pins s σ H {D with nx:=u D} I h) fun f s1 q=>?_);cases f with
 |next =>
  obtain⟨σ',H',I',q⟩:=q;exact h2 pins s1 σ' H' D I' q
 |ret v=>exact q
 |brk=>exact q
 |cont=>exact q
noncomputable def Fo:TS:=fun D σ H=>D.bk σ H
noncomputable def tCont:TS:=fun D σ H=>D.ct σ H
theorem ps_pass:PS X (.Pass pos) yT:=fun _ _ σ H _ I h=>wpAny_Pass ⟨σ,H,I,h⟩
theorem F9:PS X (.Break pos) Fo:=fun _ _ σ H _ I h=>wpAny_Break ⟨σ,H,I,h⟩
theorem zf:PS X (.Continue pos) tCont:=fun _ _ σ H _ I h=>wpAny_Continue ⟨σ,H,I,h⟩
theorem Inv.quiet{pins:List (Addr×Obj)}{σ:St}{H:Hp}{s:Shared}(I:Inv X pins σ H s):interactive X.env=false:=by simp[interactive,I.ok.kind]
noncomputable def Fl(te:TE):TS:=fun D σ H=>te σ H fun _ H1=>D.nx σ H1
theorem ps_expr(he:PE X e te)(hs:rP e none pos.line X.env=pure false:=by rfl):PS X (.Expr e pos) (Fl te):=by
 intro pins s σ H D I h;exact wpAny_Expr_any (thn (he pins s σ H _ I h) fun v s1 ⟨x,H1,I1,r1,q1⟩=>⟨σ,H1,I1,q1⟩) I.quiet hs
noncomputable def tRet(te:TE):TS:=fun D σ H=>te σ H D.rt
theorem ps_ret(he:PE X e te):PS X (.Return (some e) pos) (tRet te):=by
 intro pins s σ H D I h;exact wpAny_Return_some (thn (he pins s σ H _ I h) fun v s1 ⟨x,H1,I1,r1,q1⟩=>⟨x,σ,H1,I1,r1,q1⟩)
noncomputable def Fi:TS:=fun D _ H=>D.rt .non H
theorem ps_retN:PS X (.Return none pos) Fi:=fun _ _ σ H _ I h=>wpAny_Return_none ⟨.non,σ,H,I,rfl,h⟩
noncomputable def tIfS(c:TT)(t u:TS):TS:=fun D σ H=>c σ H fun b H1=>if b=true then t D σ H1 else u D σ H1
theorem ps_if{c:Expr}{a b:List Stmt}{tc:TT}(hc:PT X c tc)(ha:PSs X a t)(hb:PSs X b u):PS X (.If c a b pos) (tIfS tc t u):=by
 intro pins s σ H D I h;refine wpAny_If (thn (hc pins s σ H _ I h) fun d s1 ⟨H1,I1,q1⟩=>?_);cases d with
 |true=>exact ha pins s1 σ H1 D I1 q1
 |false=>exact hb pins s1 σ H1 D I1 q1
end
noncomputable abbrev TG:=V->St->Hp->(St->Hp->Prop)->Prop
noncomputable abbrev TGs:=List V->St->Hp->(St->Hp->Prop)->Prop
noncomputable def PG(X:Cx)(target:Expr)(t:TG):Prop:=
 ∀(pins:List (Addr×Obj))(s:Shared)(σ:St)(H:Hp)(v:V)(u:Value)(Q:St->Hp->Prop),Inv X pins σ H s->RelV v u->t v σ H Q->
  wpAny (model X.prog X.w) X.A (assign target X.env u) (fun _ s'=>∃σ' H',Inv X pins σ' H' s'/\Q σ' H') X.xe s
noncomputable def PGs(X:Cx)(ts:List Expr)(t:TGs):Prop:=
 ∀(pins:List (Addr×Obj))(s:Shared)(σ:St)(H:Hp)(vs:List V)(us:List Value)(Q:St->Hp->Prop),Inv X pins σ H s->bO vs us->t vs σ H Q->
  wpAny (model X.prog X.w) X.A (assignInOrder ((fj ts X.env).map (·.2)) us) (fun _ s'=>∃σ' H',Inv X pins σ' H' s'/\Q σ' H') X.xe s
noncomputable abbrev TSet:=V->V->V->Hp->(Hp->Prop)->Prop
noncomputable def PSet(X:Cx)(t:TSet):Prop:=
 ∀(pins:List (Addr×Obj))(s:Shared)(σ:St)(H:Hp)(o i v:V)(ov iv u:Value)(Q:Hp->Prop),Inv X pins σ H s->RelV o ov->RelV i iv->RelV v u->t o i v H Q->
  wpAny (model X.prog X.w) X.A (setItem ov iv u) (fun _ s'=>∃H',Inv X pins σ H' s'/\Q H') X.xe s
section
variable {X:Cx}{pos:Pos}
noncomputable def l7(i:Nat):TG:=fun v σ H Q=>Q (σ.set i (some v)) H
theorem Ci{i:Nat}{x:Str}(hN:X.N.Nodup)(hi:X.N[i]? =some x)(hx:Loc X.env.scope x)(hf:X.fn x=true\/X.env.scope.names.lookup x=some .local:=by first |exact .inl rfl|exact .inr rfl|assumption):PG X (.Name x pos) (l7 i):=by
 intro pins s σ H v u Q I r h;exact wpAny_assign_Name (yW I hN hi hx r (fun s' I'=>⟨_,H,I',h⟩) hf)
noncomputable def gNil:TGs:=fun vs σ H Q=>vs=[]/\Q σ H
noncomputable def Hw(t:TG)(u:TGs):TGs:=fun vs σ H Q=>∃v r,vs=v::r/\t v σ H fun σ' H'=>u r σ' H' Q
theorem pgs_nil:PGs X [] gNil:=by
 intro pins s σ H vs us Q I r h;obtain⟨e,h⟩:=h;subst e;cases r;exact assignInOrder_nil ⟨σ,H,I,h⟩
theorem Gg{e:Expr}{es:List Expr}{t:TG}{u:TGs}(h1:PG X e t)(h2:PGs X es u)
  (hs:(fj (e::es) X.env).map (·.2)=assign e X.env::(fj es X.env).map (·.2):=by rfl):PGs X (e::es) (Hw t u):=by
 intro pins s σ H vs us Q I r h;obtain⟨v,vr,e1,h⟩:=h;subst e1;cases r with
 |cons r rr=>
  rw[hs];refine assignInOrder_cons (thn (h1 pins s σ H _ _ _ I r h) fun _ s1 ⟨σ1,H1,I1,q1⟩=>?_);exact h2 pins s1 σ1 H1 _ _ Q I1 rr q1
noncomputable def gTup(K:af)(n:Nat)(t:TGs):TG:=fun v σ H Q=>∃a xs,v=.ref a/\SqT K H a xs/\xs.length=n/\t xs σ H Q
theorem pg_tup{es:List Expr}{k:Nat}{t:TGs}{n:Nat}(hc:X.calm=true)(h:PGs X es t)
  (hn:(fj es X.env).length=n:=by rfl) (hst:(fj es X.env).findIdx? (·.1)=none:=by rfl):PG X (.Tuple es k pos) (gTup X.K n t):=by
 intro pins s σ H v u Q I r hw;obtain⟨a,xs,e1,hq,hl,hw⟩:=hw;subst e1;cases r;obtain⟨its,rv,ht,hz⟩:=I.tuple hq;refine assign_Tuple_tuple (I.ok.hd hc) ht (by simp[hn,<-hl,rv.length]) hst fun h' hx=>?_;have I1:Inv X pins σ H {s with heap:=h'}:=I.kept (t':=s.toks) fun b o e=>hx b o (aJ (av e)) e;exact h pins _ σ H xs _ Q I1 (by simpa using rv) hw
noncomputable def gSub(to ti:TE)(t:TSet):TG:=fun v σ H Q=>to σ H fun o H1=>ti σ H1 fun i H2=>t o i v H2 fun H3=>Q σ H3
theorem pg_sub{o i:Expr}{to ti:TE}{t:TSet}(ho:PE X o to)(hi:PE X i ti)(hs:PSet X t)
  (ha:∀v,assign (.Subscript o i pos) X.env v=(do
   let ov<-holding [v] (eval o X.env)
   let iv<-holding [v,ov] (eval i X.env)
   standAt pos
   holding [v,ov,iv] (setItem ov iv v)
   release [v,ov,iv] []):=by intro _;rfl):PG X (.Subscript o i pos) (gSub to ti t):=by
 intro pins s σ H v u Q I r h;rw[ha];refine aa (bf (thn (ho pins s σ H _ I h) fun ov s1 ⟨x,H1,I1,r1,q1⟩=>?_));refine aa (bf (thn (hi pins s1 σ H1 _ I1 q1) fun iv s2 ⟨y,H2,I2,r2,q2⟩=>?_));refine aa (jZ (aa (bf (thn (hs pins s2 σ H2 x y v ov iv u _ I2 r1 r2 r q2) fun _ s3 ⟨H3,I3,q3⟩=>?_))));exact wpAny_release ⟨σ,H3,I3,q3⟩
noncomputable def wM(te:TE)(g:TG):TS:=fun D σ H=>te σ H fun x H1=>g x σ H1 D.nx
theorem Ga{tg e:Expr}{te:TE}{g:TG}(he:PE X e te)(hg:PG X tg g)(hs:Iy [tg] e pos.line X.env=pure false:=by rfl) (hw:swappedStores [tg] e X.env=pure none:=by rfl)
  (h1:(fj [tg] X.env).map (·.2)=[assign tg X.env]:=by rfl):PS X (.Assign [tg] e pos) (wM te g):=by
 intro pins s σ H D I h;refine wpAny_Assign_stores (thn (he pins s σ H _ I h) fun v s1 ⟨x,H1,I1,r1,q1⟩=>?_) hs hw;rw[h1];exact thn (hg pins s1 σ H1 x v _ I1 r1 q1) fun _ s2 q=>q
theorem ps_set{i:Nat}{x:Str}{e:Expr}{te:TE}{pos':Pos}(hN:X.N.Nodup)(hi:X.N[i]? =some x)(hx:Loc X.env.scope x)(he:PE X e te)(hs:rP e (some (.Name x pos')) pos.line X.env=pure false:=by rfl) (hf:X.fn x=true\/X.env.scope.names.lookup x=some .local:=by first |exact .inl rfl|exact .inr rfl|assumption):
  PS X (.Assign [.Name x pos'] e pos) (wM te (l7 i)):=by
 intro pins s σ H D I h;refine wpAny_Assign_Name (thn (he pins s σ H _ I h) fun v s1 ⟨y,H1,I1,r1,q1⟩=>?_) hs;exact yW I1 hN hi hx r1 (fun s2 I2=>⟨_,H1,I2,q1⟩) hf
end
section
variable {X:Cx}{pos:Pos}
noncomputable def tWhile(c:TT)(tb:TS):TS:=fun D σ H=>∃W:Nat->St->Hp->Prop,(∃m,W m σ H)/\∀m σ H,W m σ H->
 c σ H fun b H1=>if b=true then ∃N:St->Hp->Prop,(∀σ' H',N σ' H'->∃m',m'<m/\W m' σ' H')/\tb {D with nx:=N,ct:=N,bk:=D.nx} σ H1 else D.nx σ H1
end
structure It where
 go:Nat->Hp->Prop
 yld:Nat->Hp->V->Hp->Prop
 stop:Nat->Hp->Prop
noncomputable def pG(X:Cx)(pins:List (Addr×Obj))(H:Hp)(b:Addr):Prop:=
 H b=none/\b≠X.env.locals/\b∉X.fs/\(b∈X.ex\/X.s₀.heap.objs.size<=b)/\(∀x c,X.env.cells.lookup x=some c->c≠b)/\∀p∈X.pn++pins,p.1≠b
theorem Inv.xT{X:Cx}{pins:List (Addr×Obj)}{σ:St}{H H':Hp}{s:Shared}{b:Addr}(I:Inv X pins σ H s)(hb:s.heap.objs.size<=b)(hn:H' b=none):pG X pins H' b:=by
 refine⟨hn,dq (bc I.lt hb),I.nofs hb,.inr (ba I.sz hb),fun x c e z=>?_,fun p hp z=>?_⟩
 ·obtain⟨v,q⟩:=I.cell x c e
  exact absurd (bc q.lt (by rw[z];exact hb)) (dM _)
 ·exact absurd (bc (av (I.pin p hp).1) (by rw[z];exact hb)) (dM _)
structure Turn(P:Program)(w:World)(K:af)(tg:Expr)(J:It)(fp:List Addr)(it:Addr)(tn:Nat->Heap->Prop):Prop where
 mem:it∈fp
 obj:∀i h,tn i h->∀b∈fp,∃o,h.get? b=some o/\∀v,o.data≠.cell v
 keep:∀i h h',tn i h->(∀b∈fp,∀o,h.get? b=some o->h'.get? b=some o)->tn i h'
 item:∀(X:Cx),X.prog=P->X.w=w->X.K=K->X.calm=true->∀(i:Nat)(pins:List (Addr×Obj))(s:Shared)(σ:St)(H:Hp)(E:Value->Shared->Prop),Inv X pins σ H s->(∀b∈fp,pG X pins H b)->tn i s.heap->J.go i H->
  wpAny (model P w) X.A (pyNext (.ref it)) (fun r s1=>∃u,r=some u/\
   wpAny (model P w) X.A (pK tg (.ref it) u) (fun _ s2=>∃x H',Inv X pins σ H' s2/\RelV x u/\J.yld i H x H'/\tn (i+1) s2.heap/\∀b∈fp,H' b=none) E s1) E s
 done:∀(X:Cx),X.prog=P->X.w=w->X.K=K->X.calm=true->∀(i:Nat)(pins:List (Addr×Obj))(s:Shared)(σ:St)(H:Hp)(E:Value->Shared->Prop),Inv X pins σ H s->(∀b∈fp,pG X pins H b)->tn i s.heap->J.stop i H->
  wpAny (model P w) X.A (pyNext (.ref it)) (fun r s1=>r=none/\Inv X pins σ H s1) E s
 self:∀(A:Around)(i:Nat)(s:Shared)(Q:Value->Shared->Prop)(E:Value->Shared->Prop),tn i s.heap->Q (.ref it) s->wpAny (model P w) A (pyIter (.ref it)) Q E s
noncomputable abbrev TI:=St->Hp->(It->Hp->Prop)->Prop
noncomputable def PIE(X:Cx)(pins:List (Addr×Obj))(σ:St)(tg:Expr)(R:It->Hp->Prop)(itv:Value)(s2:Shared):Prop:=
 ∃(it:Addr)(fp:List Addr)(tn:Nat->Heap->Prop)(J:It)(H':Hp),itv=.ref it/\Inv X pins σ H' s2/\Turn X.prog X.w X.K tg J fp it tn/\tn 0 s2.heap/\(∀b∈fp,pG X pins H' b)/\R J H'
noncomputable def PI(X:Cx)(tg iter:Expr)(wi:TI):Prop:=
 ∀(pins:List (Addr×Obj))(s:Shared)(σ:St)(H:Hp)(R:It->Hp->Prop),Inv X pins σ H s->wi σ H R->
  wpAny (model X.prog X.w) X.A (eval iter X.env) (fun v s1=>wpAny (model X.prog X.w) X.A (pyIter v) (PIE X pins σ tg R) X.xe s1) X.xe s
theorem CM{M:Model}{A:Around}{E:Value->Shared->Prop}{s:Shared}{tg:Expr}{it:Addr}{u:Value}{o:Obj}{n:String}{vs:Array Value}{Q:Unit->Shared->Prop}(ho:s.heap.get? it=some o)(hc:o.cls=.type n)(hd:o.data=.fields vs)
  (hn:["enumerate","zip","dict_itemiterator","dict_reverseitemiterator","odict_iterator","itertools.zip_longest","itertools.pairwise"].contains n=false)(hQ:Q () s):wpAny M A (pK tg (.ref it) u) Q E s:=by
 unfold pK;cases tg<;>first
  |exact aj hQ
  | (cases u<;>first
    |exact aj hQ
    | (refine aa (wpAny_load ho ?_)
       rw[hc,hd];show wpAny M A (if(["enumerate","zip","dict_itemiterator","dict_reverseitemiterator","odict_iterator","itertools.zip_longest","itertools.pairwise"].contains n&&vs[0]? ==some (rawInt _))=true then _ else _) Q E s;rw[if_neg (by intro h;rw[hn,dN]at h;cases h)];exact aj hQ))
noncomputable def Itl(K:af)(a:Addr):It:=
 ⟨fun i H=>∃xs x,SqL K H a xs/\xs[i]? =some x,fun i H x H'=>H'=H/\∀xs,SqL K H a xs->xs[i]? =some x,fun i H=>∃xs,SqL K H a xs/\xs.length<=i⟩
noncomputable def Itt(K:af)(a:Addr):It:=
 ⟨fun i H=>∃xs x,SqT K H a xs/\xs[i]? =some x,fun i H x H'=>H'=H/\∀xs,SqT K H a xs->xs[i]? =some x,fun i H=>∃xs,SqT K H a xs/\xs.length<=i⟩
noncomputable def Itr(lo:Int)(n:Nat):It:=⟨fun i _=>i<n,fun i H x H'=>H'=H/\x=.int (lo+i),fun i _=>n<=i⟩
theorem u9{P:Program}{w:World}{K:af}{tg:Expr}(a it:Addr):Turn P w K tg (Itl K a) [it] it (fun i h=>h.IsListIter it a i) where
 mem:=by simp
 obj:=fun i h st b hb=>by
  have e:b=it:=by simpa using hb
  subst e;obtain⟨o,e,c,d⟩:=st;exact⟨o,e,fun v z=>by rw[d]at z;cases z⟩
 keep:=fun i h h' st k=>st.at fun o e=>k it (by simp) o e
 item:=by
  intro X hP hw hK hc i pins s σ H E I hf st hg;subst hP hw hK;obtain⟨xs,x,hq,hx⟩:=hg;obtain⟨its,rv,p,hz⟩:=I.list hq;obtain⟨u,hu,ru⟩:=rv.get hx;obtain⟨f0,f1,f2,f3,f4,f5⟩:=hf it (by simp);refine wpAny_pyNext_list_item st p.isList (x:=u) (by simpa using hu) fun h' st' sb=>?_;have I1:Inv X pins σ H {s with heap:=h'}:=I.turned (t':=s.toks) (fun b o hb e=>(sb.2 b hb).trans e) f0 f1 f3 f4 f5;obtain⟨o,e,c,d⟩:=id st';exact⟨u,rfl,CM (s:={s with heap:=h'}) e c d (by decide) ⟨x,H,I1,ru,⟨rfl,fun ys hy=>by rw[I.zB hy hq];exact hx⟩,st',fun b hb=>(hf b hb).1⟩⟩
 done:=by
  intro X hP hw hK hc i pins s σ H E I hf st hg;subst hP hw hK;obtain⟨xs,hq,hx⟩:=hg;obtain⟨its,rv,p,hz⟩:=I.list hq;obtain⟨f0,f1,f2,f3,f4,f5⟩:=hf it (by simp);have hl:=rv.length;exact wpAny_pyNext_list_end (I.ok.hd hc) st p.isList (by simp;omega) fun h' eb=>⟨rfl,I.turned (t':=s.toks) (fun b o hb e=>eb b o hb e) f0 f1 f3 f4 f5⟩
 self:=fun _ _ _ _ _ st h=>wpAny_pyIter_listiter st h
theorem rY{P:Program}{w:World}{K:af}{tg:Expr}(a it:Addr):Turn P w K tg (Itt K a) [it] it (fun i h=>h.IsTupleIter it a i) where
 mem:=by simp
 obj:=fun i h st b hb=>by
  have e:b=it:=by simpa using hb
  subst e;obtain⟨o,e,c,d⟩:=st;exact⟨o,e,fun v z=>by rw[d]at z;cases z⟩
 keep:=fun i h h' st k=>st.at fun o e=>k it (by simp) o e
 item:=by
  intro X hP hw hK hc i pins s σ H E I hf st hg;subst hP hw hK;obtain⟨xs,x,hq,hx⟩:=hg;obtain⟨its,rv,p,hz⟩:=I.tuple hq;obtain⟨u,hu,ru⟩:=rv.get hx;obtain⟨f0,f1,f2,f3,f4,f5⟩:=hf it (by simp);refine wpAny_pyNext_tuple_item st (show s.heap.IsTuple a its.toArray from p) (x:=u) (by simpa using hu) fun h' st' sb=>?_;have I1:Inv X pins σ H {s with heap:=h'}:=I.turned (t':=s.toks) (fun b o hb e=>(sb.2 b hb).trans e) f0 f1 f3 f4 f5;obtain⟨o,e,c,d⟩:=id st';exact⟨u,rfl,CM (s:={s with heap:=h'}) e c d (by decide) ⟨x,H,I1,ru,⟨rfl,fun ys hy=>by rw[I.pS hy hq];exact hx⟩,st',fun b hb=>(hf b hb).1⟩⟩
 done:=by
  intro X hP hw hK hc i pins s σ H E I hf st hg;subst hP hw hK;obtain⟨xs,hq,hx⟩:=hg;obtain⟨its,rv,p,hz⟩:=I.tuple hq;obtain⟨f0,f1,f2,f3,f4,f5⟩:=hf it (by simp);have hl:=rv.length;exact wpAny_pyNext_tuple_end (I.ok.hd hc) st (show s.heap.IsTuple a its.toArray from p) (by simp;omega) fun h' eb=>⟨rfl,I.turned (t':=s.toks) (fun b o hb e=>eb b o hb e) f0 f1 f3 f4 f5⟩
 self:=fun _ _ _ _ _ st h=>wpAny_pyIter_tupleiter st h
theorem AK{P:Program}{w:World}{K:af}{tg:Expr}(it:Addr)(lo:Int)(n:Nat):Turn P w K tg (Itr lo n) [it] it (fun i h=>IsRangeIter h it (lo+(i:Nat)*1) ((n:Int)-(i:Nat)) 1) where
 mem:=by simp
 obj:=fun i h st b hb=>by
  have e:b=it:=by simpa using hb
  subst e;exact⟨_,st,fun v z=>by
   have z':Data.fields _=Data.cell v:=z;cases z'⟩
 keep:=fun i h h' st k=>k it (by simp) _ st
 item:=by
  intro X hP hw hK hc i pins s σ H E I hf st hg;subst hP hw hK;obtain⟨f0,f1,f2,f3,f4,f5⟩:=hf it (by simp);have W:=Walks.range (prog:=X.prog) (w:=X.w) (I.ok.hd hc) it lo 1 n;refine W.item i s _ _ hg st fun v h' tk hv st' kk=>?_;obtain⟨t,rfl⟩:=hv;have I1:Inv X pins σ H {s with heap:=h',toks:=tk}:=I.turned (fun b o hb e=>kk b o (by simpa using hb) e) f0 f1 f3 f4 f5;refine⟨_,rfl,CM (s:={s with heap:=h',toks:=tk}) (n:="range_iterator") st' rfl rfl (by decide) ⟨.int (lo+i),H,I1,⟨t,?_⟩,⟨rfl,rfl⟩,st',fun b hb=>(hf b hb).1⟩⟩;rw[Int.mul_one]
 done:=by
  intro X hP hw hK hc i pins s σ H E I hf st hg;subst hP hw hK;obtain⟨f0,f1,f2,f3,f4,f5⟩:=hf it (by simp);exact wpAny_pyNext_range_end (I.ok.hd hc) st (by have :n<=i:=hg;omega) fun h' eb=>⟨rfl,I.turned (t':=s.toks) (fun b o hb e=>eb b o hb e) f0 f1 f3 f4 f5⟩
 self:=fun _ _ _ _ _ st h=>wpAny_pyIter_rangeiter st h
section
variable {X:Cx}{tg:Expr}
noncomputable def Hr(K:af)(tl:TE):TI:=fun σ H R=>tl σ H fun x H1=>∃a,x=.ref a/\(∃xs,SqL K H1 a xs)/\R (Itl K a) H1
noncomputable def iTup(K:af)(tl:TE):TI:=fun σ H R=>tl σ H fun x H1=>∃a,x=.ref a/\(∃xs,SqT K H1 a xs)/\R (Itt K a) H1
theorem pi_list{l:Expr}{tl:TE}(hl:PE X l tl):PI X tg l (Hr X.K tl):=by
 intro pins s σ H R I h;refine thn (hl pins s σ H _ I h) fun v s1 ⟨x,H1,I1,r1,q1⟩=>?_;obtain⟨a,e,⟨xs,hq⟩,q⟩:=q1;subst e;cases r1;obtain⟨its,rv,p,hz⟩:=I1.list hq;refine mP p.isList ?_;refine⟨s1.heap.objs.size,[s1.heap.objs.size],_,_,H1,rfl,I1.kept (t':=s1.toks) fun b o e=>ah _ e,u9 a _,⟨_,au _ rfl,rfl,rfl⟩,fun b hb=>?_,q⟩;have e:b=s1.heap.objs.size:=by simpa using hb
 subst e;exact I1.xT (ax _) (I1.hok.fresh (ax _))
theorem pi_tup{l:Expr}{tl:TE}(hl:PE X l tl):PI X tg l (iTup X.K tl):=by
 intro pins s σ H R I h;refine thn (hl pins s σ H _ I h) fun v s1 ⟨x,H1,I1,r1,q1⟩=>?_;obtain⟨a,e,⟨xs,hq⟩,q⟩:=q1;subst e;cases r1;obtain⟨its,rv,p,hz⟩:=I1.tuple hq;refine gy (show s1.heap.IsTuple a its.toArray from p) ?_;refine⟨s1.heap.objs.size,[s1.heap.objs.size],_,_,H1,rfl,I1.kept (t':=s1.toks) fun b o e=>ah _ e,rY a _,⟨_,au _ rfl,rfl,rfl⟩,fun b hb=>?_,q⟩;have e:b=s1.heap.objs.size:=by simpa using hb
 subst e;exact I1.xT (ax _) (I1.hok.fresh (ax _))
theorem zd{pins:List (Addr×Obj)}{σ:St}{H:Hp}{s:Shared}{R:It->Hp->Prop}{E:Value->Shared->Prop}{lo hi:Int}{t u v:Tok}{tk:Nat}(I:Inv X pins σ H s)(h1: -(2^62)<=lo)(h2:lo<2^62)(h3: -(2^62)<=hi)(h4:hi<2^62)
  (q:R (Itr lo (hi-lo).toNat) H):wpAny (model X.prog X.w) X.A (pyIter (.ref s.heap.objs.size)) (PIE X pins σ tg R) E {s with heap:=s.heap.push {cls:=.type "range",data:=.fields #[.int lo t,.int hi u,.int 1 v]},toks:=tk}:=by
 refine wpAny_pyIter_range (IsRange.new ..) (small_one h1 h2 h3 h4) ?_;have I1:Inv X pins σ H {s with heap:=s.heap.push {cls:=.type "range",data:=.fields #[.int lo t,.int hi u,.int 1 v]},toks:=tk}:=I.kept fun b o e=>ah _ e;refine⟨(s.heap.push {cls:=.type "range",data:=.fields #[.int lo t,.int hi u,.int 1 v]}).objs.size,[(s.heap.push {cls:=.type "range",data:=.fields #[.int lo t,.int hi u,.int 1 v]}).objs.size],_,_,H,rfl,
  I1.kept (t':=tk) fun b o e=>ah _ e,AK _ lo (hi-lo).toNat,?_,fun b hb=>?_,q⟩
 ·have e1:lo+((0:Nat):Int)*1=lo:=by simp
  have e2:(((hi-lo).toNat:Nat):Int)-((0:Nat):Int)=rT lo hi 1:=by rw[rangeSize_one];split <;>omega
  show IsRangeIter _ _ (lo+((0:Nat):Int)*1) ((((hi-lo).toNat:Nat):Int)-((0:Nat):Int)) 1;rw[e1,e2];exact au _ rfl
 ·have e:b=(s.heap.push {cls:=.type "range",data:=.fields #[.int lo t,.int hi u,.int 1 v]}).objs.size:=by simpa using hb
  subst e;exact I1.xT (ax _) (I1.hok.fresh (ax _))
noncomputable def Hq(ta:TA):TI:=fun σ H R=>ta σ H fun vs H1=>∃j:Int,vs=[.int j]∧-(2^62)<=j/\j<2^62/\R (Itr 0 j.toNat) H1
noncomputable def Ho(ta:TA):TI:=fun σ H R=>ta σ H fun vs H1=>∃i j:Int,vs=[.int i,.int j]/\(-(2^62)<=i/\i<2^62∧-(2^62)<=j/\j<2^62)/\R (Itr i (j-i).toNat) H1
theorem DK{a:Expr}{ta:TA}{p pos:Pos}(hg:Gl X "range")(hm:X.mg "range"=none)(ha:PA X [a] ta)(hs:bP [a] X.env=[(false,eval a X.env)]:=by rfl):PI X tg (.Call (.Name "range" p) [a] [] pos) (Hq ta):=by
 intro pins s σ H R I h;refine Call_ (iR I hg hm boot_range (cu (thn (ha pos pins s σ H _ I h) fun us s1 ⟨vs,H1,I1,r1,q1⟩=>?_) hs rfl));obtain⟨j,e,q1,q2,q⟩:=q1;subst e;cases r1 with
 |cons r rr=>
  cases rr;obtain⟨t,rfl⟩:=r;exact call_range_1 (zd I1 (by omega) (by omega) q1 q2 (by simpa using q))
theorem DJ{a b:Expr}{ta:TA}{p pos:Pos}(hg:Gl X "range")(hm:X.mg "range"=none)(ha:PA X [a,b] ta)(hs:bP [a,b] X.env=[(false,eval a X.env),(false,eval b X.env)]:=by rfl) (hs2:bP [b] X.env=[(false,eval b X.env)]:=by rfl):
  PI X tg (.Call (.Name "range" p) [a,b] [] pos) (Ho ta):=by
 intro pins s σ H R I h;refine Call_ (iR I hg hm boot_range (cu (thn (ha pos pins s σ H _ I h) fun us s1 ⟨vs,H1,I1,r1,q1⟩=>?_) (by rw[hs,hs2]) (by rw[hs2];rfl)));obtain⟨i,j,e,⟨q1,q2,q3,q4⟩,q⟩:=q1;subst e;cases r1 with
 |cons r rr=>
  cases rr with
  |cons r' rr=>
   cases rr;obtain⟨t,rfl⟩:=r;obtain⟨t',rfl⟩:=r';exact call_range_2 (zd I1 q1 q2 q3 q4 q)
noncomputable def tFor(wi:TI)(g:TG)(tb:TS):TS:=fun D σ H=>wi σ H fun J H1=>∃W:Nat->Nat->St->Hp->Prop,(∃m,W 0 m σ H1)/\∀i m σ H,W i m σ H->
 (J.stop i H/\D.nx σ H)\/(J.go i H/\∃N:St->Hp->Prop,(∀σ' H',N σ' H'->∃m',m'<m/\W (i+1) m' σ' H')/\∀x H',J.yld i H x H'->g x σ H' fun σ2 H2=>tb {D with nx:=N,ct:=N,bk:=D.nx} σ2 H2)
noncomputable def i7(fp:List Addr)(h:Heap):List (Addr×Obj):=fp.filterMap fun b=>(h.get? b).map fun o=>(b,o)
theorem iQ{fp:List Addr}{h:Heap}{b:Addr}{o:Obj}(hb:b∈fp)(e:h.get? b=some o):(b,o)∈i7 fp h:=qS.mpr ⟨b,hb,by rw[e];rfl⟩
theorem qd{fp:List Addr}{h:Heap}{p:Addr×Obj}(hp:p∈i7 fp h):p.1∈fp/\h.get? p.1=some p.2:=by
 obtain⟨b,hb,e⟩:=qS.mp hp;cases q:h.get? b with
 |none=>rw[q]at e;cases e
 |some o=>
  rw[q]at e;have e':(b,o)=p:=aT e;subst e';exact⟨hb,q⟩
theorem Inv.pinned{pins:List (Addr×Obj)}{σ:St}{H:Hp}{s:Shared}{fp:List Addr}(I:Inv X pins σ H s)(hf:∀b∈fp,pG X pins H b)(ho:∀b∈fp,∃o,s.heap.get? b=some o/\∀v,o.data≠.cell v):Inv X (pins++i7 fp s.heap) σ H s:=
 I.xw fun p hp=>(bF.mp hp).elim (fun z=>I.pin p (a8 _ z)) fun z=>by
  obtain⟨hb,e⟩:=qd z;obtain⟨f0,f1,f2,_⟩:=hf p.1 hb;obtain⟨o,e',d⟩:=ho p.1 hb;rw[e]at e';cases e';exact⟨e,f0,f1,f2,d⟩
theorem Inv.ix{pins pl:List (Addr×Obj)}{σ:St}{H:Hp}{s:Shared}(I:Inv X (pins++pl) σ H s):Inv X pins σ H s:=I.xw fun p hp=>I.pin p (a8 _ (jw _ hp))
theorem ps_for{iter:Expr}{body:List Stmt}{wi:TI}{g:TG}{tb:TS}{pos:Pos}(hp:PassesOwn (model X.prog X.w) X.A X.env X.xe)(hc:X.calm=true)(hi:PI X tg iter wi)(hg:PG X tg g)(hb:PSs X body tb)
  (hs:∀x,jo iter X.env x=pure x:=by intro _;rfl):PS X (.For tg iter body [] pos) (tFor wi g tb):=by
 intro pins s σ H D I h;refine wpAny_For (thn (hi pins s σ H _ I h) fun v s1 h1=>thn h1 fun itv s2 h2=>?_) hs;obtain⟨it,fp,tn,J,H2,e,I2,T,st2,f2,W,⟨m0,w0⟩,turn⟩:=h2;subst e
 --what stays true of the iterator's objects through the loop
 have stat:∀{H':Hp},(∀b∈fp,H' b=none)->∀b∈fp,pG X pins H' b:=fun hn b hb=>⟨hn b hb,(f2 b hb).2⟩;refine codeAny_forLoop_any (fun n s'=>∃i σ' H',Inv X pins σ' H' s'/\tn i s'.heap/\(∀b∈fp,H' b=none)/\W i n σ' H') ?_ m0 ⟨0,σ,H2,I2,st2,fun b hb=>(f2 b hb).1,w0⟩;rintro n s3 ⟨i,σ3,H3,I3,st3,fr3,w3⟩;rcases turn i n σ3 H3 w3 with⟨stop,qn⟩ |⟨go,N,hN,step⟩
 ·refine kY hp (thn (T.done X rfl rfl rfl hc i pins s3 σ3 H3 X.xe I3 (stat fr3) st3 stop) fun r s4 ⟨hr,I4⟩=>?_)
  subst hr;exact wpAny_execs_nil ⟨σ3,H3,I4,qn⟩
 ·refine kY hp (thn (T.item X rfl rfl rfl hc i pins s3 σ3 H3 X.xe I3 (stat fr3) st3 go) fun r s4 ⟨u,hr,h4⟩=>?_)
  subst hr;refine kY hp (thn h4 fun _ s5 ⟨x,H5,I5,r5,y5,st5,fr5⟩=>?_);have I5':=I5.pinned (stat fr5) (T.obj _ _ st5);refine kY hp (thn (hg _ s5 σ3 H5 x u _ I5' r5 (step x H5 y5)) fun _ s6 ⟨σ6,H6,I6,q6⟩=>?_);refine kY hp (thn (hb _ s6 σ6 H6 _ I6 q6) fun f s7 q7=>?_);have again:∀{σ7:St}{H7:Hp},Inv X (pins++i7 fp s5.heap) σ7 H7 s7->N σ7 H7->∃m,m<n/\∃i σ' H',Inv X pins σ' H' s7/\tn i s7.heap/\(∀b∈fp,H' b=none)/\W i m σ' H':=fun{σ7 H7} I7 n7=>by
   obtain⟨m',hm,w7⟩:=hN σ7 H7 n7;refine⟨m',hm,i+1,σ7,H7,I7.ix,T.keep _ _ _ st5 fun b hb o e=>(I7.pin (b,o) (a8 _ (a8 _ (iQ hb e)))).1,fun b hb=>?_,w7⟩;obtain⟨o,e,d⟩:=T.obj _ _ st5 b hb;exact(I7.pin (b,o) (a8 _ (a8 _ (iQ hb e)))).2.1
  cases f with
  |next =>obtain⟨σ7,H7,I7,n7⟩:=q7;exact again I7 n7
  |cont=>obtain⟨σ7,H7,I7,n7⟩:=q7;exact again I7 n7
  |brk=>obtain⟨σ7,H7,I7,q7⟩:=q7;exact⟨σ7,H7,I7.ix,q7⟩
  |ret v=>obtain⟨x7,σ7,H7,I7,r7,q7⟩:=q7;exact⟨x7,σ7,H7,I7.ix,r7,q7⟩
end
noncomputable abbrev R2:=V->V->Hp->VK->Prop
noncomputable def OpR(X:Cx)(f:Value->Value->Sem Value)(r:R2):Prop:=
 ∀(pins:List (Addr×Obj))(s:Shared)(σ:St)(H:Hp)(x y:V)(v u:Value)(Q:VK),Inv X pins σ H s->RelV x v->RelV y u->r x y H Q->
  wpAny (model X.prog X.w) X.A (f v u) (EP X pins σ Q) X.xe s
noncomputable def UnR(X:Cx)(f:Value->Sem Value)(r:V->Hp->VK->Prop):Prop:=
 ∀(pins:List (Addr×Obj))(s:Shared)(σ:St)(H:Hp)(x:V)(v:Value)(Q:VK),Inv X pins σ H s->RelV x v->r x H Q->
  wpAny (model X.prog X.w) X.A (f v) (EP X pins σ Q) X.xe s
noncomputable def fO(X:Cx)(f:Value)(r:List V->Hp->VK->Prop):Prop:=
 ∀(pins:List (Addr×Obj))(s:Shared)(σ:St)(H:Hp)(xs:List V)(us:List Value)(Q:VK),Inv X pins σ H s->bO xs us->r xs H Q->
  wpAny (model X.prog X.w) X.A (call f us) (EP X pins σ Q) X.xe s
noncomputable def TruR(X:Cx)(r:V->Hp->(Bool->Hp->Prop)->Prop):Prop:=
 ∀(pins:List (Addr×Obj))(s:Shared)(σ:St)(H:Hp)(x:V)(v:Value)(Q:Bool->Hp->Prop),Inv X pins σ H s->RelV x v->r x H Q->
  wpAny (model X.prog X.w) X.A (truthy v) (TP X pins σ Q) X.xe s
noncomputable def tOp(r:R2)(ta tb:TE):TE:=fun σ H Q=>ta σ H fun x H1=>tb σ H1 fun y H2=>r x y H2 Q
noncomputable def tUn(r:V->Hp->VK->Prop)(ta:TE):TE:=fun σ H Q=>ta σ H fun x H1=>r x H1 Q
noncomputable def rI(C:Int->Int->Prop)(g:Int->Int->V):R2:=fun x y H Q=>∃i j,x=.int i/\y=.int j/\C i j/\Q (g i j) H
noncomputable def rI0(g:Int->Int->V):R2:=fun x y H Q=>∃i j,x=.int i/\y=.int j/\Q (g i j) H
noncomputable def rU(g:Int->V):V->Hp->VK->Prop:=fun x H Q=>∃i,x=.int i/\Q (g i) H
section
variable {X:Cx}{a b c:Expr}{ta tb tc:TE}{pos:Pos}
theorem binT(ha:PE X a ta)(hb:PE X b tb){pins:List (Addr×Obj)}{s:Shared}{σ:St}{H:Hp}{R:V->V->Hp->Prop}(I:Inv X pins σ H s)
  (h:ta σ H fun x H1=>tb σ H1 fun y H2=>R x y H2){Q:Value->Shared->Prop}{f:Value->Value->Sem Value}
  (hf:∀v u s2 x y H2,Inv X pins σ H2 s2->RelV x v->RelV y u->R x y H2->wpAny (model X.prog X.w) X.A (f v u) Q X.xe s2):
  wpAny (model X.prog X.w) X.A (eval a X.env) (fun v s₁=>wpAny (model X.prog X.w) X.A (eval b X.env) (fun u s₂=>wpAny (model X.prog X.w) X.A (f v u) Q X.xe s₂) X.xe s₁) X.xe s:=by
 refine thn (ha pins s σ H _ I h) fun v s1 ⟨x,H1,I1,r1,q1⟩=>?_;refine thn (hb pins s1 σ H1 _ I1 q1) fun u s2 ⟨y,H2,I2,r2,q2⟩=>?_;exact hf v u s2 x y H2 I2 r1 r2 q2
theorem pe_op{op:Operator}{r:R2}(ho:OpR X (fh op) r)(ha:PE X a ta)(hb:PE X b tb):PE X (.BinOp a op b pos) (tOp r ta tb):=by
 intro pins s σ H Q I h;exact wpAny_BinOp (binT ha hb I h fun v u s2 x y H2 I2 rx ry q=>ho pins s2 σ H2 x y v u Q I2 rx ry q)
theorem pe_un{op:UnaryOp}{r:V->Hp->VK->Prop}(ho:UnR X (unaryOp op) r)(ha:PE X a ta):PE X (.UnaryOp op a pos) (tUn r ta):=by
 intro pins s σ H Q I h;exact UnaryOp_ (thn (ha pins s σ H _ I h) fun v s1 ⟨x,H1,I1,r1,q1⟩=>ho pins s1 σ H1 x v Q I1 r1 q1)
theorem opI{f:Value->Value->Sem Value}{C:Int->Int->Prop}{g:Int->Int->Int}
  (rule:∀(i j:Int)(t u:Tok)(s:Shared)(Q:Value->Shared->Prop)(E:Value->Shared->Prop),C i j->Q (.int (g i j) s.toks) {s with toks:=s.toks+1}->wpAny (model X.prog X.w) X.A (f (.int i t) (.int j u)) Q E s):
  OpR X f (rI C fun i j=>.int (g i j)):=by
 intro pins s σ H x y v u Q I rx ry h;obtain⟨i,j,rfl,rfl,hc,q⟩:=h;obtain⟨t,rfl⟩:=rx;obtain⟨t',rfl⟩:=ry;exact rule i j t t' s _ _ hc ⟨.int (g i j),H,I.tok _,⟨_,rfl⟩,q⟩
theorem opI0{f:Value->Value->Sem Value}{g:Int->Int->Int}
  (rule:∀(i j:Int)(t u:Tok)(s:Shared)(Q:Value->Shared->Prop)(E:Value->Shared->Prop),Q (.int (g i j) s.toks) {s with toks:=s.toks+1}->wpAny (model X.prog X.w) X.A (f (.int i t) (.int j u)) Q E s):
  OpR X f (rI0 fun i j=>.int (g i j)):=by
 intro pins s σ H x y v u Q I rx ry h;obtain⟨i,j,rfl,rfl,q⟩:=h;obtain⟨t,rfl⟩:=rx;obtain⟨t',rfl⟩:=ry;exact rule i j t t' s _ _ ⟨.int (g i j),H,I.tok _,⟨_,rfl⟩,q⟩
theorem opB0{f:Value->Value->Sem Value}{g:Int->Int->Bool}
  (rule:∀(i j:Int)(t u:Tok)(s:Shared)(Q:Value->Shared->Prop)(E:Value->Shared->Prop),Q (.bool (g i j)) s->wpAny (model X.prog X.w) X.A (f (.int i t) (.int j u)) Q E s):
  OpR X f (rI0 fun i j=>.bl (g i j)):=by
 intro pins s σ H x y v u Q I rx ry h;obtain⟨i,j,rfl,rfl,q⟩:=h;obtain⟨t,rfl⟩:=rx;obtain⟨t',rfl⟩:=ry;exact rule i j t t' s _ _ ⟨.bl (g i j),H,I,rfl,q⟩
noncomputable def EC(i j:Int):Prop:=0<j/\j<1073741824
noncomputable def EB(i j:Int):Prop:=0<=j/\j<=1000000/\i.natAbs<2^64
noncomputable def BX(i j:Int):Prop:=(-(2^64)<i/\i<2^64)\/(-(2^64)<j/\j<2^64)
theorem BX.ok{i j:Int}(h:BX i j):IntMulOk i j:=by
 rcases h with⟨h1,h2⟩ |⟨h1,h2⟩
 ·exact .of_left (intBits_le_64 h1 h2)
 ·exact .of_right (intBits_le_64 h1 h2)
theorem AJ(k:Nat):(0:Int)<=2^k:=by
 rw[two_pow_cast];exact Int.natCast_nonneg _
theorem op_add:OpR X (fh .Add) (rI0 fun i j=>.int (i+j)):=opI0 fun _ _ _ _ _ _ _ q=>add_int q
theorem op_sub:OpR X (fh .Sub) (rI0 fun i j=>.int (i-j)):=opI0 fun _ _ _ _ _ _ _ q=>sub_int q
theorem op_mul:OpR X (fh .Mult) (rI BX fun i j=>.int (i*j)):=opI fun _ _ _ _ _ _ _ hc q=>mul_int q hc.ok
theorem op_fdiv:OpR X (fh .FloorDiv) (rI EC fun i j=>.int (i/j)):=opI fun i j _ _ _ _ _ hc q=>by
 have h1:(0:Int)<j:=hc.1;have h2:j<1073741824:=hc.2;exact floordiv_int (by omega) (by rw[Al i (by omega)];exact q) (.inl (PyProof.noPylong_small (by omega)))
theorem op_mod:OpR X (fh .Mod) (rI (fun _ j=>0<j) fun i j=>.int (i%j)):=opI fun i j _ _ _ _ _ hc q=>by
 have h1:(0:Int)<j:=hc;exact mod_int' (by omega) (by rw[Int.fmod_eq_emod_of_nonneg i (by omega)];exact q)
theorem op_pow:OpR X (fh .Pow) (rI EB fun i j=>.int (i^j.toNat)):=opI fun _ _ _ _ _ _ _ hc q=>pow_int_small hc.1 hc.2.1 hc.2.2 q
theorem op_shl:OpR X (fh .LShift) (rI EB fun i j=>.int (i*2^j.toNat)):=opI fun _ _ _ _ _ _ _ hc q=>lshift_int_small hc.1 hc.2.1 hc.2.2 q
theorem op_shr:OpR X (fh .RShift) (rI (fun _ j=>0<=j) fun i j=>.int (i/2^j.toNat)):=opI fun i j _ _ _ _ _ hc q=>
 rshift_int hc (by rw[Al i (AJ _)];exact q)
theorem op_and:OpR X (fh .BitAnd) (rI0 fun i j=>.int (iP i j)):=opI0 fun _ _ _ _ _ _ _ q=>and_int q
theorem op_xor:OpR X (fh .BitXor) (rI0 fun i j=>.int (jQ i j)):=opI0 fun _ _ _ _ _ _ _ q=>xor_int q
theorem unI{f:Value->Sem Value}{g:Int->Int}
  (rule:∀(i:Int)(t:Tok)(s:Shared)(Q:Value->Shared->Prop)(E:Value->Shared->Prop),Q (.int (g i) s.toks) {s with toks:=s.toks+1}->wpAny (model X.prog X.w) X.A (f (.int i t)) Q E s):
  UnR X f (rU fun i=>.int (g i)):=by
 intro pins s σ H x v Q I rx h;obtain⟨i,rfl,q⟩:=h;obtain⟨t,rfl⟩:=rx;exact rule i t s _ _ ⟨.int (g i),H,I.tok _,⟨_,rfl⟩,q⟩
theorem un_neg:UnR X (unaryOp .USub) (rU fun i=>.int (-i)):=unI fun _ _ _ _ _ q=>neg_int q
end
section
variable {X:Cx}{a b c:Expr}{ta tb tc:TE}{pos:Pos}
theorem tH{pins:List (Addr×Obj)}{σ:St}{H:Hp}{s:Shared}{Q:VK}{k k':Bool}(I:Inv X pins σ H s)(q:Q (.bl k) H)(e:k=k'):EP X pins σ Q (.bool k') s:=by
 subst e;exact⟨.bl k,H,I,rfl,q⟩
theorem op_lt:OpR X (da .Lt) (rI0 fun i j=>.bl (decide (i<j))):=opB0 fun _ _ _ _ _ _ _ q=>lt_int q
theorem op_le:OpR X (da .LtE) (rI0 fun i j=>.bl (decide (i<=j))):=opB0 fun _ _ _ _ _ _ _ q=>le_int q
theorem op_gt:OpR X (da .Gt) (rI0 fun i j=>.bl (decide (j<i))):=opB0 fun _ _ _ _ _ _ _ q=>gt_int q
theorem op_ge:OpR X (da .GtE) (rI0 fun i j=>.bl (decide (j<=i))):=opB0 fun _ _ _ _ _ _ _ q=>ge_int q
theorem DR:OpR X (da .In) (fun x y H Q=>∃i j,x=.str i/\y=.str j/\Q (.bl (!(gX j i 0 j.length 1).isEmpty)) H):=by
 intro pins s σ H x y v u Q I rx ry h;obtain⟨i,j,rfl,rfl,q⟩:=h;obtain⟨t,rfl⟩:=rx;obtain⟨t',rfl⟩:=ry;exact in_str (tH I q rfl)
theorem op_isN:OpR X (da .Is) (fun x y H Q=>y=.non/\Q (.bl (decide (x=.non))) H):=by
 intro pins s σ H x y v u Q I rx ry h;obtain⟨rfl,q⟩:=h;cases ry;refine is_none_gen (tH I q ?_);cases x<;>first
  | (cases rx;rfl)
  | (obtain⟨t,rfl⟩:=rx;rfl)
theorem op_notN:OpR X (da .IsNot) (fun x y H Q=>y=.non/\Q (.bl (!decide (x=.non))) H):=by
 intro pins s σ H x y v u Q I rx ry h;obtain⟨rfl,q⟩:=h;cases ry;refine isnot_none_gen (tH I q ?_);cases x<;>first
  | (cases rx;rfl)
  | (obtain⟨t,rfl⟩:=rx;rfl)
theorem OpR.or{f:Value->Value->Sem Value}{r r':R2}(h:OpR X f r)(h':OpR X f r'):OpR X f (fun x y H Q=>r x y H Q\/r' x y H Q):=by
 intro pins s σ H x y v u Q I rx ry q;rcases q with q|q
 ·exact h pins s σ H x y v u Q I rx ry q
 ·exact h' pins s σ H x y v u Q I rx ry q
theorem pe_cmpR{op:CmpOp}{r:R2}(ho:OpR X (da op) r)(ha:PE X a ta)(hb:PE X b tb)(hm:IC op b=false):PE X (.Compare a [op] [b] pos) (tOp r ta tb):=by
 intro pins s σ H Q I h;exact wpAny_Compare1 (binT ha hb I h fun v u s2 x y H2 I2 rx ry q=>ho pins s2 σ H2 x y v u Q I2 rx ry q) hm
noncomputable def yR(t:TE):TT:=fun σ H Q=>t σ H fun x H'=>∃k,x=.bl k/\Q k H'
theorem pt_cmpR{op:CmpOp}{r:R2}(ho:OpR X (da op) r)(ha:PE X a ta)(hb:PE X b tb)(hm:IC op b=false):PT X (.Compare a [op] [b] pos) (yR (tOp r ta tb)):=by
 intro pins s σ H Q I h;refine wpAny_isTrue_Compare1 (thn (ha pins s σ H _ I h) fun v s1 ⟨x,H1,I1,r1,q1⟩=>thn (hb pins s1 σ H1 _ I1 q1) fun u s2 ⟨y,H2,I2,r2,q2⟩=>
  thn (ho pins s2 σ H2 x y v u _ I2 r1 r2 q2) fun c s3 ⟨z,H3,I3,r3,k,e,q3⟩=>?_) hm
 subst e;cases r3;exact cU ⟨H3,I3,q3⟩
noncomputable def sf(r r':R2)(ta tb tc:TE):TE:=fun σ H Q=>ta σ H fun x H1=>tb σ H1 fun y H2=>r x y H2 fun z H3=>∃k,z=.bl k/\
 (if k=true then tc σ H3 fun w' H4=>r' y w' H4 Q else Q (.bl false) H3)
theorem Gs{op op':CmpOp}{r r':R2}(ho:OpR X (da op) r)(ho':OpR X (da op') r')(ha:PE X a ta)(hb:PE X b tb)(hc:PE X c tc)
  (hm:lastMarks [op,op'] [b,c]=false:=by with_unfolding_all rfl):PE X (.Compare a [op,op'] [b,c] pos) (sf r r' ta tb tc):=by
 intro pins s σ H Q I h;refine Compare_chain (thn (ha pins s σ H _ I h) fun v s1 ⟨x,H1,I1,r1,q1⟩=>chain_link (thn (hb pins s1 σ H1 _ I1 q1) fun u s2 ⟨y,H2,I2,r2,q2⟩=>
  thn (ho pins s2 σ H2 x y v u _ I2 r1 r2 q2) fun d s3 ⟨z,H3,I3,r3,k,e,q3⟩=>?_)) hm
 subst e;cases r3;refine cU ?_;cases k with
 |false=>exact ite_ff ⟨.bl false,H3,I3,rfl,q3⟩
 |true=>exact ite_tt (chain_last (thn (hc pins s3 σ H3 _ I3 q3) fun w' s4 ⟨z',H4,I4,r4,q4⟩=>ho' pins s4 σ H4 y z' u w' Q I4 r2 r4 q4))
theorem F7{op op':CmpOp}{r r':R2}(ho:OpR X (da op) r)(ho':OpR X (da op') r')(ha:PE X a ta)(hb:PE X b tb)(hc:PE X c tc)
  (hm:lastMarks [op,op'] [b,c]=false:=by with_unfolding_all rfl):PT X (.Compare a [op,op'] [b,c] pos) (yR (sf r r' ta tb tc)):=by
 intro pins s σ H Q I h;refine isTrue_chain (thn (ha pins s σ H _ I h) fun v s1 ⟨x,H1,I1,r1,q1⟩=>test_link (thn (hb pins s1 σ H1 _ I1 q1) fun u s2 ⟨y,H2,I2,r2,q2⟩=>
  thn (ho pins s2 σ H2 x y v u _ I2 r1 r2 q2) fun d s3 ⟨z,H3,I3,r3,k,e,q3⟩=>?_)) hm
 subst e;cases r3;refine cU ?_;cases k with
 |false=>
  obtain⟨k',e',q'⟩:=q3;cases e';exact ite_ff ⟨H3,I3,q'⟩
 |true=>
  refine ite_tt (test_last (thn (hc pins s3 σ H3 _ I3 q3) fun w' s4 ⟨z',H4,I4,r4,q4⟩=>thn (ho' pins s4 σ H4 y z' u w' _ I4 r2 r4 q4) fun d' s5 ⟨z2,H5,I5,r5,k2,e2,q5⟩=>?_));subst e2;cases r5;exact cU ⟨H5,I5,q5⟩
noncomputable def TruV(K:af)(x:V)(H:Hp)(k:Bool):Prop:=
 match x with
 |.non=>k=false
 |.bl b=>k=b
 |.int i=>k=(i != 0)
 |.str y=>y.length<=sizeLine/\k=((y.length:Int) != 0)
 |.byt y=>y.size<=sizeLine/\k=((y.size:Int) != 0)
 |.ref p=>(∃xs,SqL K H p xs/\k= !xs.isEmpty)\/(∃xs,SqT K H p xs/\k= !xs.isEmpty)\/∃kvs,H p=some (.dK kvs)/\k= !kvs.isEmpty
 |_=>False
theorem Bv{κ:Type}{kvs:List (κ×V)}{vs:List (κ×Value)}(r:KV kvs vs):(!vs.isEmpty)= !kvs.isEmpty:=by
 cases r<;>rfl
theorem tm{xs:List V}{its:List Value}(r:bO xs its):(!its.toArray.isEmpty)= !xs.isEmpty:=by
 cases r<;>simp
theorem nV:(sizeLine:Nat)<2^63:=by rw[rp];decide
theorem tru_ok:TruR X (fun x H Q=>∃k,TruV X.K x H k/\Q k H):=by
 intro pins s σ H x v Q I rx h;obtain⟨k,e,q⟩:=h;have hl:=nV;have hs:sizeLine=16777216:=rp;cases x with
 |non=>
  cases rx;have e':k=false:=e;subst e';exact truthy_none ⟨H,I,q⟩
 |bl b=>
  cases rx;have e':k=b:=e;subst e';exact cU ⟨H,I,q⟩
 |int i=>
  obtain⟨t,rfl⟩:=rx;have e':k=(i != 0):=e;subst e';exact PySem.P.truthy_int ⟨H,I,q⟩
 |str y=>
  obtain⟨t,rfl⟩:=rx;obtain⟨hy,e'⟩:y.length<=sizeLine/\k=((y.length:Int) != 0):=e;subst e';exact PySem.P.truthy_str (by omega) ⟨H,I.tok _,q⟩
 |byt y=>
  obtain⟨t,rfl⟩:=rx;obtain⟨hy,e'⟩:y.size<=sizeLine/\k=((y.size:Int) != 0):=e;subst e';exact PySem.W.truthy_bytes (by omega) ⟨H,I.tok _,q⟩
 |ref p=>
  cases rx;have e':(∃xs,SqL X.K H p xs/\k= !xs.isEmpty)\/(∃xs,SqT X.K H p xs/\k= !xs.isEmpty)\/∃kvs,H p=some (.dK kvs)/\k= !kvs.isEmpty:=e;rcases e' with⟨xs,hx,e'⟩ |⟨xs,hx,e'⟩ |⟨kvs,hx,e'⟩
  ·subst e'
   obtain⟨its,r,pl,hz⟩:=I.list hx;have hlen:=r.length;exact wpAny_truthy_list pl.isList (by simp only[ay];omega) ⟨H,I.tok _,by rw[tm r];exact q⟩
  ·subst e'
   obtain⟨its,r,pl,hz⟩:=I.tuple hx;have hlen:=r.length;exact truthy_tuple pl (by simp only[ay];omega) ⟨H,I.tok _,by rw[tm r];exact q⟩
  ·subst e'
   obtain⟨hz,hS,vs,r,m⟩:kvs.length<=sizeLine/\(p==gA)=false/\∃vs,KV kvs vs/\s.heap.DictOf (aZ X.prog X.w) p vs:=I.hok p _ hx;have hlen:kvs.length=vs.length:=k7 r;exact wpAny_truthy_dict hS m (by omega) ⟨H,I.tok _,by rw[Bv r];exact q⟩
 |_=>exact(show False from e).elim
theorem kO(ha:PE X a ta)(he:∀whole,isTrue a X.env whole=(do let v<-whole;standAt a.pos;holding [v] (truthy v))):
  PT X a (fun σ H Q=>ta σ H fun x H'=>∃k,TruV X.K x H' k/\Q k H'):=by
 intro pins s σ H Q I h;exact isTrue_plain (thn (ha pins s σ H _ I h) fun v s1 ⟨x,H1,I1,r1,q1⟩=>tru_ok pins s1 σ H1 x v Q I1 r1 q1) (he _)
theorem Be:OpR X (fh .Add) (fun x y H Q=>∃i j,x=.str i/\y=.str j/\i.length+j.length<=sizeLine/\Q (.str (i++j)) H):=by
 intro pins s σ H x y v u Q I rx ry h;obtain⟨i,j,rfl,rfl,hz,q⟩:=h;obtain⟨t,rfl⟩:=rx;obtain⟨t',rfl⟩:=ry;exact add_str (fun t' tk=>⟨.str (i++j),H,I.tok _,⟨_,rfl⟩,q⟩) hz
theorem vals1{x:V}{us:List Value}(r:bO [x] us):∃u,us=[u]/\RelV x u:=by
 cases r with
 |cons r1 r2=>cases r2;exact⟨_,rfl,r1⟩
theorem vals2{x y:V}{us:List Value}(r:bO [x,y] us):∃u w',us=[u,w']/\RelV x u/\RelV y w':=by
 cases r with
 |cons r1 r2=>
  cases r2 with
  |cons r3 r4=>cases r4;exact⟨_,_,rfl,r1,r3⟩
theorem Ey:fO X (.type "int") (fun xs H Q=>(∃i,xs=[.int i]/\Q (.int i) H)\/∃k,xs=[.bl k]/\Q (.int (if k then 1 else 0)) H):=by
 intro pins s σ H xs us Q I r h;rcases h with⟨i,rfl,q⟩ |⟨k,rfl,q⟩
 ·obtain⟨u,rfl,t,rfl⟩:=vals1 r
  exact call_int_int ⟨.int i,H,I,⟨_,rfl⟩,q⟩
 ·obtain⟨u,rfl,r1⟩:=vals1 r
  cases r1;exact call_int_bool ⟨.int (if k then 1 else 0),H,I.tok _,⟨_,rfl⟩,q⟩
end
structure ObjM(h:Heap)(x dx C:Addr)(mA:Str->Option Value):Prop where
 obj:h.get? x=some (uj C dx)
 ns:h.Ns1 dx mA
 ne:dx≠x
theorem D7{h:Heap}{dx:Addr}{mA:Str->Option Value}(n:h.Ns1 dx mA):∃od,h.get? dx=some od/\∀name,u4 name od=some (mA name):=by
 obtain⟨o,es,ep,ho,hd,hk,_,hm⟩:=n;refine⟨o,ho,fun name=>?_⟩;have e:=hm name;unfold nsFind findBy at e;rw[<-Array.find?_toList]at e;unfold u4;rw[hd];dsimp only;split
 ·rename_i y q
  rw[q]at e;exact congrArg some e
 ·rename_i q
  rw[q]at e;have a:es.toList.any (·.refKey)=false:=by
   rw[List.any_eq_false];intro y hy;obtain⟨z,t,hkey⟩:=hk y (jr.mp hy);simp[DictEntry.refKey,hkey]
  have a':¬es.toList.any (·.refKey)=true:=by rw[a];exact aD
  rw[if_neg a'];exact congrArg some e
theorem ObjM.look{h:Heap}{x dx C:Addr}{mA:Str->Option Value}(I:ObjM h x dx C mA):∃od,PySem.W.InstAt h x (uj C dx) C (some od)/\∀name,u4 name od=some (mA name):=
 let⟨od,ho,hl⟩:=D7 I.ns
 ⟨od,⟨I.obj,rfl,rfl,ho⟩,hl⟩
noncomputable def putF(f:Str)(v:V):List (Str×V)->List (Str×V)
 | []=>[(f,v)]
 | (g,x)::r=>if g=f then(g,v)::r else(g,x)::putF f v r
theorem ui.some_of{v:V}{o:Option Value}(r:ui (some v) o):∃u,o=some u/\RelV v u:=by
 cases o with
 |none=>exact(show False from r).elim
 |some u=>exact⟨u,rfl,r⟩
section
variable {P:Program}{w:World}{H H':Hp}{h h':Heap}{a C dx:Addr}{fs fs':List (Str×V)}
theorem ll(hok:HOk P w H h)(e:H a=some (.ins C dx fs)):∃mA,ObjM h a dx C mA/\(∀f,ui (fs.lookup f) (mA f))/\B0 mA (fs.map (·.1))/\fs.length<=1000/\H dx=some (.own a):=by
 obtain⟨d,z,ne,ob,mA,n,r,q⟩:=(show dQ P w H h a (.ins C dx fs)from hok a _ e);exact⟨mA,⟨ob,n,ne⟩,r,q,z,d⟩
end
structure Cls(K:af)(C:Addr):Prop where
 pg:IF K C Str.empty=true
 hd:PySem.W.hasDictIn K C=true
 po:PySem.W.plainOver K C=true
 sa:jO K (.ref C) "__setattr__"=some (some (.builtin "object.__setattr__"))
theorem Cls.get{K:af}{C:Addr}(c:Cls K C)(f:Str):IF K C f=true:=c.pg
noncomputable def Iu(K:af)(C:Addr)(f:Str):Prop:=jO K (.ref C) f=some none
structure Meth(K:af)(C:Addr)(m:Str)(f:Addr):Prop where
 at_:jO K (.ref C) m=some (some (.ref f))
 fn:PySem.W.isFn K (.ref f)=true
 kp:cE K (.ref f)=true
noncomputable def tFld(K:af)(ta:TE)(f:Str):TE:=fun σ H Q=>ta σ H fun x H1=>∃a C dx fs v,x=.ref a/\H1 a=some (.ins C dx fs)/\Cls K C/\Iu K C f/\fs.lookup f=some v/\Q v H1
noncomputable def sFld(K:af)(ta tv:TE)(f:Str):TS:=fun D σ H=>tv σ H fun y H1=>ta σ H1 fun x H2=>∃a C dx fs,x=.ref a/\H2 a=some (.ins C dx fs)/\Cls K C/\Iu K C f/\fs.length<1000/\
 D.nx σ (upd H2 a (.ins C dx (putF f y fs)))
section
variable {X:Cx}{pins:List (Addr×Obj)}{σ:St}{H:Hp}{s:Shared}{A:Around}{E:Value->Shared->Prop}{Q:Value->Shared->Prop}{c:Value}{b:Bool}
inductive lL (K:af) (H:Hp):V->Value->Prop where
 |non:lL K H .non (.type "NoneType")
 |bl (x:Bool):lL K H (.bl x) (.type "bool")
 |int (i:Int):lL K H (.int i) (.type "int")
 |str (x:Str):lL K H (.str x) (.type "str")
 |flt (x:UInt64):lL K H (.flt x) (.type "float")
 |lst {a:Addr} {xs:List V} (e:H a=some (.lst xs)):lL K H (.ref a) (.type "list")
 |frz {a:Addr} {o:Obj} {xs:List V} (e:H a=some (.frz o (.lst xs))):lL K H (.ref a) (.type "list")
 |tup {a:Addr} {xs:List V} (e:H a=some (.tup xs)):lL K H (.ref a) (.type "tuple")
 |dK {a:Addr} {kvs:List (Key×V)} (e:H a=some (.dK kvs)):lL K H (.ref a) (.type "dict")
 |dT {a:Addr} {kvs:List (List Key×V)} (e:H a=some (.dT kvs)):lL K H (.ref a) (.type "dict")
 |ins {a C dx:Addr} {fs:List (Str×V)} (e:H a=some (.ins C dx fs)) (cl:Cls K C) (ha:jO K (.ref C) "__class__"=some (some (.builtin "object.__class__")))
   (hn:PySem.W.specialIn K (.builtin "object.__class__") "__get__"=some (some (.builtin "getset_descriptor.__get__"))) (htk:PySem.W.takesIn K (.builtin "object.__class__")=some true)
   (hm:PySem.W.mroIn K C (.type "object")=some true):lL K H (.ref a) (.ref C)
theorem vG{x:V}{u t:Value}(I:Inv X pins σ H s)(rx:RelV x u)(ty:lL X.K H x t)(e:iN X.K t c=some b)(h:∀tk,Q (.bool b) {s with toks:=tk}):
  wpAny (model X.prog X.w) A (call (.builtin "isinstance") [u,c]) Q E s:=by
 cases ty with
 |non=>cases(show u=bL from rx);exact dg PySem.W.kitx_none I.kIn True.intro e (fun z=>nomatch z) h
 |bl y=>cases(show u=yt y from rx);exact dg PySem.W.kitx_bool I.kIn True.intro e (fun z=>nomatch z) h
 |int i=>obtain⟨t,q⟩:=(show ∃t,u=eO i t from rx);cases q;exact dg PySem.W.kitx_int I.kIn True.intro e (fun z=>nomatch z) h
 |str y=>obtain⟨t,q⟩:=(show ∃t,u=iK y t from rx);cases q;exact dg PySem.W.kitx_str I.kIn True.intro e (fun z=>nomatch z) h
 |flt y=>obtain⟨t,q⟩:=(show ∃t,u=Value.float y t from rx);cases q;exact dg PySem.W.kitx_float I.kIn True.intro e (fun z=>nomatch z) h
 | @lst a xs ea=>
  cases(show u=aV a from rx);obtain⟨_,_,n,_,h1⟩:=(show dQ X.prog X.w H s.heap a (.lst xs)from I.hok a _ ea);exact dg EU I.kIn ⟨_,h1,rfl⟩ e (fun z=>nomatch z) h
 | @frz a ob xs ea=>
  cases(show u=aV a from rx);obtain⟨_,_,_,n,_,h1⟩:=(show dQ X.prog X.w H s.heap a (.frz ob (.lst xs))from I.hok a _ ea);exact dg EU I.kIn ⟨_,h1,rfl⟩ e (fun z=>nomatch z) h
 | @tup a xs ea=>
  cases(show u=aV a from rx);obtain⟨_,_,_,p⟩:=(show dQ X.prog X.w H s.heap a (.tup xs)from I.hok a _ ea);obtain⟨o,h1,h2,_⟩:=p;exact dg PySem.W.kitx_tuple I.kIn ⟨o,h1,h2⟩ e (fun z=>nomatch z) h
 | @dK a kvs ea=>
  cases(show u=aV a from rx);obtain⟨_,_,vs,_,p⟩:=(show dQ X.prog X.w H s.heap a (.dK kvs)from I.hok a _ ea);obtain⟨o,es,ep,h1,h2,_⟩:=p;exact dg EV I.kIn ⟨o,h1,h2.1⟩ e (fun z=>nomatch z) h
 | @dT a kvs ea=>
  cases(show u=aV a from rx);obtain⟨_,_,xs,_,o,es,ep,h1,h2,_⟩:=(show dQ X.prog X.w H s.heap a (.dT kvs)from I.hok a _ ea);exact dg EV I.kIn ⟨o,h1,h2.1⟩ e (fun z=>nomatch z) h
 | @ins a C dx fs ea cl ha hn htk hm=>
  cases(show u=aV a from rx);obtain⟨mA,O,_⟩:=ll I.hok ea;obtain⟨od,J,_⟩:=O.look;exact dg (PySem.W.kitx_own (cl.get _) cl.hd ha hn htk hm) I.kIn J e (fun z=>nomatch z) h
end
structure kA(k:Nat)(A:Around):Prop where
 hd:A.handled=none
 dp:A.depth+3*k+5<jl
 un:A.units+16*k+200<cLine
theorem kA.mono{j k:Nat}{A:Around}(r:kA k A)(h:j<=k):kA j A:=⟨r.hd,by have :=r.dp;omega,by have :=r.un;omega⟩
theorem kA.deeper{k:Nat}{A:Around}(r:kA (k+1) A)(env:Env):kA k (A.deeper env):=
 ⟨r.hd,by have :=r.dp;show A.depth+1+3*k+5<_;omega,by have :=r.un;show A.units+3+16*k+200<_;omega⟩
theorem kA.depth{k:Nat}{A:Around}(r:kA k A):A.depth<jl:=by have :=r.dp;omega
theorem kA.units{k:Nat}{A:Around}(r:kA k A):A.units+64<cLine:=by have :=r.un;omega
noncomputable def pU:TA:=fun _ H Q=>Q [] H
noncomputable def jS(ta:TE)(tr:TA):TA:=fun σ H Q=>ta σ H fun x H1=>tr σ H1 fun xs H2=>Q (x::xs) H2
section
variable {X:Cx}{e:Expr}{es:List Expr}{te:TE}{t:TA}{pos:Pos}
theorem j9:PA X [] pU:=fun _ _ _ _ H Q I h=>Calls.spliced_nil ⟨[],H,I,.nil,h⟩
theorem gS(ha:PE X e te)(hr:PA X es t)(hs:bP (e::es) X.env=(false,eval e X.env)::bP es X.env:=by rfl):PA X (e::es) (jS te t):=by
 intro pos pins s σ H Q I h;rw[hs];show wpAny _ _ (spliced ((false,eval e X.env)::backTo pos (bP es X.env))) _ _ s;refine kF (thn (ha pins s σ H _ I h) fun u s1 ⟨x,H1,I1,r1,q1⟩=>?_);exact thn (hr pos pins s1 σ H1 _ I1 q1) fun us s2 ⟨xs,H2,I2,r2,q2⟩=>⟨x::xs,H2,I2,.cons r1 r2,q2⟩
noncomputable def tTup(t:TA):TE:=fun σ H Q=>t σ H fun xs H1=>xs.length<=sizeLine/\∀p,H1 p=none->Q (.ref p) (upd H1 p (.tup xs))
noncomputable def tLst(t:TA):TE:=fun σ H Q=>t σ H fun xs H1=>xs.length<=sizeLine/\∀p,H1 p=none->Q (.ref p) (upd H1 p (.lst xs))
theorem pe_tup{x1}(h:PA X es t):PE X (.Tuple es x1 pos) (tTup t):=by
 intro pins s σ H Q I hq;refine wpAny_Tuple_spliced (thn (h pos pins s σ H _ I hq) fun us s1 ⟨xs,H1,I1,r,z,q⟩=>⟨by rw[<-r.length];exact z,?_⟩);have hf:H1 s1.heap.objs.size=none:=I1.hok.fresh (ax _);refine⟨.ref s1.heap.objs.size,upd H1 s1.heap.objs.size (.tup xs),I1.laid (t':=s1.toks) (fun b u e=>ah _ e) (ax _) ?_,rfl,q _ hf⟩;exact⟨z,us,r,⟨_,au _ rfl,rfl,_,rfl⟩⟩
theorem pe_lst(h:PA X es t):PE X (.List es pos) (tLst t):=by
 intro pins s σ H Q I hq;refine wpAny_List_spliced (thn (h pos pins s σ H _ I hq) fun us s1 ⟨xs,H1,I1,r,z,q⟩=>⟨by rw[<-r.length];exact z,?_⟩);have hf:H1 s1.heap.objs.size=none:=I1.hok.fresh (ax _);refine⟨.ref s1.heap.objs.size,upd H1 s1.heap.objs.size (.lst xs),I1.laid (t':=s1.toks) (fun b u e=>ah _ e) (ax _) ?_,rfl,q _ hf⟩;exact⟨z,us,0,r,au _ rfl⟩
end
noncomputable abbrev Sp:=List V->Hp->VK->XK->Prop
noncomputable abbrev CXT:=List Env->Hp->Shared->XK->Value->Shared->Prop
structure Env0(P:Program)(w:World)(K:af)(mg:Str->Option Value)(base:Heap)(A:Around)(outer:List Env)(s:Shared)(H:Hp):Prop where
 frames:A.frames=some outer
 mod:Mod K mg base
 bs:∀b o,base.get? b=some o->s.heap.get? b=some o/\H b=none
 bsz:base.objs.size<=s.heap.objs.size
 xS:s.heap.FunFrames base outer
 frf:∀b∈frs outer,H b=none
 hok:HOk P w H s.heap
 bare:mX s.gens
noncomputable def CE(outer:List Env)(P:Program)(w:World)(H:Hp)(s:Shared)(Q:VK)(u:Value)(s':Shared):Prop:=
 ∃v H',s'.os=s.os/\mX s'.gens/\Un (frs outer) [] H H' s.heap s'.heap/\HOk P w H' s'.heap/\RelV v u/\Q v H'
noncomputable def CR(CX:CXT)(outer:List Env)(P:Program)(w:World)(H:Hp)(s:Shared)(Q:VK)(E:XK)(r:Result)(s':Shared):Prop:=
 match r with
 |.ok (.ret u)=>CE outer P w H s Q u s'
 |.ok _=>False
 |.error e=>CX outer H s E e s'
structure jH(P:Program)(w:World)(K:af)(mg:Str->Option Value)(base:Heap)(CX:CXT)(k:Nat)(f:Addr)(fd:gH)(ps:List Str)(sp:Sp):Prop where
 len:∀vs H Q E,sp vs H Q E->vs.length=ps.length
 run:∀(A:Around)(outer:List Env)(s:Shared)(H:Hp)(args:Args)(us:List Value)(vs:List V)(Q:VK)(E:XK),kA k A->Env0 P w K mg base A outer s H->BindsTo s fd args (ps.zip us)->bO vs us->sp vs H Q E->
  gT (model P w) A (.call (.ref f) args) (CR CX outer P w H s Q E) s
section
variable {X:Cx}{pins:List (Addr×Obj)}{σ:St}{H:Hp}{s s':Shared}
theorem Inv.env0(I:Inv X pins σ H s):Env0 X.prog X.w X.K X.mg X.base X.A X.stack s H:=
 ⟨I.ok.frames,I.ok.mod,I.bs,ba I.ok.bsz I.sz,I.stack,I.wN,I.hok,I.bare⟩
theorem Inv.after{Q:VK}{u:Value}(I:Inv X pins σ H s)(h:CE X.stack X.prog X.w H s Q u s'):EP X pins σ Q u s':=by
 obtain⟨v,H',os,bare,un,hok,r,q⟩:=h;obtain⟨hh,g,d,t,os'⟩:=s';obtain rfl:os'=s.os:=os;exact⟨v,H',I.call (h':=hh) (g':=g) (d':=d) (t':=t) (ch:=[]) un hok bare (fun b z=>absurd z (by simp)),r,q⟩
end
noncomputable def yU(sp:Sp)(dvs:List V)(E:XK)(t:TA):TE:=fun σ H Q=>t σ H fun vs H1=>sp (vs++dvs) H1 Q E
noncomputable def tMeth(C:Addr)(m:Str)(sp:Sp)(dvs:List V)(E:XK)(ta:TE)(t:TA):TE:=fun σ H Q=>ta σ H fun x H1=>∃a dx fs,x=.ref a/\H1 a=some (.ins C dx fs)/\fs.lookup m=none/\
 t σ H1 fun vs H2=>sp (x::(vs++dvs)) H2 Q E
noncomputable def tMake(C:Addr)(sp:Sp)(dvs:List V)(E:XK)(t:TA):TE:=fun σ H Q=>t σ H fun vs H1=>∀x dx,H1 x=none->H1 dx=none->dx≠x->
 sp (.ref x::(vs++dvs)) (upd (upd H1 dx (.own x)) x (.ins C dx [])) (fun v H2=>v=.non/\Q (.ref x) H2) E
noncomputable def Binds(K:af)(fd:gH)(ps:List Str)(ds:List Value):Prop:=
 ∀(s:Shared)(us:List Value),K.In s.heap->(us++ds).length=ps.length->BindsTo s fd ⟨us,[]⟩ (ps.zip (us++ds))
theorem Binds.all{K:af}{fd:gH}{ps:List Str}(h:∀us:List Value,us.length=ps.length->oh fd ⟨us,[]⟩=pure (ps.zip us)):Binds K fd ps []:=fun s us _ hl=>by
 rw[m8]at hl⊢;exact .of_eq (h us hl)
section
variable {X:Cx}{CX:CXT}{k:Nat}{f C:Addr}{fd:gH}{ps:List Str}{sp:Sp}{dvs:List V}{ds:List Value}{E:XK}{x m:Str}{p pos apos:Pos}{e o:Expr}{es:List Expr}{ta:TE}{t:TA}
structure Mk(K:af)(C f:Addr):Prop where
 makes:PySem.W.makesIn K C=true
 init:jO K (.ref C) "__init__"=some (some (.ref f))
 fn:PySem.W.isFn K (.ref f)=true
 kp:cE K (.ref C)=true
end
structure ym(N P:List Str)(sc:Scope):Prop where
 kind:sc.kind=.function
 co:sc.isCoroutine=false
 gen:sc.isGenerator=false
 nd:N.Nodup
 pre:N.take P.length=P
 par:∀x∈P,sc.names.lookup x=some .local\/sc.names.lookup x=some .cell
 nofree:∀y∈sc.names,y.2≠.free
theorem wj{kindOf:Str->Option d5}{x:Str}:∀{binds:List (Str×Value)}{m:Str->Option Value},(∀v,(x,v)∉binds)->bindL kindOf binds m x=m x
 | [],_,_=>rfl
 | (n,v)::r,m,h=>by
  unfold bindL;rw[wj fun w hw=>h w (aH _ hw)];split
  ·have :x≠n:=by rintro rfl;exact h v aI
   simp[this]
  ·rfl
theorem wm{kindOf:Str->Option d5}{x:Str}:∀{binds:List (Str×Value)}{m:Str->Option Value},(∀v,(x,v)∉binds)->bindC kindOf binds m x=m x
 | [],_,_=>rfl
 | (n,v)::r,m,h=>by
  unfold bindC;rw[wm fun w hw=>h w (aH _ hw)];split
  ·rfl
  ·have :x≠n:=by rintro rfl;exact h v aI
   simp[this]
theorem wk{kindOf:Str->Option d5}{x:Str}{v:Value}:∀{P:List Str}{vs:List Value}{i:Nat}{m:Str->Option Value},P.Nodup->P[i]? =some x->vs[i]? =some v->kindOf x=some .local->
  bindL kindOf (P.zip vs) m x=some v
 | [],_,_,_,_,h,_,_=>by simp at h
 |_::_,[],_,_,_,_,h,_=>by simp at h
 |p::P,w::vs,0,m,nd,h1,h2,hk=>by
  simp at h1 h2;subst h1;subst h2;show bindL kindOf ((p,w)::P.zip vs) m p=_;unfold bindL;rw[wj fun v hv=>(bU.mp nd).1 (wA hv).1,if_pos hk];simp
 |p::P,w::vs,i+1,m,nd,h1,h2,hk=>by
  show bindL kindOf ((p,w)::P.zip vs) m x=_;unfold bindL;exact wk (i:=i) (bU.mp nd).2 (by simpa using h1) (by simpa using h2) hk
theorem wo{kindOf:Str->Option d5}{x:Str}{v:Value}:∀{P:List Str}{vs:List Value}{i:Nat}{m:Str->Option Value},P.Nodup->P[i]? =some x->vs[i]? =some v->kindOf x≠some .local->
  bindC kindOf (P.zip vs) m x=some v
 | [],_,_,_,_,h,_,_=>by simp at h
 |_::_,[],_,_,_,_,h,_=>by simp at h
 |p::P,w::vs,0,m,nd,h1,h2,hk=>by
  simp at h1 h2;subst h1;subst h2;show bindC kindOf ((p,w)::P.zip vs) m p=_;unfold bindC;rw[wm fun v hv=>(bU.mp nd).1 (wA hv).1,if_neg hk];simp
 |p::P,w::vs,i+1,m,nd,h1,h2,hk=>by
  show bindC kindOf ((p,w)::P.zip vs) m x=_;unfold bindC;exact wo (i:=i) (bU.mp nd).2 (by simpa using h1) (by simpa using h2) hk
noncomputable def start(N:List Str)(vs:List V):St:=vs.map some++iX (N.length-vs.length) none
noncomputable def uR(CX:CXT)(P:Program)(w:World)(K:af)(mg:Str->Option Value)(base:Heap)(N:List Str)(qual:Str)(scope:Scope)(f:Addr)(cd:Value)(A:Around)(outer:List Env)(s:Shared)(H:Hp)(E:XK):Cx where
 prog:=P
 w:=w
 K:=K
 mg:=mg
 base:=base
 A:=A.deeper (envOfC qual scope s.heap.objs.size f cd)
 N:=N
 s₀:=s
 H₀:=H
 env:=envOfC qual scope s.heap.objs.size f cd
 outer:=outer
 stack:=envOfC qual scope s.heap.objs.size f cd::outer
 ex:=[]
 calm:=true
 fn:=fun _=>true
 pn:=[]
 xe:=fun e s'=>wpAny (model P w) (A.deeper (envOfC qual scope s.heap.objs.size f cd)) (leaving (envOfC qual scope s.heap.objs.size f cd) e) (fun _ s''=>CX outer H s E e s'') (fun e' s''=>CX outer H s E e' s'') s'
theorem zS{sc:Scope}{n:Nat}{x:Str}(h:sc.names.lookup x=some .cell):∃c,(cM n sc.names []).lookup x=some c:=by
 have q:=Ah sc.names n [] (.inl h);exact fq.mp q
theorem Eg{CX:CXT}{P:Program}{w:World}{K:af}{mg:Str->Option Value}{base:Heap}{N ps:List Str}{qual:Str}{scope:Scope}{f:Addr}{cd:Value}{A:Around}{outer:List Env}{s s1:Shared}{H:Hp}{E:XK}{us:List Value}{vs:List V}
  (S:ym N ps scope)(hd:A.handled=none)(e0:Env0 P w K mg base A outer s H)(hl:vs.length=ps.length)(r:bO vs us)
  (x:InCallC s s.heap.objs.size (bindL (envOfC qual scope s.heap.objs.size f cd).kindOf (ps.zip us) fun _=>none) (cM (s.heap.objs.size+1) scope.names []) (bindC (envOfC qual scope s.heap.objs.size f cd).kindOf (ps.zip us) fun _=>none) s1):
  Inv (uR CX P w K mg base N qual scope f cd A outer s H E) [] (start N vs) H s1:=by
 have hpl:ps.length<=N.length:=by have :=congrArg jy S.pre;rw[bR]at this;omega
 obtain⟨h1,tk,rfl,hk⟩:=x.done;have noA:∀b:Addr,b∉(uR CX P w K mg base N qual scope f cd A outer s H E).ex:=fun b z=>absurd (show b∈([]:List Addr)from z) (by simp);refine⟨⟨e0.mod,S.kind,rfl,rfl,ax _,fun y z c h1 h2=>?_,fun y hy=>?_,fun y c _ h=>?_,fun _=>hd,Around.frames_deeper e0.frames,.inr ⟨rfl,rfl⟩,fun b z=>absurd z (noA b),e0.bs,e0.bsz,fun b _ _=>noA b,fun b z=>absurd z (noA b),e0.xS,e0.frf⟩,
  rfl,e0.bare,Un.kept hk,⟨_,x.toInCall.ns,fun i y v h1 h2 h3=>?_⟩,fun y c h=>⟨_,x.cell y c h⟩,e0.hok.fresh (ax _),fun y c h=>?_,fun p hp=>absurd (show p∈([]:List (Addr×Obj))from hp) (by simp),e0.hok.kept hk,?_⟩
 ·exact name_of_addr x.apart (bj h1) (bj h2)
 ·have hy:scope.names.lookup y=some .cell\/scope.names.lookup y=some .free:=hy
  rcases hy with hy|hy
  ·exact zS hy
  ·exact absurd rfl (S.nofree _ (bj hy))
 ·exact hU (x.above y c (bj h))
 ·have hi:i<vs.length:=by
   unfold start at h2;by_cases hi:i<vs.length
   ·exact hi
   ·rw[cX (by simpa using hi)]at h2
    rw[List.getElem?_replicate]at h2;split at h2<;>cases h2
  have ha:vs[i]? =some v:=by
   unfold start at h2;rw[eZ (by simpa using hi),ak]at h2;cases e:vs[i]? with
   |none=>rw[e]at h2;cases h2
   |some a=>rw[e]at h2;cases h2;rfl
  obtain⟨u,hu,rv⟩:=r.get ha;have hp:ps[i]? =some y:=by
   rw[<-S.pre,fA (by omega)];exact h1
  have ndP:ps.Nodup:=by rw[<-S.pre];exact S.nd.sublist (rR _ _)
  refine⟨u,rv,?_⟩;rcases S.par y (aG hp)with k|k
  ·exact .inl ⟨k,wk ndP hp hu k⟩
  ·obtain⟨c,e⟩:=zS (n:=s.heap.objs.size+1) k
   refine .inr ⟨.inl k,c,e,?_⟩;have q:=x.cell y c e;rw[wo ndP hp hu (by show scope.names.lookup y≠_;rw[k];decide)]at q;exact q
 ·exact e0.hok.fresh (hU (x.above y c (bj h)))
 ·unfold start
  show _=N.length;rw[cC,ai,List.length_replicate];omega
theorem fn_of{CX:CXT}{P:Program}{w:World}{K:af}{mg:Str->Option Value}{base:Heap}{k:Nat}{f:Addr}{name qual:Str}{params:Arguments}{body:List Stmt}{scope:Scope}{dV kV doc pm cdv ct oc:Value}{an od:Option Addr}
  {osl:Array (Option Value)}{N ps:List Str}{sp:Sp}(lk:K.lookup f=some ⟨oc,od,.func (aQ name qual params body scope dV kV doc pm an cdv ct),osl⟩)(hcd:fB K cdv qual=true)(S:ym N ps scope)
  (len:∀vs H Q E,sp vs H Q E->vs.length=ps.length)
  (hbody:∀(A:Around)(outer:List Env)(s:Shared)(H:Hp)(vs:List V)(Q:VK)(E:XK),kA k (A.deeper (envOfC qual scope s.heap.objs.size f cdv))->sp vs H Q E->
   ∃t,PSs (uR CX P w K mg base N qual scope f cdv A outer s H E) body t/\t {nx:=fun _ H'=>Q .non H',rt:=Q} (start N vs) H):
  jH P w K mg base CX (k+1) f (aQ name qual params body scope dV kV doc pm an cdv ct) ps sp:=by
 refine⟨len,fun A outer s H args us vs Q E hr e0 hb r hsp=>?_⟩;have hl:=len _ _ _ _ hsp;have KX:K.In s.heap:=e0.mod.kin.keeps fun b o e=>(e0.bs b o e).1;have lim:s.heap.NoLimit:=e0.mod.nolimit.keeps fun b o e=>(e0.bs b o e).1;have hkind:∀y∈ps.zip us,scope.names.lookup y.1=some .local\/(scope.names.lookup y.1=some .cell/\((cM (s.heap.objs.size+1) scope.names []).lookup y.1).isSome=true):=fun⟨n,v⟩ hy=>by
  rcases S.par n (wA hy).1 with q|q
  ·exact .inl q
  ·exact .inr ⟨q,Ah _ _ _ (.inl q)⟩
 refine codeAny_call_function hr.depth (KX _ _ lk) rfl S.co S.gen rfl (PySem.W.codeRec_of KX hcd) (hb _ _ _ _ ?_);refine wpAny_newFunctionEnv_cells S.kind hkind fun env he s1 x=>?_;subst he;refine⟨lim.keeps x.toInCall.keep,codeAny_func ?_⟩;obtain⟨t,ht,hq⟩:=hbody A outer s H vs Q E (hr.deeper _) hsp;have I:Inv (uR CX P w K mg base N qual scope f cdv A outer s H E) [] (start N vs) H s1:=Eg S hr.hd e0 hl r x;refine fP (ht [] s1 (start N vs) H _ I hq) (fun fl s' hs=>?_) fun e s' hs=>hs;have fin:∀{σ':St}{H':Hp}{v:V}{u:Value},Inv (uR CX P w K mg base N qual scope f cdv A outer s H E) [] σ' H' s'->RelV v u->Q v H'->CE outer P w H s Q u s':=
  fun{σ' H' v u} J rv q=>⟨v,H',J.os,J.bare,J.base,J.hok,rv,q⟩
 cases fl with
 |ret u=>
  obtain⟨v,σ',H',J,rv,q⟩:=hs;exact fin J rv q
 |next =>
  obtain⟨σ',H',J,q⟩:=hs;exact fin (v:=V.non) (u:=bL) J rfl q
 |brk=>
  obtain⟨_,_,_,q⟩:=hs;exact kE q
 |cont=>
  obtain⟨_,_,_,q⟩:=hs;exact kE q
section
variable {X:Cx}{x:Str}{p pos:Pos}{e:Expr}{es:List Expr}{t:TA}{id T:String}{r:List V->Hp->VK->Prop}
noncomputable def tCB(r:List V->Hp->VK->Prop)(t:TA):TE:=fun σ H Q=>t σ H fun vs H1=>r vs H1 Q
theorem Gy(hc:fO X (.builtin id) r)(hg:Gl X x)(hm:X.mg x=none)(hv:fL x=some (.builtin id))(ha:PA X (e::es) t)(hn:x≠"__name__":=by decide) (hdb:(x==("__debug__":Str))=false:=by decide)
  (he:bP (e::es) X.env=(false,eval e X.env)::bP es X.env:=by rfl) (hpl:(backTo pos (bP es X.env)).any (·.1)=false:=by rfl):PE X (.Call (.Name x p) (e::es) [] pos) (tCB r t):=by
 intro pins s σ H Q I h;refine gz (iR I hg hm hv ?_ hn hdb);exact iL (thn (ha pos pins s σ H _ I h) fun us s1 ⟨vs,H1,I1,r1,q1⟩=>hc pins s1 σ H1 vs us Q I1 r1 q1) he hpl
theorem DL(hc:fO X (.type T) r)(hg:Gl X x)(hm:X.mg x=none)(hv:fL x=some (.type T))(ha:PA X (e::es) t)(hn:x≠"__name__":=by decide) (hdb:(x==("__debug__":Str))=false:=by decide)
  (he:bP (e::es) X.env=(false,eval e X.env)::bP es X.env:=by rfl) (hpl:(backTo pos (bP es X.env)).any (·.1)=false:=by rfl):PE X (.Call (.Name x p) (e::es) [] pos) (tCB r t):=by
 intro pins s σ H Q I h;refine gz (iR I hg hm hv ?_ hn hdb);exact cu (thn (ha pos pins s σ H _ I h) fun us s1 ⟨vs,H1,I1,r1,q1⟩=>hc pins s1 σ H1 vs us Q I1 r1 q1) he hpl
end
end L2
namespace HT
open PySem PyProof.Rows
section
open PySem.SeqAt
open PySem.AutoSeq1 (wpAny_loadPart')
open PySem.MeetsSeq PySem.MeetsSeq2 PySem.MeetsSeq3
end
section
variable {prog:Program}{w:World}{A:Around}{E:Value->Shared->Prop}{s:Shared}
theorem cat_tup{t b:Addr}{vs ws:List Value}{Q:Value->Shared->Prop}(ht:IsTup s.heap t vs.toArray)(hb:IsTup s.heap b ws.toArray)(hv:vs≠[])
  (h1:ws=[]->Q (.ref t) s)(h2:ws≠[]->Q (.ref s.heap.objs.size) {s with heap:=s.heap.push {cls:=.type "tuple",data:=.seq (vs++ws).toArray}})
  (hsz:vs.length+ws.length<=sizeLine):wpAny (model prog w) A (fh .Add (.ref t) (.ref b)) Q E s:=by
 obtain⟨⟨cls,dd,data,sl⟩,ho,hc,n,hd⟩:=id ht;obtain⟨⟨cls2,dd2,data2,sl2⟩,ho2,hc2,n2,hd2⟩:=id hb;simp only at hc hd hc2 hd2;subst hc hd hc2 hd2;have e:vs.toArray++ws.toArray=(vs++ws).toArray:=by simp
 by_cases hw:ws=[]
 ·exact concat_meets ⟨_,ho,rfl⟩ ⟨_,ho2,rfl⟩ Ag IB lO lE (kZ _ _)
   (tuple_addW1 t b vs.toArray ws.toArray n n2 dd dd2 sl sl2 (by simpa using hv) (by simp[hw])) ⟨ho,ho2,h1 hw⟩
 ·refine concat_meets ⟨_,ho,rfl⟩ ⟨_,ho2,rfl⟩ Ag IB lO lE (kZ _ _)
   (tuple_addW2 t b vs.toArray ws.toArray n n2 dd dd2 sl sl2 (by simpa using hv) (by simpa using hw) (by rw[ay,ay];exact hsz)) ⟨ho,ho2,?_⟩
  rw[e];exact h2 hw
noncomputable def sIx(n d:Nat):Option Int->Nat
 |none=>d
 |some v=>if v<0 then(v+(n:Int)).toNat else min v.toNat n
theorem FK(n d:Nat):sIx n d none=d:=rfl
theorem xk(n d k:Nat):sIx n d (some (k:Int))=min k n:=by
 show(if(k:Int)<0 then((k:Int)+(n:Int)).toNat else min (k:Int).toNat n)=min k n;rw[if_neg (by omega),aP]
theorem AY(n d:Nat)(hd:d<=n)(o:Option Int):sIx n d o<=n:=by
 cases o with
 |none=>exact hd
 |some v=>
  show(if v<0 then(v+(n:Int)).toNat else min v.toNat n)<=n;by_cases hv:v<0
  ·rw[if_pos hv];omega
  ·rw[if_neg hv];exact Nat.min_le_right _ _
theorem xX(v:Int)(n d:Nat):(if v<0 then max (v+(n:Int)) 0 else min v (n:Int))=((sIx n d (some v):Nat):Int):=by
 show(if v<0 then max (v+(n:Int)) 0 else min v (n:Int))=(((if v<0 then(v+(n:Int)).toNat else min v.toNat n):Nat):Int);by_cases hv:v<0
 ·simp only[if_pos hv];omega
 ·simp only[if_neg hv];omega
theorem BV(lo hi:Option Int)(n:Nat):jq lo hi 1 (n:Int)=(((sIx n 0 lo:Nat):Int),((sIx n n hi:Nat):Int)):=by
 have h1:¬((1:Int)<0):=by omega
 unfold jq;simp only[h1,if_false];refine Prod.ext ?_ ?_
 ·cases lo with
  |none=>rfl
  |some v=>exact xX v n 0
 ·cases hi with
  |none=>rfl
  |some v=>exact xX v n n
theorem A6(i j:Nat):gb (i:Int) (j:Int) 1=j-i:=by
 unfold gb;have h1:(1:Int)>0:=by omega
 simp only[h1,if_true,Int.ediv_one];split <;>omega
theorem sx{v:Value}{o:Option Int}{Q:Option Int->Shared->Prop}(p:IsPart v o)(h:Q o s):wpAny (model prog w) A (Builtin.Slice.slicePartIndex v) Q E s:=by
 cases p with
 |none=>exact slicePart_none h
 |int i t=>exact slicePart_int h
theorem p5{sl:Addr}{vl vu:Value}{lo hi:Option Int}{n:Nat}{Q:Int×Int×Nat->Shared->Prop}(hs:s.heap.IsSliceOf sl vl vu .none)(pl:IsPart vl lo)(pu:IsPart vu hi)
  (h:Q (((sIx n 0 lo:Nat):Int),1,sIx n n hi-sIx n 0 lo) s):wpAny (model prog w) A (qt (.ref sl) (pure (n:Int))) Q E s:=by
 obtain⟨os,hos,hcs,hds⟩:=id hs;unfold qt Builtin.Slice.sliceFields;refine aa (aa (eW hos hds (x:=vl) rfl (aa (eW hos hds (x:=vu) rfl (aa (eW hos hds (x:=.none) rfl (aj ?_)))))));refine aa (slicePart_none ?_);show wpAny _ _ (if((1:Int)==0)=true then _ else _) _ _ s;rw[if_neg (by decide)];refine aa (sx pl (aa (sx pu (aa (aj ?_)))));show wpAny _ _ (match jq lo hi 1 (n:Int)with | (lo,hi)=>pure (lo,(1:Int),gb lo hi 1)) _ _ s;rw[BV lo hi n];show wpAny _ _ (pure (((sIx n 0 lo:Nat):Int),(1:Int),gb ((sIx n 0 lo:Nat):Int) ((sIx n n hi:Nat):Int) 1)) _ _ s;rw[A6];exact aj h
theorem Ge(xs:Array Value)(i k:Nat):((aq k).filterMap fun(m:Nat)=>xs[((i:Int)+(m:Int)*1).toNat]?).toArray=((xs.toList.drop i).take k).toArray:=by
 have e:(fun(m:Nat)=>xs[((i:Int)+(m:Int)*1).toNat]?)=fun m=>xs[i+m]? :=by
  funext m
  have :((i:Int)+(m:Int)*1).toNat=i+m:=by omega
  rw[this]
 rw[e];have :=pick_run xs i k;rw[List.filterMap_map]at this;have e2:((fun x=>xs[x]?)∘fun x=>i+x)=fun m=>xs[i+m]? :=rfl;rw[e2]at this;rw[this]
theorem oV{t sl:Addr}{items:Array Value}{vl vu:Value}{lo hi:Option Int}{Q:Value->Shared->Prop}(ht:IsTup s.heap t items)(hs:s.heap.IsSliceOf sl vl vu .none)(pl:IsPart vl lo)(pu:IsPart vu hi)
  (hw:¬(sIx items.size 0 lo=0/\sIx items.size items.size hi=items.size))
  (h:Q (.ref s.heap.objs.size) {s with heap:=s.heap.push {cls:=.type "tuple",data:=.seq ((items.toList.drop (sIx items.size 0 lo)).take (sIx items.size items.size hi-sIx items.size 0 lo)).toArray}})
  (hsz:items.size<=sizeLine):wpAny (model prog w) A (getItem (.ref t) (.ref sl)) Q E s:=by
 have htake:sizeOk (.seq ((items.toList.drop (sIx items.size 0 lo)).take (sIx items.size items.size hi-sIx items.size 0 lo)).toArray):=by
  show((items.toList.drop (sIx items.size 0 lo)).take (sIx items.size items.size hi-sIx items.size 0 lo)).toArray.size<=sizeLine;rw[ay,bR,List.length_drop,aO];omega
 have hj:sIx items.size items.size hi<=items.size:=AY _ _ (ax _) hi;obtain⟨os,hos,hcs,hds⟩:=id hs;have hTs:s.TypeIs (.ref sl) "slice":=⟨os,hos,hcs⟩;unfold getItem;try with_reducible refine bf ?_
 first |refine aa (aj ?_) |skip
 refine aa (wpAny_sequenceKey ht.typeIs (by decide) ?_);refine aa (dH (name:=cZ "__getitem__") ht.typeIs iq
  (cB iq ht.typeIs entry_tuple_getitem ?_ (args_tuple_getitem _ _)))
 show wpAny _ _ (Builtin.Tuple.tupleItemsOf (.ref t)>>=_) _ _ s;refine aa (m5 ht ?_);refine aa (pH hTs ?_);rw[if_pos (by decide)];refine aa (p5 hs pl pu ?_);have hno:¬((((sIx items.size 0 lo:Nat):Int)==0&&(1:Int)==1&&(sIx items.size items.size hi-sIx items.size 0 lo)==items.size)=true):=by
  intro q;rw[aL,aL]at q;have q1:((sIx items.size 0 lo:Nat):Int)=0:=eq_of_beq q.1.1;have q2:sIx items.size items.size hi-sIx items.size 0 lo=items.size:=eq_of_beq q.2;exact hw ⟨by omega,by omega⟩
 show wpAny _ _ (if(((sIx items.size 0 lo:Nat):Int)==0&&(1:Int)==1&&(sIx items.size items.size hi-sIx items.size 0 lo)==items.size)=true then _ else _) _ _ s;rw[if_neg hno,Ge]
 first
  |exact aa (m:=gC _) (bx (aj ⟨_,rfl,aj h⟩) htake)
  |exact aa (m:=gC _) (bx (aa (aj (aj ⟨_,rfl,aj h⟩))) htake)
  |exact aa (aa (m:=gC _) (bx (aj (aj ⟨_,rfl,aj h⟩)) htake))
  |exact aa (aa (m:=gC _) (bx (aj ⟨_,rfl,aj h⟩) htake))
end
end HT
namespace L2
open PySem PySem.Spec PyProof.Rows
noncomputable abbrev TO:=St->Hp->(Option Int->Hp->Prop)->Prop
noncomputable def PO(X:Cx)(e:Option Expr)(t:TO):Prop:=
 ∀(pins:List (Addr×Obj))(s:Shared)(σ:St)(H:Hp)(Q:Option Int->Hp->Prop),Inv X pins σ H s->t σ H Q->
  wpAny (model X.prog X.w) X.A (evalPart e X.env) (fun u s'=>∃o H',Inv X pins σ H' s'/\IsPart u o/\Q o H') X.xe s
noncomputable def wL:TO:=fun _ H Q=>Q none H
noncomputable def Fj(t:TE):TO:=fun σ H Q=>t σ H fun x H1=>∃i,x=.int i/\Q (some i) H1
theorem intsAre_of{ns:List Int}:∀{us:List Value},bO (ns.map V.int) us->cf us ns:=by
 induction ns with
 |nil=>intro us r;rw[mV]at r;cases r;exact .nil
 |cons n ns ih=>
  intro us r;rw[bp]at r;cases r with
  |cons r1 r2=>
   obtain⟨t,e⟩:=r1;subst e;exact .cons n t (ih r2)
section
variable {X:Cx}{e:Expr}{te:TE}{lo hi:Option Expr}{tl th:TO}{pos p2:Pos}
theorem po_none:PO X none wL:=by
 intro pins s σ H Q I h;rw[evalPart_none];exact aj ⟨none,H,I,.none,h⟩
theorem po_some(h:PE X e te):PO X (some e) (Fj te):=by
 intro pins s σ H Q I hw;rw[evalPart_some];refine thn (h pins s σ H _ I hw) fun u s1 ⟨x,H1,I1,r1,q1⟩=>?_;obtain⟨i,rfl,q⟩:=q1;obtain⟨t,rfl⟩:=r1;exact⟨some i,H1,I1,.int i t,q⟩
noncomputable def SlR(X:Cx)(r:V->Option Int->Option Int->Hp->VK->Prop):Prop:=
 ∀(pins:List (Addr×Obj))(s:Shared)(σ:St)(H:Hp)(x:V)(v vl vu:Value)(lo hi:Option Int)(sl:Addr)(Q:VK),Inv X pins σ H s->RelV x v->s.heap.IsSliceOf sl vl vu .none->IsPart vl lo->IsPart vu hi->r x lo hi H Q->
  ∃T id,typeLookup (.type T) "__getitem__"=pure (some (.builtin id))/\s.TypeIs v T/\wpAny (model X.prog X.w) X.A (getItem v (.ref sl)) (EP X pins σ Q) X.xe s
theorem SlR.or{r r':V->Option Int->Option Int->Hp->VK->Prop}(h:SlR X r)(h':SlR X r'):SlR X (fun x lo hi H Q=>r x lo hi H Q\/r' x lo hi H Q):=by
 intro pins s σ H x v vl vu lo hi sl Q I rx hs pl pu q;rcases q with q|q
 ·exact h pins s σ H x v vl vu lo hi sl Q I rx hs pl pu q
 ·exact h' pins s σ H x v vl vu lo hi sl Q I rx hs pl pu q
noncomputable def tSl(r:V->Option Int->Option Int->Hp->VK->Prop)(te:TE)(tl th:TO):TE:=fun σ H Q=>te σ H fun x H1=>tl σ H1 fun l H2=>th σ H2 fun u H3=>r x l u H3 Q
theorem Gk{r:V->Option Int->Option Int->Hp->VK->Prop}(hr:SlR X r)(he:PE X e te)(hl:PO X lo tl)(hu:PO X hi th):PE X (.Subscript e (.Slice lo hi none p2) pos) (tSl r te tl th):=by
 intro pins s σ H Q I h;refine Subscript_ (thn (he pins s σ H _ I h) fun v s1 ⟨x,H1,I1,r1,q1⟩=>?_);refine wpAny_Slice (thn (hl pins s1 σ H1 _ I1 q1) fun vl s2 ⟨l,H2,I2,pl,q2⟩=>thn (hu pins s2 σ H2 _ I2 q2) fun vu s3 ⟨u,H3,I3,pu,q3⟩=>?_);rw[evalPart_none];refine aj ?_;have I4:Inv X pins σ H3 {s3 with heap:=s3.heap.push {cls:=.type "slice",data:=.fields #[vl,vu,.none]}}:=I3.kept (t':=s3.toks) fun b ob q=>ah _ q;obtain⟨T,id,hT,ht,hg⟩:=hr pins {s3 with heap:=s3.heap.push {cls:=.type "slice",data:=.fields #[vl,vu,.none]}} σ H3 x v vl vu l u s3.heap.objs.size Q I4 r1 (Heap.IsSliceOf.new ..) pl pu q3;show wpAny (model X.prog X.w) X.A (Iz e (.Slice lo hi none p2) v (.ref s3.heap.objs.size)) (EP X pins σ Q) X.xe {s3 with heap:=s3.heap.push {cls:=.type "slice",data:=.fields #[vl,vu,.none]}};exact tail_any (ops:=[.ref s3.heap.objs.size,v]) ht hT hg (by with_unfolding_all rfl)
noncomputable def rh(xs:List V)(lo hi:Option Int):List V:=(xs.drop (HT.sIx xs.length 0 lo)).take (HT.sIx xs.length xs.length hi-HT.sIx xs.length 0 lo)
theorem qH(xs:List V)(lo hi:Option Int):(rh xs lo hi).length<=xs.length:=by
 unfold rh;rw[bR,List.length_drop];omega
noncomputable def rSlT(K:af):V->Option Int->Option Int->Hp->VK->Prop:=fun x lo hi H Q=>∃a xs,x=.ref a/\SqT K H a xs/\
 ¬(HT.sIx xs.length 0 lo=0/\HT.sIx xs.length xs.length hi=xs.length)/\∀p,H p=none->Q (.ref p) (upd H p (.tup (rh xs lo hi)))
theorem sl_tup:SlR X (rSlT X.K):=by
 intro pins s σ H x v vl vu lo hi sl Q I rx hs pl pu h;obtain⟨a,xs,rfl,hx,hw,q⟩:=h;cases rx;obtain⟨its,r,ht,hz⟩:=I.tuple hx;have hlen:its.toArray.size=xs.length:=by rw[ay];exact r.length.symm
 refine⟨"tuple",_,iq.lookup,ht.typeIs,?_⟩;refine HT.oV ht hs pl pu (by rw[hlen];exact hw) ?_ (by rw[hlen];exact hz);rw[hlen];refine⟨.ref s.heap.objs.size,_,I.laid (t':=s.toks) (o:=.tup (rh xs lo hi)) (fun b ob q=>ah _ q) (ax _) ?_,rfl,q _ (I.hok.fresh (ax _))⟩;exact⟨ba (qH xs lo hi) hz,_,(r.drop (HT.sIx xs.length 0 lo)).take (HT.sIx xs.length xs.length hi-HT.sIx xs.length 0 lo),IsTup.new _ _⟩
noncomputable def Ce(K:af):R2:=fun x y H Q=>∃a b xs ys,x=.ref a/\y=.ref b/\SqT K H a xs/\SqT K H b ys/\xs≠[]/\xs.length+ys.length<=sizeLine/\
 (ys=[]->Q (.ref a) H)/\(ys≠[]->∀p,H p=none->Q (.ref p) (upd H p (.tup (xs++ys))))
theorem bO.xJ{xs:List V}{us:List Value}(r:bO xs us):us=[]↔xs=[]:=by
 cases r with
 |nil=>simp
 |cons _ _=>simp
theorem op_catT:OpR X (fh .Add) (Ce X.K):=by
 intro pins s σ H x y v u Q I rx ry h;obtain⟨a,b,xs,ys,rfl,rfl,ha,hb,hx,hz,q1,q2⟩:=h;cases rx;cases ry;obtain⟨its,r1,p1,_⟩:=I.tuple ha;obtain⟨its2,r2,p2,_⟩:=I.tuple hb;refine HT.cat_tup p1 p2 (fun z=>hx (r1.xJ.mp z)) (fun z=>⟨.ref a,H,I,rfl,q1 (r2.xJ.mp z)⟩) (fun z=>?_) (by rw[<-r1.length,<-r2.length];exact hz);refine⟨.ref s.heap.objs.size,_,I.laid (t':=s.toks) (o:=.tup (xs++ys)) (fun b ob q=>ah _ q) (ax _) ?_,rfl,q2 (fun w=>z (r2.xJ.mpr w)) _ (I.hok.fresh (ax _))⟩;exact⟨by rw[cC];exact hz,_,r1.append r2,IsTup.new _ _⟩
end
noncomputable def ixN(n:Nat)(i:Int):Option Nat:=if 0<=i then(if i<n then some i.toNat else none)else if -(n:Int)<=i then some (i+n).toNat else none
noncomputable def atI{α:Type}(xs:List α)(i:Int):Option α:=(ixN xs.length i).bind fun j=>xs[j]?
theorem CA{n:Nat}{i:Int}{j:Nat}(h:ixN n i=some j):seqIndex? i n=some j/\j<n∧-(n:Int)<=i/\i<n:=by
 unfold ixN at h;by_cases h0:0<=i
 ·rw[if_pos h0]at h
  by_cases h1:i<n
  ·rw[if_pos h1]at h
   have e:i.toNat=j:=aT h;exact⟨by rw[mR h0 h1,e],by omega,by omega,h1⟩
  ·rw[if_neg h1]at h;cases h
 ·rw[if_neg h0]at h
  by_cases h1: -(n:Int)<=i
  ·rw[if_pos h1]at h
   have e:(i+n).toNat=j:=aT h;exact⟨by rw[seqIndex_neg (by omega) h1,e],by omega,h1,by omega⟩
  ·rw[if_neg h1]at h;cases h
theorem yi{α:Type}{xs:List α}{i:Int}{v:α}(h:atI xs i=some v):∃j,seqIndex? i xs.length=some j/\xs[j]? =some v/\j<xs.length∧-(xs.length:Int)<=i/\i<xs.length:=by
 unfold atI at h;cases e:ixN xs.length i with
 |none=>rw[e]at h;cases h
 |some j=>
  rw[e]at h;obtain⟨h1,h2,h3,h4⟩:=CA e;exact⟨j,h1,h,h2,h3,h4⟩
theorem cN{α:Type}{xs:List α}{j:Nat}{v:α}(h:xs[j]? =some v):atI xs (j:Int)=some v:=by
 have hj:j<xs.length:=(aF.mp h).1;have e:ixN xs.length (j:Int)=some j:=by
  unfold ixN;rw[if_pos (by omega),if_pos (by omega)];simp
 unfold atI;rw[e];exact h
noncomputable def Df(b:Expr):Prop:=∀o i,subscripted b false o i=operate [o,i] (getItem o i)
noncomputable def IxR(X:Cx)(r:R2):Prop:=
 ∀(value slice:Expr)(pins:List (Addr×Obj))(s:Shared)(σ:St)(H:Hp)(x y:V)(v u:Value)(Q:VK),Inv X pins σ H s->RelV x v->RelV y u->r x y H Q->
  subscripted slice false v u=operate [v,u] (getItem v u)->wpAny (model X.prog X.w) X.A (Iz value slice v u) (EP X pins σ Q) X.xe s
noncomputable def MtR(X:Cx)(id:String)(r:V->List V->Hp->VK->Prop):Prop:=
 ∀(pins:List (Addr×Obj))(s:Shared)(σ:St)(H:Hp)(x:V)(xs:List V)(v:Value)(us:List Value)(Q:VK),Inv X pins σ H s->RelV x v->bO xs us->r x xs H Q->
  wpAny (model X.prog X.w) X.A (call (.builtin id) (v::us)) (EP X pins σ Q) X.xe s
section
variable {X:Cx}{a b:Expr}{ta tb:TE}{pos:Pos}
theorem IxR.or{r r':R2}(h:IxR X r)(h':IxR X r'):IxR X (fun x y H Q=>r x y H Q\/r' x y H Q):=by
 intro value slice pins s σ H x y v u Q I rx ry q hs;rcases q with q|q
 ·exact h value slice pins s σ H x y v u Q I rx ry q hs
 ·exact h' value slice pins s σ H x y v u Q I rx ry q hs
theorem MtR.or{id:String}{r r':V->List V->Hp->VK->Prop}(h:MtR X id r)(h':MtR X id r'):MtR X id (fun x xs H Q=>r x xs H Q\/r' x xs H Q):=by
 intro pins s σ H x xs v us Q I rx rs q;rcases q with q|q
 ·exact h pins s σ H x xs v us Q I rx rs q
 ·exact h' pins s σ H x xs v us Q I rx rs q
theorem pe_ix{r:R2}(hr:IxR X r)(ha:PE X a ta)(hb:PE X b tb)(hs:Df b):PE X (.Subscript a b pos) (tOp r ta tb):=by
 intro pins s σ H Q I h;exact Subscript_ (binT ha hb I h fun v u s2 x y H2 I2 rx ry q=>hr a b pins s2 σ H2 x y v u Q I2 rx ry q (hs _ _))
noncomputable def rIxL(K:af):R2:=fun x y H Q=>∃p xs i v,x=.ref p/\y=.int i/\SqL K H p xs/\atI xs i=some v/\Q v H
noncomputable def rIxT(K:af):R2:=fun x y H Q=>∃p xs i v,x=.ref p/\y=.int i/\SqT K H p xs/\atI xs i=some v/\Q v H
noncomputable def rIxS:R2:=fun x y H Q=>∃z i c,x=.str z/\y=.int i/\z.length<=sizeLine/\atI z.cps.toList i=some c/\Q (.str ⟨#[c]⟩) H
theorem ix_list:IxR X (rIxL X.K):=by
 intro value slice pins s σ H x y v u Q I rx ry h hs;obtain⟨p,xs,i,z,rfl,rfl,hq,he,q⟩:=h;cases rx;obtain⟨t,rfl⟩:=ry;obtain⟨its,r,pl,hz⟩:=I.list hq;obtain⟨j,h1,h2,h3,h4,h5⟩:=yi he;obtain⟨w,ew,rw'⟩:=r.get h2;have hl:=r.length;have hn:=nV;have fin:EP X pins σ Q w s:=⟨z,H,I,rw',q⟩;by_cases h0:0<=i
 ·have hj:i.toNat=j:=by
   rw[mR h0 h5]at h1;exact aT h1
  exact item_listR pl.isList h0 (by omega) (by rw[hj];simpa using ew) fin hs
 ·have hj:(i+(its.toArray.size:Int)).toNat=j:=by
   rw[seqIndex_neg (by omega) h4]at h1;rw[ay,<-hl];exact aT h1
  exact pI (x:=w) pl.isList.typeIs slot_list_getitem.lookup
   (wpAny_getItem_list_neg (Q:=fun r s'=>r=w/\EP X pins σ Q r s') pl.isList (by omega) (by rw[ay]<;>omega) (by omega) (by rw[hj];simpa using ew) ⟨rfl,fin⟩) hs
theorem ix_tup:IxR X (rIxT X.K):=by
 intro value slice pins s σ H x y v u Q I rx ry h hs;obtain⟨p,xs,i,z,rfl,rfl,hq,he,q⟩:=h;cases rx;obtain⟨t,rfl⟩:=ry;obtain⟨its,r,pl,hz⟩:=I.tuple hq;obtain⟨j,h1,h2,h3,h4,h5⟩:=yi he;obtain⟨w,ew,rw'⟩:=r.get h2;have hl:=r.length;have hn:=nV;have fin:EP X pins σ Q w s:=⟨z,H,I,rw',q⟩;exact pI (x:=w) pl.typeIs slot_tuple_getitem.lookup
  (getItem_tuple (j:=j) (Q:=fun r s'=>r=w/\EP X pins σ Q r s') pl (by omega) (by omega) (by rw[ay,<-hl];exact h1) (by simpa using ew) ⟨rfl,fin⟩) hs
theorem ix_str:IxR X rIxS:=by
 intro value slice pins s σ H x y v u Q I rx ry h hs;obtain⟨z,i,c,rfl,rfl,hz,he,q⟩:=h;obtain⟨t,rfl⟩:=rx;obtain⟨t',rfl⟩:=ry;obtain⟨j,h1,h2,h3,h4,h5⟩:=yi he;have hl:z.cps.toList.length=z.length:=by simp[Str.length]
 rw[hl]at h1 h4 h5;have hn:=nV;exact tail_any (typeIs_str s z t) slot_str_getitem.lookup (getItem_str (c:=c) (by
  have e1:decide (i< -(2^63:Int))=false:=decide_eq_false (by omega);have e2:decide (i≥ 2^63)=false:=decide_eq_false (by omega);rw[e1,e2,Bool.or_false]) (by rw[h1];simpa using h2) ⟨.str ⟨#[c]⟩,H,I.tok _,⟨_,rfl⟩,q⟩) hs
noncomputable def rIx(K:af):R2:=fun x y H Q=>rIxL K x y H Q\/rIxT K x y H Q\/rIxS x y H Q
theorem ix_seq:IxR X (rIx X.K):=ix_list.or (ix_tup.or ix_str)
theorem Bi(its:List Value)(n j:Nat)(u:Value):aY (·.setIfInBounds j u) {cls:=.type "list",data:=.seq its.toArray n}={cls:=.type "list",data:=.seq (its.set j u).toArray n}:=by
 simp[aY]
theorem Inv.lst{pins:List (Addr×Obj)}{σ:St}{H:Hp}{s:Shared}{p:Addr}{xs:List V}(I:Inv X pins σ H s)(h:H p=some (.lst xs)):
  ∃(its:List Value)(n:Nat),bO xs its/\s.heap.get? p=some {cls:=.type "list",data:=.seq its.toArray n}/\xs.length<=sizeLine:=by
 obtain⟨z,its,n,r,e⟩:=I.hok p _ h;exact⟨its,n,r,e,z⟩
theorem Inv.lstUpd{pins:List (Addr×Obj)}{σ:St}{H:Hp}{s:Shared}{p:Addr}{xs ys:List V}{its its':List Value}{n n':Nat}{f:Obj->Obj}(I:Inv X pins σ H s)(h:H p=some (.lst xs))
  (ho:s.heap.get? p=some {cls:=.type "list",data:=.seq its.toArray n}) (hf:f {cls:=.type "list",data:=.seq its.toArray n}={cls:=.type "list",data:=.seq its'.toArray n'}) (r:bO ys its') (hz:ys.length<=sizeLine) (t:Nat):
  Inv X pins σ (upd H p (.lst ys)) {s with heap:=s.heap.update p f,toks:=t}:=by
 have e:(s.heap.update p f).get? p=some {cls:=.type "list",data:=.seq its'.toArray n'}:=by
  rw[bK f ho (by rw[hf]<;>rfl),hf]
 refine I.write (x:=p) (e:=p) (by rw[h];trivial) (.inl rfl) (fun b u hb q=>(aN _ _ (cb hb)).trans q) ⟨_,e⟩ ?_;exact⟨hz,its',n',r,e⟩
noncomputable def rSetL:V->V->V->Hp->(Hp->Prop)->Prop:=fun o i v H Q=>∃p xs k j,o=.ref p/\i=.int k/\H p=some (.lst xs)/\ixN xs.length k=some j/\Q (upd H p (.lst (xs.set j v)))
theorem set_list:PSet X rSetL:=by
 intro pins s σ H o i v ov iv u Q I ro ri rv h;obtain⟨p,xs,k,j,rfl,rfl,hp,hj,q⟩:=h;cases ro;obtain⟨t,rfl⟩:=ri;obtain⟨its,n,r,ho,hz⟩:=I.lst hp;obtain⟨h1,h2,h3,h4⟩:=CA hj;have hl:=r.length;have hn:=nV;have I':Inv X pins σ (upd H p (.lst (xs.set j v))) {s with heap:=s.heap.update p (aY (·.setIfInBounds j u))}:=
  I.lstUpd hp ho (Bi its n j u) (r.set rv j) (by rw[List.length_set];exact hz) s.toks
 by_cases h0:0<=k
 ·have hk:k.toNat=j:=by
   rw[mR h0 h4]at h1;exact aT h1
  exact PySem.W.ki_setAt ho h0 (by omega) (by rw[ay,<-hl];exact h4) (by rw[hk];exact⟨_,I',q⟩)
 ·have hk:(k+(its.toArray.size:Int)).toNat=j:=by
   rw[seqIndex_neg (by omega) h3]at h1;rw[ay,<-hl];exact aT h1
  exact PySem.W.ki_setBack ho (by omega) (by rw[ay,<-hl];exact h3) (by omega) (by rw[hk];exact⟨_,I',q⟩)
theorem xb(lo hi:Option Int)(n:Nat):(kB lo hi none n).1=((HT.sIx n 0 lo:Nat):Int)/\(kB lo hi none n).2.1=((HT.sIx n n hi:Nat):Int)/\(kB lo hi none n).2.2=1:=by
 refine⟨?_,?_,rfl⟩
 ·cases lo with
  |none=>simp[kB,HT.sIx]
  |some i=>
   simp only[kB,HT.sIx,rQ,show(1:Int)>0 by decide,if_true];by_cases h:i<0
   ·simp only[h,if_true]<;>omega
   ·simp only[h,if_false]<;>omega
 ·cases hi with
  |none=>simp[kB,HT.sIx]
  |some i=>
   simp only[kB,HT.sIx,rQ,show(1:Int)>0 by decide,if_true];by_cases h:i<0
   ·simp only[h,if_true]<;>omega
   ·simp only[h,if_false]<;>omega
theorem uK(its:List Value)(lo hi:Option Int):slicePick its.toArray lo hi none=((its.drop (HT.sIx its.length 0 lo)).take (HT.sIx its.length its.length hi-HT.sIx its.length 0 lo)).toArray:=by
 obtain⟨h1,h2,h3⟩:=xb lo hi its.toArray.size;unfold slicePick;rw[h1,h2,h3];simp only[sliceRange_one,pick_run,ay]<;>rfl
noncomputable def rSlL(K:af):V->Option Int->Option Int->Hp->VK->Prop:=fun x lo hi H Q=>∃a xs,x=.ref a/\SqL K H a xs/\∀p,H p=none->Q (.ref p) (upd H p (.lst (rh xs lo hi)))
theorem sl_list:SlR X (rSlL X.K):=by
 intro pins s σ H x v vl vu lo hi sl Q I rx hs pl pu h;obtain⟨a,xs,rfl,hx,q⟩:=h;cases rx;obtain⟨its,r,ht,hz⟩:=I.list hx;have hlen:=r.length;refine⟨"list",_,slot_list_getitem.lookup,ht.isList.typeIs,?_⟩;refine wpAny_getItem_list_slice ht.isList hs pl pu .none (by simp) ?_ (by rw[ay]<;>omega);rw[uK,<-hlen];refine⟨.ref s.heap.objs.size,_,I.laid (t':=s.toks) (o:=.lst (rh xs lo hi)) (fun b ob q=>ah _ q) (ax _) ?_,rfl,q _ (I.hok.fresh (ax _))⟩;exact⟨ba (qH xs lo hi) hz,_,0,(r.drop (HT.sIx xs.length 0 lo)).take (HT.sIx xs.length xs.length hi-HT.sIx xs.length 0 lo),au _ rfl⟩
noncomputable def oZ:V->Bool
 |.non=>true
 |.bl _=>true
 |.int _=>true
 |.str _=>true
 |_=>false
noncomputable def eqV:V->V->Bool
 |.non,.non=>true
 |.bl a,.bl b=>a==b
 |.bl a,.int b=>(if a then 1 else 0)==b
 |.int a,.bl b=>a==(if b then 1 else 0)
 |.int a,.int b=>a==b
 |.str a,.str b=>a==b
 |_,_=>false
theorem gf{A:Around}{s:Shared}{y x:V}{u v:Value}(ry:RelV y u)(rx:RelV x v)(fy:oZ y=true)(fx:oZ x=true):SeqAt.EqAt A s u v (eqV y x):=by
 cases y with
 |non=>
  cases ry;cases x with
  |non=>cases rx;exact SeqAt.EqAt.same _
  |bl b=>cases rx;exact SeqAt.EqAt.none_bool b
  |int b=>obtain⟨t,rfl⟩:=rx;exact SeqAt.EqAt.none_int b t
  |str b=>obtain⟨t,rfl⟩:=rx;exact SeqAt.EqAt.none_str b t
  |_=>exact absurd (show false=true from fx) aD
 |bl a=>
  cases ry;cases x with
  |non=>cases rx;exact SeqAt.EqAt.bool_none a
  |bl b=>cases rx;exact SeqAt.EqAt.bool_bool a b
  |int b=>obtain⟨t,rfl⟩:=rx;exact SeqAt.EqAt.bool_int a b t
  |str b=>obtain⟨t,rfl⟩:=rx;exact SeqAt.EqAt.bool_str a b t
  |_=>exact absurd (show false=true from fx) aD
 |int a=>
  obtain⟨t',rfl⟩:=ry;cases x with
  |non=>cases rx;exact SeqAt.EqAt.int_none a t'
  |bl b=>cases rx;exact SeqAt.EqAt.int_bool a t' b
  |int b=>obtain⟨t,rfl⟩:=rx;exact SeqAt.EqAt.int_int a t' b t
  |str b=>obtain⟨t,rfl⟩:=rx;exact As a t' b t
  |_=>exact absurd (show false=true from fx) aD
 |str a=>
  obtain⟨t',rfl⟩:=ry;cases x with
  |non=>cases rx;exact SeqAt.EqAt.str_none a t'
  |bl b=>cases rx;exact SeqAt.EqAt.str_bool a t' b
  |int b=>obtain⟨t,rfl⟩:=rx;exact Ar a t' b t
  |str b=>obtain⟨t,rfl⟩:=rx;exact SeqAt.EqAt.str_str a t' b t
  |_=>exact absurd (show false=true from fx) aD
 |_=>exact absurd (show false=true from fy) aD
noncomputable def eqU(x:V)(u:Value):Bool:=match u with
 |.none=>eqV .non x
 |.bool b=>eqV (.bl b) x
 |.int i _=>eqV (.int i) x
 |.str z _=>eqV (.str z) x
 |_=>false
theorem HG{x y:V}{u:Value}(r:RelV y u)(f:oZ y=true):eqU x u=eqV y x:=by
 cases y with
 |non=>cases r;rfl
 |bl b=>cases r;rfl
 |int i=>obtain⟨t,rfl⟩:=r;rfl
 |str z=>obtain⟨t,rfl⟩:=r;rfl
 |_=>exact absurd (show false=true from f) aD
theorem pE{x:V}:∀{xs:List V}{us:List Value},bO xs us->xs.all oZ=true->us.any (eqU x)=xs.any fun y=>eqV y x
 |_,_,.nil,_=>rfl
 |y::xs,u::us,.cons r t,f=>by
  rw[AA,aL]at f;rw[Az,Az,HG r f.1,pE t f.2]
theorem lY{A:Around}{s:Shared}{x:V}{v:Value}(rx:RelV x v)(fx:oZ x=true):∀{xs:List V}{us:List Value},bO xs us->xs.all oZ=true->∀u∈us,SeqAt.EqAt A s u v (eqU x u)
 |_,_,.nil,_=>fun u hu=>by cases hu
 |y::xs,u::us,.cons r t,f=>fun u' hu=>by
  rw[AA,aL]at f;rcases aB.mp hu with rfl|hu
  ·rw[HG r f.1];exact gf r rx f.1 fx
  ·exact lY rx fx t f.2 u' hu
noncomputable def inV(x:V)(xs:List V):Bool:=xs.any fun y=>eqV y x
noncomputable def rIn(K:af)(neg:Bool):R2:=fun x y H Q=>∃p xs,y=.ref p/\(SqL K H p xs\/SqT K H p xs)/\oZ x=true/\xs.all oZ=true/\Q (.bl (if neg then !inV x xs else inV x xs)) H
theorem DS:OpR X (da .In) (rIn X.K false):=by
 intro pins s σ H x y v u Q I rx ry h;obtain⟨p,xs,rfl,hq,fx,fs,q⟩:=h;cases ry;rcases hq with hq|hq
 ·obtain⟨its,r,pl,hz⟩:=I.list hq
  refine SeqAt.in_listAt (eqU x) pl.isList (fun w hw=>lY rx fx r fs w (by simpa using hw)) ⟨.bl _,H,I,rfl,?_⟩;rw[show its.toArray.any (eqU x)=its.any (eqU x) by simp,pE r fs];exact q
 ·obtain⟨its,r,pl,hz⟩:=I.tuple hq
  refine SeqAt.in_tupleAt (eqU x) pl (fun w hw=>lY rx fx r fs w (by simpa using hw)) ⟨.bl _,H,I,rfl,?_⟩;rw[show its.toArray.any (eqU x)=its.any (eqU x) by simp,pE r fs];exact q
theorem xD:OpR X (da .NotIn) (rIn X.K true):=by
 intro pins s σ H x y v u Q I rx ry h;obtain⟨p,xs,rfl,hq,fx,fs,q⟩:=h;cases ry;rcases hq with hq|hq
 ·obtain⟨its,r,pl,hz⟩:=I.list hq
  refine SeqAt.notIn_listAt (eqU x) pl.isList (fun w hw=>lY rx fx r fs w (by simpa using hw)) ⟨.bl _,H,I,rfl,?_⟩;rw[show its.toArray.any (eqU x)=its.any (eqU x) by simp,pE r fs];exact q
 ·obtain⟨its,r,pl,hz⟩:=I.tuple hq
  refine SeqAt.notIn_tupleAt (eqU x) pl (fun w hw=>lY rx fx r fs w (by simpa using hw)) ⟨.bl _,H,I,rfl,?_⟩;rw[show its.toArray.any (eqU x)=its.any (eqU x) by simp,pE r fs];exact q
theorem xC:OpR X (da .NotIn) (fun x y H Q=>∃i j,x=.str i/\y=.str j/\Q (.bl (!(!(gX j i 0 j.length 1).isEmpty))) H):=by
 intro pins s σ H x y v u Q I rx ry h;obtain⟨i,j,rfl,rfl,q⟩:=h;obtain⟨t,rfl⟩:=rx;obtain⟨t',rfl⟩:=ry;exact notIn_str ⟨.bl _,H,I,rfl,q⟩
theorem yd:fO X (.builtin "len") (fun xs H Q=>∃p ys,xs=[.ref p]/\(SqL X.K H p ys\/SqT X.K H p ys)/\Q (.int ys.length) H):=by
 intro pins s σ H xs us Q I r h;obtain⟨p,ys,rfl,hq,q⟩:=h;obtain⟨u,rfl,rx⟩:=vals1 r;cases rx;have hn:=nV;rcases hq with hq|hq
 ·obtain⟨its,r',pl,hz⟩:=I.list hq
  have hlen:=r'.length;exact Calls.call_len_list pl.isList (by simp only[ay]<;>omega) ⟨.int ys.length,H,I.tok _,⟨s.toks+1,by rw[ay,hlen]⟩,q⟩
 ·obtain⟨its,r',pl,hz⟩:=I.tuple hq
  have hlen:=r'.length;exact len_tuple pl (by simp only[ay]<;>omega) ⟨.int ys.length,H,I.tok _,⟨s.toks+1,by rw[ay,hlen]⟩,q⟩
theorem yc:fO X (.builtin "len") (fun xs H Q=>∃z,xs=[.str z]/\z.length<=sizeLine/\Q (.int z.length) H):=by
 intro pins s σ H xs us Q I r h;obtain⟨z,rfl,hz,q⟩:=h;obtain⟨u,rfl,t,rfl⟩:=vals1 r;have hn:=nV;exact len_str (by omega) ⟨.int z.length,H,I.tok _,⟨_,rfl⟩,q⟩
theorem fO.or{f:Value}{r r':List V->Hp->VK->Prop}(h:fO X f r)(h':fO X f r'):fO X f (fun xs H Q=>r xs H Q\/r' xs H Q):=by
 intro pins s σ H xs us Q I rs q;rcases q with q|q
 ·exact h pins s σ H xs us Q I rs q
 ·exact h' pins s σ H xs us Q I rs q
theorem yb:fO X (.type "list") (fun xs H Q=>∃p ys,xs=[.ref p]/\(SqL X.K H p ys\/SqT X.K H p ys)/\∀l,H l=none->Q (.ref l) (upd H l (.lst ys))):=by
 intro pins s σ H xs us Q I r h;obtain⟨p,ys,rfl,hq,q⟩:=h;obtain⟨u,rfl,rx⟩:=vals1 r;cases rx;have fin:∀(its:List Value),bO ys its->ys.length<=sizeLine->∀(h':Heap)(c':Nat),(∀b o',s.heap.get? b=some o'->h'.get? b=some o')->
   h'.get? s.heap.objs.size=some {cls:=.type "list",dict:=none,data:=.seq its.toArray c',slots:= #[]}->EP X pins σ Q (.ref s.heap.objs.size) {s with heap:=h'}:=fun its r' hz h' c' kp e=>
  ⟨.ref s.heap.objs.size,_,I.laid (t':=s.toks) kp (ax _) (show dQ X.prog X.w _ h' _ (.lst ys)from⟨hz,its,c',r',e⟩),rfl,q _ (I.hok.fresh (ax _))⟩
 rcases hq with hq|hq
 ·obtain⟨its,r',pl,hz⟩:=I.list hq
  have hlen:=r'.length;obtain⟨o,ho,hc,n,hd⟩:=pl.isList;exact call_list_seq p (.inl rfl) ho hc hd (fun h' c' kp e=>fin its r' hz h' c' kp e) (by simp only[ay]<;>omega)
 ·obtain⟨its,r',pl,hz⟩:=I.tuple hq
  have hlen:=r'.length;obtain⟨o,ho,hc,n,hd⟩:=pl;exact call_list_seq p (.inr rfl) ho hc hd (fun h' c' kp e=>fin its r' hz h' c' kp e) (by simp only[ay]<;>omega)
theorem uV:fO X (.type "tuple") (fun xs H Q=>∃p ys,xs=[.ref p]/\((SqL X.K H p ys/\∀l,H l=none->Q (.ref l) (upd H l (.tup ys)))\/(SqT X.K H p ys/\Q (.ref p) H))):=by
 intro pins s σ H xs us Q I r h;obtain⟨p,ys,rfl,h⟩:=h;obtain⟨u,rfl,rx⟩:=vals1 r;cases rx;rcases h with⟨hq,q⟩ |⟨hq,q⟩
 ·obtain⟨its,r',pl,hz⟩:=I.list hq
  have hlen:=r'.length;refine call_tuple_list pl.isList (fun h' kp=>?_) (by simp only[ay]<;>omega);have I1:Inv X pins σ H {s with heap:=h'}:=I.kept (t':=s.toks) kp;have I2:Inv X pins σ (upd H h'.objs.size (.tup ys)) {s with heap:=h'.push {cls:=.type "tuple",data:=.seq its.toArray}}:=
   I1.laid (t':=s.toks) (fun b o e=>ah _ e) (ax _) (show dQ X.prog X.w _ _ _ (.tup ys)from⟨hz,its,r',IsTup.new _ _⟩)
  exact⟨.ref h'.objs.size,_,I2,rfl,q _ (I1.hok.fresh (ax _))⟩
 ·obtain⟨its,r',pl,hz⟩:=I.tuple hq
  exact call_tuple_same pl ⟨.ref p,H,I,rfl,q⟩
noncomputable def tyV(K:af)(T:String)(x:V)(H:Hp):Prop:=match x with
 |.str _=>T="str"
 |.int _=>T="int"
 |.ref p=>(T="list"/\∃xs,SqL K H p xs)\/(T="tuple"/\∃o,K.lookup p=some o/\o.cls=.type "tuple"/\o.dict=none)\/
   (T="dict"/\((∃kvs,H p=some (.dK kvs))\/∃kvs,H p=some (.dT kvs)))\/(T="set"/\∃S n,H p=some (.set S n))
 |_=>False
theorem tyV_is{pins:List (Addr×Obj)}{σ:St}{H:Hp}{s:Shared}{T:String}{x:V}{v:Value}(I:Inv X pins σ H s)(r:RelV x v)(ty:tyV X.K T x H):
  s.TypeIs v T/\∀a,v=.ref a->∃ob,s.heap.get? a=some ob/\ob.dict=none:=by
 cases x with
 |str z=>
  obtain⟨t,rfl⟩:=r;cases(show T="str" from ty);exact⟨typeIs_str s z t,fun _ e=>nomatch e⟩
 |int i=>
  obtain⟨t,rfl⟩:=r;cases(show T="int" from ty);exact⟨typeIs_int s i t,fun _ e=>nomatch e⟩
 |ref p=>
  cases r;rcases ty with⟨rfl,xs,hq⟩ |⟨rfl,o,hk,hc,hd⟩ |⟨rfl,hk⟩ |⟨rfl,S,n,hk⟩
  ·obtain⟨its,_,pl,_⟩:=I.list hq
   refine⟨pl.isList.typeIs,fun a e=>?_⟩;cases e;obtain⟨o,n,e,c,hd,_⟩:=pl;exact⟨o,e,hd⟩
  ·refine⟨⟨o,I.kIn p o hk,hc⟩,fun a e=>?_⟩
   cases e;exact⟨o,I.kIn _ o hk,hd⟩
  ·have z:∃o,s.heap.get? p=some o/\o.ExactDict:=by
    rcases hk with⟨kvs,hk⟩ |⟨kvs,hk⟩
    ·obtain⟨_,_,_,_,o,_,_,e,ex,_⟩:=I.hok p _ hk
     exact⟨o,e,ex⟩
    ·obtain⟨_,_,_,_,o,_,_,e,ex,_⟩:=I.hok p _ hk
     exact⟨o,e,ex⟩
   obtain⟨o,e,ex⟩:=z;refine⟨⟨o,e,ex.1⟩,fun a e2=>?_⟩;cases e2;exact⟨o,e,ex.2.1⟩
  ·obtain⟨o,_,_,_,e,ex,_⟩:=I.hok p _ hk
   refine⟨⟨o,e,ex.1⟩,fun a e2=>?_⟩;cases e2;exact⟨o,e,ex.2.1⟩
 |_=>exact kE ty
noncomputable def tBM0(K:af)(T:String)(r:V->List V->Hp->VK->Prop)(to:TE):TE:=fun σ H Q=>to σ H fun x H1=>tyV K T x H1/\r x [] H1 Q
noncomputable def tBM(K:af)(T:String)(r:V->List V->Hp->VK->Prop)(to:TE)(t:TA):TE:=fun σ H Q=>to σ H fun x H1=>tyV K T x H1/\t σ H1 fun xs H2=>r x xs H2 Q
variable {o e:Expr}{es:List Expr}{to:TE}{t:TA}{name:Str}{apos cpos:Pos}{T id:String}{r:V->List V->Hp->VK->Prop}
theorem pe_bm(pa:PlainAttrs T)(slot:Slot T name id)(hty:typeOf (.builtin id)=pure (.type "method_descriptor"))(hm:MtR X id r)(ho:PE X o to)(ha:PA X (e::es) t)
  (hbase:attributeBase o name X.env (eval o X.env)=eval o X.env:=by rfl)
  (hfew:((backTo cpos (bP (e::es) X.env)).all (fun x=> !x.1)&&(backToKw cpos (keywordEach [] X.env)).all (fun x=>x.1.isSome)
   &&decide ((e::es).length+([]:List Keyword).length+(if([]:List Keyword).isEmpty then 0 else 1)<30))=true:=by rfl)
  (hline:(apos.endLine==cpos.line)=true:=by rfl) (hs:bP (e::es) X.env=(false,eval e X.env)::bP es X.env:=by rfl) (hplain:(backTo cpos (bP es X.env)).any (·.1)=false:=by rfl):
  PE X (.Call (.Attribute o name apos) (e::es) [] cpos) (tBM X.K T r to t):=by
 intro pins s σ H Q I h;refine wpAny_Call_method_late hbase hfew hline rfl (thn (ho pins s σ H _ I h) fun v s1 ⟨x,H1,I1,r1,ty,q1⟩=>?_);obtain⟨h1,h2⟩:=tyV_is I1 r1 ty;refine⟨T,id,pa,slot,hty,h1,h2,?_⟩;have hA:=ha cpos pins s1 σ H1 _ I1 q1;rw[hs]at hA⊢;refine Calls.callWith_builtin (by show(false||(backTo cpos (bP es X.env)).any (·.1))=false;rw[hplain]<;>rfl) (Calls.evalArgs_plain ?_);exact thn hA fun us s2 ⟨vs,H2,I2,r2,q2⟩=>hm pins s2 σ H2 x vs v us Q I2 r1 r2 q2
end
noncomputable def MtM(X:Cx)(id:String)(r:V->List V->Hp->VK->Prop):Prop:=
 ∀(pins:List (Addr×Obj))(s:Shared)(σ:St)(H:Hp)(x:V)(xs:List V)(v:Value)(us:List Value)(Q:VK),Inv X pins σ H s->RelV x v->bO xs us->r x xs H Q->
  wpAny (model X.prog X.w) X.A (call (.builtin id) (v::us)) (EP X pins σ Q) X.xe s
theorem bO.one{x:V}{us:List Value}(h:bO [x] us):∃u,us=[u]/\RelV x u:=by
 cases h with
 |cons r k=>cases k with
  |nil=>exact⟨_,rfl,r⟩
theorem bO.two{x y:V}{us:List Value}(h:bO [x,y] us):∃u v,us=[u,v]/\RelV x u/\RelV y v:=by
 cases h with
 |cons r k=>
  obtain⟨v,e,q⟩:=bO.one k;exact⟨_,v,by rw[e],r,q⟩
theorem bO.zero:∀{us:List Value},bO [] us->us=[]
 |_,.nil=>rfl
theorem bO.dropLast{xs:List V}{us:List Value}(h:bO xs us):bO xs.dropLast us.dropLast:=by
 induction h with
 |nil=>exact .nil
 |cons r t ih=>
  cases t with
  |nil=>exact .nil
  |cons q t'=>exact .cons r ih
theorem bO.eraseIdx:∀{xs:List V}{us:List Value}(i:Nat),bO xs us->bO (xs.eraseIdx i) (us.eraseIdx i)
 |_,_,_,.nil=>.nil
 |_,_,0,.cons _ t=>t
 |_,_,i+1,.cons r t=>.cons r (bO.eraseIdx i t)
theorem BB{α:Type}(l:List α):l.eraseIdx (l.length-1)=l.dropLast:=by
 induction l with
 |nil=>rfl
 |cons a r ih=>
  cases r with
  |nil=>rfl
  |cons b r=>
   have e:(a::b::r).length-1=((b::r).length-1)+1:=by
    have h1:(a::b::r).length=r.length+2:=rfl;have h2:(b::r).length=r.length+1:=rfl;omega
   rw[e,List.eraseIdx_cons_succ,ih];all_goals rfl
theorem vD{α:Type}:∀(l:List α)(i:Nat),(l.eraseIdx i).length<=l.length
 | [],_=>ax _
 |_::_,0=>d8 _
 |_::r,i+1=>Nat.succ_le_succ (vD r i)
section
variable {X:Cx}{pins:List (Addr×Obj)}{σ:St}{H:Hp}{s:Shared}{l b:Addr}{xs ys zs:List V}
theorem Inv.lset{its its':List Value}{n:Nat}{f:Array Value->Array Value}{t':Nat}(I:Inv X pins σ H s)(hH:H l=some (.lst xs))
  (e:s.heap.get? l=some {cls:=.type "list",data:=.seq its.toArray n}) (hf:f its.toArray=its'.toArray) (hv:bO ys its') (hz:ys.length<=sizeLine):
  Inv X pins σ (upd H l (.lst ys)) {s with heap:=s.heap.update l (aY f),toks:=t'}:=by
 have q:=EN e f;rw[hf]at q;refine I.write (x:=l) (e:=l) (by rw[hH];exact trivial) (.inl rfl) (fun b' u hb hu=>(aN s.heap (aY f) (cb hb)).trans hu) ⟨_,q⟩ ?_;exact⟨hz,its',_,hv,q⟩
theorem Inv.lnew{its:List Value}{t':Nat}(I:Inv X pins σ H s)(hv:bO ys its)(hz:ys.length<=sizeLine):
  Inv X pins σ (upd H s.heap.objs.size (.lst ys)) {s with heap:=s.heap.push {cls:=.type "list",data:=.seq its.toArray},toks:=t'}:=
 I.laid (fun _ _ q=>ah _ q) (ax _) ⟨hz,its,0,hv,au _ rfl⟩
theorem Inv.fresh(I:Inv X pins σ H s):H s.heap.objs.size=none:=I.hok.fresh (ax _)
theorem Inv.GZ(I:Inv X pins σ H s)(hH:H l=some (.lst xs)):xs.length<=sizeLine/\∃(its:List Value)(n:Nat),bO xs its/\xs.length=its.length/\s.heap.get? l=some {cls:=.type "list",data:=.seq its.toArray n}:=by
 obtain⟨z,its,n,r,e⟩:=I.hok l _ hH;exact⟨z,its,n,r,r.length,e⟩
end
section
variable {X:Cx}
noncomputable def xv:V->List V->Hp->VK->Prop:=fun x vs H Q=>∃l xs y,x=.ref l/\vs=[y]/\H l=some (.lst xs)/\xs.length<sizeLine/\Q .non (upd H l (.lst (xs++[y])))
theorem D1:MtM X "list.append" xv:=by
 intro pins s σ H x vs v us Q I rx rv h;obtain⟨l,xs,y,rfl,rfl,hH,hz,q⟩:=h;cases rx;obtain⟨u,rfl,ru⟩:=rv.one;obtain⟨z,its,n,r,hl,e⟩:=I.GZ hH;refine uZ F.slot_list_append ⟨_,e,rfl⟩ F.entry_list_append (F.args_list_append_2 _ _) (PySem.list_append l its.toArray n u (by rw[ay];omega)) ⟨e,?_⟩;refine⟨.non,_,I.lset (its':=its++[u]) hH e (by simp) (r.append (.cons ru .nil)) ?_,rfl,q⟩;rw[cC,nP];omega
noncomputable def rPop:V->List V->Hp->VK->Prop:=fun x vs H Q=>∃l xs y,x=.ref l/\vs=[]/\H l=some (.lst xs)/\xs[xs.length-1]? =some y/\Q y (upd H l (.lst xs.dropLast))
theorem mt_pop:MtM X "list.pop" rPop:=by
 intro pins s σ H x vs v us Q I rx rv h;obtain⟨l,xs,y,rfl,rfl,hH,hy,q⟩:=h;cases rx;have hus:=rv.zero;subst hus;obtain⟨z,its,n,r,hl,e⟩:=I.GZ hH;obtain⟨u,hu,ru⟩:=r.get hy;have hy':its.toArray[its.toArray.size-1]? =some u:=by
  show its.toArray[its.length-1]? =some u;rw[<-bA,<-hl];exact hu
 refine uZ F.slot_list_pop ⟨_,e,rfl⟩ F.entry_list_pop (F.args_list_pop_1 _) (MeetsSeq.list_pop_last l its.toArray n u hy' (by rw[ay];omega)) ⟨e,?_⟩;refine⟨y,_,I.lset (its':=its.dropLast) hH e ?_ r.dropLast ?_,ru,q⟩
 ·show its.toArray.eraseIdxIfInBounds (its.toArray.size-1)=its.dropLast.toArray
  rw[ay,uv,BB]
 ·rw[List.length_dropLast]
  omega
noncomputable def F3:V->List V->Hp->VK->Prop:=fun x vs H Q=>∃l xs i k y,x=.ref l/\vs=[.int i]/\H l=some (.lst xs)∧-(2^63)<=i/\i<2^63/\seqIndex? i xs.length=some k/\xs[k]? =some y/\Q y (upd H l (.lst (xs.eraseIdx k)))
theorem GR:MtM X "list.pop" F3:=by
 intro pins s σ H x vs v us Q I rx rv h;obtain⟨l,xs,i,k,y,rfl,rfl,hH,h1,h2,hk,hy,q⟩:=h;cases rx;obtain⟨u,rfl,ru⟩:=rv.one;obtain⟨t,rfl⟩:=ru;obtain⟨z,its,n,r,hl,e⟩:=I.GZ hH;obtain⟨w,hw,rw'⟩:=r.get hy;refine uZ F.slot_list_pop ⟨_,e,rfl⟩ F.entry_list_pop (F.args_list_pop_2 _ _)
  (MeetsSeq.list_pop_at l its.toArray n i t k w (fitsIndex_both h1 h2) (by rw[ay,<-hl];exact hk) (by rw[<-bA];exact hw) (by rw[ay];omega)) ⟨e,?_⟩
 refine⟨y,_,I.lset (its':=its.eraseIdx k) hH e ?_ (r.eraseIdx k) ?_,rw',q⟩
 ·show its.toArray.eraseIdxIfInBounds k=(its.eraseIdx k).toArray
  rw[uv]
 ·have :=vD xs k
  omega
noncomputable def rReverse:V->List V->Hp->VK->Prop:=fun x vs H Q=>∃l xs,x=.ref l/\vs=[]/\H l=some (.lst xs)/\Q .non (upd H l (.lst xs.reverse))
noncomputable def rClear:V->List V->Hp->VK->Prop:=fun x vs H Q=>∃l xs,x=.ref l/\vs=[]/\H l=some (.lst xs)/\Q .non (upd H l (.lst []))
noncomputable def rCat:R2:=fun x y H Q=>∃l b xs zs,x=.ref l/\y=.ref b/\H l=some (.lst xs)/\H b=some (.lst zs)/\xs.length+zs.length<=sizeLine/\∀p,H p=none->Q (.ref p) (upd H p (.lst (xs++zs)))
theorem op_cat:OpR X (fh .Add) rCat:=by
 intro pins s σ H x y v u Q I rx ry h;obtain⟨l,b,xs,zs,rfl,rfl,hH,hB,hz,q⟩:=h;cases rx;cases ry;obtain⟨z,its,n,r,hl,e⟩:=I.GZ hH;obtain⟨z2,its2,n2,r2,hl2,e2⟩:=I.GZ hB;refine PySem.P.add_list e e2 ?_ (by rw[ay,ay];omega);have ea:its.toArray++its2.toArray=(its++its2).toArray:=by simp
 rw[ea];exact⟨.ref _,_,I.lnew (t':=s.toks) (r.append r2) (by rw[cC];omega),rfl,q _ I.fresh⟩
noncomputable def rRep:R2:=fun x y H Q=>∃l k xs,x=.ref l/\y=.int k/\H l=some (.lst xs)∧-(2^63)<=k/\k<2^63/\xs.length*k.toNat<=sizeLine/\
 ∀p,H p=none->Q (.ref p) (upd H p (.lst (iX k.toNat xs).flatten))
end
section
variable {κ:Type}[DecidableEq κ]
noncomputable def eI(kvs:List (κ×V))(k:κ):Option V:=(kvs.find? fun kv=>decide (kv.1=k)).map (·.2)
noncomputable def putK(kvs:List (κ×V))(k:κ)(v:V):List (κ×V):=
 if(kvs.any fun kv=>decide (kv.1=k))=true then kvs.map (fun kv=>if kv.1=k then(kv.1,v)else kv)else kvs++[(k,v)]
theorem gK{p:κ×V}{r:List (κ×V)}{k:κ}(e:p.1=k):eI (p::r) k=some p.2:=by simp[eI,iJ,e]
theorem gL{p:κ×V}{r:List (κ×V)}{k:κ}(e:¬p.1=k):eI (p::r) k=eI r k:=by simp[eI,iJ,e]
theorem jA(k:κ):∀kvs:List (κ×V),(kvs.any fun kv=>decide (kv.1=k))=(eI kvs k).isSome
 | []=>rfl
 |p::r=>by
  rw[Az];by_cases e:p.1=k
  ·simp only[gK e,decide_eq_true e,Bool.true_or,iu]
  ·rw[gL e,decide_eq_false e,Bool.false_or];exact jA k r
theorem yM(k j:κ)(y:V):∀kvs:List (κ×V),eI (kvs.map fun kv=>if kv.1=k then(kv.1,y)else kv) j=(eI kvs j).map fun x=>if j=k then y else x
 | []=>rfl
 |p::r=>by
  have ih:=yM k j y r;rw[bp];by_cases h:p.1=k
  ·rw[if_pos h]
   by_cases e:p.1=j
   ·rw[gK (p:=(p.1,y)) e,gK e,ju,if_pos (e.symm.trans h)]
   ·rw[gL (p:=(p.1,y)) e,gL e,ih]
  ·rw[if_neg h]
   by_cases e:p.1=j
   ·rw[gK (p:=p) e,gK e,ju,if_neg (fun z=>h (e.trans z))]
   ·rw[gL (p:=p) e,gL e,ih]
theorem u7(k j:κ)(y:V):∀kvs:List (κ×V),eI kvs k=none->eI (kvs++[(k,y)]) j=if j=k then some y else eI kvs j
 | [],_=>by
  by_cases e:k=j
  ·rw[if_pos e.symm];exact gK (p:=(k,y)) e
  ·rw[if_neg (fun z=>e z.symm)];exact gL (p:=(k,y)) e
 |p::r,hn=>by
  rw[uB];have hk:¬p.1=k:=fun z=>by rw[gK z]at hn;cases hn
  rw[gL hk]at hn;have ih:=u7 k j y r hn;by_cases e:p.1=j
  ·rw[gK e,gK e,if_neg (fun z=>hk (e.trans z))]
  ·rw[gL e,gL e,ih]
theorem Fc(kvs:List (κ×V))(k j:κ)(y:V):eI (putK kvs k y) j=if j=k then some y else eI kvs j:=by
 unfold putK;by_cases a:(kvs.any fun kv=>decide (kv.1=k))=true
 ·rw[if_pos a,yM]
  rw[jA]at a;by_cases e:j=k
  ·obtain⟨x,hx⟩:=fq.mp a
   rw[if_pos e,e,hx,ju,if_pos rfl]
  ·rw[if_neg e]
   cases eI kvs j with
   |none=>rfl
   |some x=>rw[ju,if_neg e]
 ·rw[if_neg a]
  refine u7 k j y kvs ?_;rw[jA]at a;cases q:eI kvs k with
  |none=>rfl
  |some x=>rw[q]at a;exact(a rfl).elim
theorem qD(kvs:List (κ×V))(k:κ)(v:V):(putK kvs k v).length<=kvs.length+1:=by
 unfold putK;split
 ·rw[ai];omega
 ·rw[cC,bS,m7];omega
theorem F6{kvs:List (κ×V)}{k:κ}(v:V)(h:eI kvs k=none):putK kvs k v=kvs++[(k,v)]:=by
 unfold putK;rw[jA,h];exact if_neg (by decide)
theorem ui.Ef{o:Option V}{u:Option Value}(r:ui o u):o.isSome=u.isSome:=by
 cases o with
 |none=>cases u with
  |none=>rfl
  |some _=>exact(show False from r).elim
 |some _=>cases u with
  |none=>exact(show False from r).elim
  |some _=>rfl
end
theorem Hd{P:Program}{w:World}{k:Key}{u:Value}(r:RelV (kV k) u):(aZ P w).is k u=true:=by
 cases k with
 |inl i=>obtain⟨t,e⟩:=(show ∃t,u=eO i t from r);subst e;exact lX P w i t
 |inr x=>obtain⟨t,e⟩:=(show ∃t,u=iK x t from r);subst e;exact zv P w x t
theorem qf{P:Program}{w:World}:∀{ks:List Key}{us:List Value},bO (ks.map kV) us->ItemsAre (aZ P w) ks us
 | [],_,r=>by rw[mV]at r;cases r;exact .nil
 |k::ks,_,r=>by
  rw[bp]at r;cases r with
  |cons h t=>exact .cons (Hd h) (qf t)
noncomputable abbrev KT(H:Hp):List (List Key×V)->List (List Key×Addr×Value)->Prop:=Paired fun p q=>p.1=q.1/\H q.2.1=some (.tup (p.1.map kV))/\RelV p.2 q.2.2
theorem KT.val{H:Hp}{kvs:List (List Key×V)}{xs:List (List Key×Addr×Value)}(r:KT H kvs xs)(k:List Key):ui (eI kvs k) ((atKey xs k).map (·.2)):=by
 induction r with
 |nil=>exact True.intro
 | @cons p q ps qs h t ih=>
  obtain⟨h1,_,h2⟩:=h;by_cases e:p.1=k
  ·have e':q.1=k:=h1.symm.trans e
   have b:atKey (q::qs) k=some q.2:=by simp[atKey,iJ,e']
   rw[gK e,b];exact h2
  ·have e':¬q.1=k:=fun z=>e (h1.trans z)
   have b:atKey (q::qs) k=atKey qs k:=by simp[atKey,iJ,e']
   rw[gL e,b];exact ih
theorem KT.repl{H:Hp}{kvs:List (List Key×V)}{xs:List (List Key×Addr×Value)}(r:KT H kvs xs)(k:List Key){y:V}{u:Value}(ry:RelV y u):
  KT H (kvs.map fun kv=>if kv.1=k then(kv.1,y)else kv) (xs.map (putAt k u)):=by
 induction r with
 |nil=>exact .nil
 | @cons p q ps qs h t ih=>
  rw[bp,bp];refine .cons ?_ ih;obtain⟨h1,h2,h3⟩:=h;unfold putAt;by_cases e:p.1=k
  ·rw[if_pos e,if_pos (h1.symm.trans e)];exact⟨h1,h2,ry⟩
  ·rw[if_neg e,if_neg (fun z=>e (h1.trans z))];exact⟨h1,h2,h3⟩
theorem KT.put{H:Hp}{kvs:List (List Key×V)}{xs:List (List Key×Addr×Value)}(r:KT H kvs xs)(k:List Key){b:Addr}{y:V}{u:Value}(hb:H b=some (.tup (k.map kV)))(ry:RelV y u):
  KT H (putK kvs k y) (storedH xs k b u):=by
 have e:(kvs.any fun kv=>decide (kv.1=k))=(atKey xs k).isSome:=by
  rw[jA,(r.val k).Ef,Option.isSome_map]
 unfold putK storedH;rw[e];by_cases q:(atKey xs k).isSome=true
 ·rw[if_pos q,if_pos q];exact r.repl k ry
 ·rw[if_neg q,if_neg q];exact Paired.snoc r ⟨rfl,hb,ry⟩
theorem KT.keeps{H H':Hp}{kvs:List (List Key×V)}{xs:List (List Key×Addr×Value)}(r:KT H kvs xs)(ht:∀b ys,H b=some (.tup ys)->H' b=some (.tup ys)):KT H' kvs xs:=
 Paired.Bj r fun _ _ z=>⟨z.1,ht _ _ z.2.1,z.2.2⟩
section
variable {P:Program}{w:World}{H:Hp}{h:Heap}{a:Addr}
theorem rd_of{u:HO}(ok:HOk P w H h)(e:Rd H a u):dQ P w H h a u:=e.ok ok
theorem Bs{ks:List Key}(ok:HOk P w H h)(e:H a=some (.tup (ks.map kV))):(n9 (aZ P w)).is h ks a:=by
 obtain⟨_,its,r,o,h1,h2,n,h3⟩:=(show dQ P w H h a (.tup (ks.map kV))from ok a _ e);exact⟨o,its.toArray,n,h1,h2,h3,by simpa using qf r⟩
theorem dt_rd{kvs:List (List Key×V)}(ok:HOk P w H h)(e:Rd H a (.dT kvs)):kvs.length<=sizeLine/\(a==gA)=false/\
  ∃xs,KT H kvs xs/\h.DictOfH (n9 (aZ P w)) a xs:=by
 obtain⟨z,y,xs,r,o,es,ep,h1,h2,h3,h4,h5⟩:=(show dQ P w H h a (.dT kvs)from rd_of ok e);refine⟨z,y,xs,r,o,es,ep,h1,h2,h3,h4,fun x hx=>?_,h5⟩;have all:∀{l:List (List Key×V)}{m:List (List Key×Addr×Value)},KT H l m->∀x∈m,(n9 (aZ P w)).is h x.1 x.2.1:=by
  intro l m q
  induction q with
  |nil=>intro x hx;exact nomatch hx
  | @cons p q ps qs hq t ih=>
   intro x hx;rcases aB.mp hx with e|hx
   ·subst e
    exact Bs ok (by rw[<-hq.1];exact hq.2.1)
   ·exact ih x hx
 exact all r x hx
theorem HI{kvs:List (List Key×V)}(ok:HOk P w H h)(e:H a=some (.dT kvs)):kvs.length<=sizeLine/\(a==gA)=false/\
  ∃xs,KT H kvs xs/\h.DictOfH (n9 (aZ P w)) a xs:=dt_rd ok (.inl e)
end
section
variable {X:Cx}{pins:List (Addr×Obj)}{σ:St}{H:Hp}{s:Shared}{a:Addr}{y v:V}{u r:Value}{o:Option V}{A:Around}{E:Value->Shared->Prop}
theorem Inv.big(I:Inv X pins σ H s):gA<s.heap.objs.size:=by
 have h:bM<s.heap.objs.size:=(I.mod.glob.keeps I.bk).lt;exact fY (by decide) h
theorem d_write{h':Heap}{t':Nat}{ob:HO}(I:Inv X pins σ H s)(mu:Mut (H a))(hs:cO a s.heap h')(he:∃q,h'.get? a=some q)(new:dQ X.prog X.w (upd H a ob) h' a ob):
  Inv X pins σ (upd H a ob) {s with heap:=h',toks:=t'}:=
 I.write (x:=a) (e:=a) mu (.inl rfl) (fun b q hb z=>(hs.2 b hb).trans z) he new
end
theorem HJ{P:Program}{w:World}{H:Hp}(h:Heap)(hb:gA<h.objs.size):dQ P w H (h.push {cls:=.type "dict",data:=.dict #[]}) h.objs.size (.dT []):=
 ⟨a7 _,beq_eq_false_iff_ne.mpr (cb (aJ hb)),[],.nil,_,#[],0,au _ rfl,⟨rfl,rfl,rfl⟩,rfl,rfl,gJ⟩
noncomputable def tDNewK:TE:=fun _ H Q=>∀p,H p=none->Q (.ref p) (upd H p (.dK []))
noncomputable def Fn:TE:=fun _ H Q=>∀p,H p=none->Q (.ref p) (upd H p (.dT []))
section
variable {X:Cx}{pos:Pos}
theorem Gq:PE X (.Dict [] [] pos) Fn:=fun pins s σ H Q I h=>
 wpAny_Dict_empty ⟨.ref s.heap.objs.size,_,I.laid (a:=s.heap.objs.size) (o:=.dT []) (t':=s.toks) (fun _ _ q=>ah _ q) (ax _) (HJ s.heap I.big),rfl,h _ (I.hok.fresh (ax _))⟩
end
noncomputable def AN:List (TE×TE)->St->Hp->(List (V×V)->Hp->Prop)->Prop
 | [],_,H,Q=>Q [] H
 | (tk,tv)::r,σ,H,Q=>tk σ H fun x H1=>tv σ H1 fun y H2=>AN r σ H2 fun ps H3=>Q ((x,y)::ps) H3
noncomputable abbrev VV:List (V×V)->List (Value×Value)->Prop:=Paired fun p q=>RelV p.1 q.1/\RelV p.2 q.2
noncomputable def PPs(X:Cx)(pos:Pos)(keys:List (Option Expr))(values:List Expr)(trs:List (TE×TE)):Prop:=
 ∀(pins:List (Addr×Obj))(s:Shared)(σ:St)(H:Hp)(Q:List (V×V)->Hp->Prop),Inv X pins σ H s->AN trs σ H Q->
  wpAny (model X.prog X.w) X.A (evalPairs (pairTrees keys values X.env pos)) (fun vs s'=>∃ps H',Inv X pins σ H' s'/\VV ps vs/\Q ps H') X.xe s
theorem pps_nil{X:Cx}{pos:Pos}:PPs X pos [] [] []:=fun pins s σ H Q I h=>pairTrees_nil_walk ⟨[],H,I,.nil,h⟩
theorem Gd{X:Cx}{pos:Pos}{k v:Expr}{ks:List (Option Expr)}{vs:List Expr}{tk tv:TE}{trs:List (TE×TE)}(hk:PE X k tk)(hv:PE X v tv)(hr:PPs X pos ks vs trs):
  PPs X pos (some k::ks) (v::vs) ((tk,tv)::trs):=fun pins s σ H Q I h=>
 pairTrees_cons_walk (thn (hk pins s σ H _ I h) fun u s1 ⟨x,H1,I1,rx,q1⟩=>thn (hv pins s1 σ H1 _ I1 q1) fun w2 s2 ⟨y,H2,I2,ry,q2⟩=>
  thn (hr pins s2 σ H2 _ I2 q2) fun ws s3 ⟨ps,H3,I3,rel,q3⟩=>⟨(x,y)::ps,H3,I3,.cons ⟨rx,ry⟩ rel,q3⟩)
noncomputable def mergeK(kvs more:List (Key×V)):List (Key×V):=more.foldl (fun acc kv=>putK acc kv.1 kv.2) kvs
noncomputable def tDisp(trs:List (TE×TE)):TE:=fun σ H Q=>∀p,H p=none->AN trs σ (upd H p (.dK [])) fun ps H2=>H2 p=some (.dK [])/\∃kvs:List (Key×V),ps=kvs.map (fun kv=>(kV kv.1,kv.2))/\kvs.length<=15/\Q (.ref p) (upd H2 p (.dK (mergeK [] kvs)))
end L2
namespace Att
open PySem PySem.W PySem.Calls PyProof.Rows
theorem qZ{P:Params}{h:Heap}:∀(ns:List Int)(vs:List Value),WellAll P h vs (ns.map WData.int)->cf vs ns:=by
 intro ns
 induction ns with
 |nil=>
  intro vs w;rw[mV]at w;cases w;exact .nil
 |cons n ns ih=>
  intro vs w;rw[bp]at w;cases w with
  |cons a b=>
   cases a;exact .cons _ _ (ih _ b)
theorem DE{l:OpenLaw}{n:Nat}(hn:l.most=some n){P:Params}{h:Heap}{args:List WData}{vals:List Value}
  (hpre:l.row.toRowW.claim.pre args=true)(hwl:WellAll P h vals args):
  ∃a vs ns,vals=[aV a]/\args=[WData.list (ns.map WData.int)]/\h.get? a=some {cls:=.type "list",data:=.seq vs.toArray}/\cf vs ns/\ns.length<=n:=by
 have hsh:WShape.hasAll [] args [.list .int]=true:=(pre_splitW hpre).1;have hc:l.pre.holds [] {args:=args}=true:=(pre_splitW hpre).2;obtain⟨d,r,rfl,h1,h2⟩:=hasAllW_cons hsh;obtain rfl:=hasAllW_nil h2;obtain⟨xs,rfl,h3⟩:=hasW_list h1;obtain⟨ns,rfl⟩:=items_int h3;have hlen:ns.length<=n:=by
  unfold OpenLaw.pre at hc;have h4:(WTm.not (.lt (.lit (.int (n:Int))) (.len (.arg 0)))).holds [] {args:=[.list (ns.map .int)]}=true:=by
   have h4:=(holds_andW hc).1;rw[hn]at h4;exact h4
  have h5:=condW_of h4 (w_not (w_lt w_lit (w_len_list (w_arg rfl))));rw[ai]at h5;refine hO fun q=>?_;have q':(n:Int)<((ns.length:Nat):Int):=by omega
  first
   | (rw[decide_eq_true q']at h5;exact absurd h5 (by decide))
   | (simp at h5;omega)
 cases hwl with
 |cons w1 w2=>
  cases w2;cases w1 with
  |list ho hall=>exact⟨_,_,ns,rfl,rfl,ho,qZ ns _ hall,hlen⟩
theorem DI(l:OpenLaw)(args:List WData):l.row.toRowW.claim.post args (.bool true) args=true:=
 postW_of (r:=l.row.toRowW) (X:=(true==true))
  (show WShape.has [] (.bool true) .bool=true by first |rfl|decide|simp[WShape.has,WShape.arms,WShape.armsAll])
  (show(WTm.eq .res (.lit (.bool true))).value [] {args:=args,res:=some (.bool true),after:=args}=some (.bool (true==true))from w_eq_bool (w_res rfl) w_lit) rfl
theorem Ab{l:OpenLaw}{n:Nat}{q:Program}{loose:List Str}{XP:(Str->Option Value)->Heap->Prop}{YP:World->Heap->Prop}{d:DefRec}
  (hn:l.most=some n)(hdf:d.params.defaults=[])
  (call:∀(w:World)(s₀ s₁:Shared)(mg mb:Str->Option Value)(fa:Addr)(o:Obj)(pm cd doc:Value)(a:Addr)(vs:List Value)(ns:List Int),
   Ground q loose [] XP w s₀ mg mb s₁.heap->YP w s₁.heap->
   s₁.heap.get? fa=some o->o.data=.func (docDef d.name d.params d.body d.scope pm cd doc)->s₁.heap.CodeRec cd d.name->mg d.name=some (.ref fa)->
   s₁.heap.get? a=some {cls:=.type "list",data:=.seq vs.toArray}->cf vs ns->ns.length<=n->s₁.gens= #[]->
   gT (model l.prog w) Dh (.call (.ref fa) ⟨[.ref a],[]⟩) (fun r s'=>r=.ok (.ret (.bool true))/\OldK s₁.heap s'.heap/\s'.os=s₁.os/\mX s'.gens) s₁):
  WalkO q loose XP YP l.row.toRowW d [] (fun f vs=>PySem.call f vs):=by
 intro w s₀ s₁ mg mb G Y fa o pm cd doc dV kV ho hd hcd hD hmg hg args vals as hpre hlay hrd hwl hlo;obtain rfl:dV=.none:=Dflts.none hD hdf;obtain rfl:kV=.none:=Dflts.noKw hD;obtain⟨a,vs,ns,rfl,rfl,hobj,hints,hlen⟩:=DE hn hpre hwl;refine enter_call (lC (call w s₀ s₁ mg mb fa o pm cd doc a vs ns G Y ho (fd_plain hd) hcd hmg hobj hints hlen hg) fun r s' hq=>?_);obtain⟨rfl,h2,h3,h4⟩:=hq;exact⟨.inl ⟨.bool true,.bool true,[],rfl,fun _=>rfl,.bool true,DI l _,fun _=>⟨jz,fun _ hm=>(nomatch hm)⟩⟩,h2,h3,h4⟩
end Att
namespace L2
open PySem PySem.Spec PyProof.Rows
theorem pR:∀{vs:List Value}{ns:List Int},cf vs ns->bO (ns.map V.int) vs
 |_,_,.nil=>.nil
 |_,_,.cons n t h=>.cons ⟨t,rfl⟩ (pR h)
noncomputable abbrev KOf{K:af}{h:Heap}(_:K.In h):af:=K
noncomputable def bW(s:Stmt):Arguments:=match s with
 |.FunctionDef _ a _ _ _ _ _ _ _ _=>a
 |_=>{posonlyargs:=[],args:=[],vararg:=none,kwonlyargs:=[],kw_defaults:=[],kwarg:=none,defaults:=[]}
noncomputable def bw(s:Stmt):List Stmt:=match s with
 |.FunctionDef _ _ b _ _ _ _ _ _ _=>b
 |_=>[]
noncomputable def aU(s:Stmt):Scope:=match s with
 |.FunctionDef _ _ _ _ _ _ sc _ _ _=>sc
 |_=>{kind:=.function,names:=[],isGenerator:=false,isCoroutine:=false}
noncomputable abbrev CX0:CXT:=fun _ _ _ _ _ _=>False
noncomputable abbrev E0:XK:=fun _ _ _=>False
structure Fun(K:af)(x qual:Str)(st:Stmt)(f:Addr)(fd:gH):Prop where
 ex:∃(oc:Value)(od:Option Addr)(kV doc pm:Value)(an:Option Addr)(cdv ct:Value)(osl:Array (Option Value)),
  fd=aQ x qual (bW st) (bw st) (aU st) .none kV doc pm an cdv ct/\K.lookup f=some ⟨oc,od,.func fd,osl⟩/\fB K cdv qual=true
 kp:cE K (.ref f)=true
section
variable {P:Program}{w:World}{K:af}{mg:Str->Option Value}{base:Heap}
theorem Fun.binds{x qual:Str}{st:Stmt}{f:Addr}{fd:gH}{ps:List Str}(F:Fun K x qual st f fd)
  (h:∀(kV doc pm:Value)(an:Option Addr)(cdv ct:Value)(us:List Value),us.length=ps.length->oh (aQ x qual (bW st) (bw st) (aU st) .none kV doc pm an cdv ct) ⟨us,[]⟩=pure (ps.zip us)):Binds K fd ps []:=by
 obtain⟨oc,od,kV,doc,pm,an,cdv,ct,osl,rfl,lk,hcd⟩:=F.ex;exact .all (h kV doc pm an cdv ct)
theorem Bx{x qual:Str}{st:Stmt}{f:Addr}{oc:Value}{od an:Option Addr}{osl:Array (Option Value)}{kV doc pm cdv ct:Value}(l:K.lookup f=some ⟨oc,od,.func (aQ x qual (bW st) (bw st) (aU st) .none kV doc pm an cdv ct),osl⟩)
  (c:fB K cdv qual=true)(k:cE K (.ref f)=true):Fun K x qual st f (aQ x qual (bW st) (bw st) (aU st) .none kV doc pm an cdv ct):=⟨⟨oc,od,kV,doc,pm,an,cdv,ct,osl,rfl,l,c⟩,k⟩
end
noncomputable def aS(H H':Hp):Prop:=∀b o,H b=some o->H' b=some o
theorem aS.refl(H:Hp):aS H H:=fun _ _ h=>h
theorem aS.trans{H H1 H2:Hp}(a:aS H H1)(b:aS H1 H2):aS H H2:=fun c o h=>b c o (a c o h)
theorem aS.free{H H':Hp}(e:aS H H'){l:Addr}(h:H' l=Option.none):H l=Option.none:=by
 cases q:H l with
 |none=>rfl
 |some o=>
  rw[e l o q]at h;cases h
theorem aS.seq{K:af}{H H':Hp}{a:Addr}{xs:List V}(e:aS H H')(h:SqL K H a xs):SqL K H' a xs:=by
 rcases h with(h|⟨o,h⟩) |h
 ·exact .inl (.inl (e _ _ h))
 ·exact .inl (.inr ⟨o,e _ _ h⟩)
 ·exact .inr h
section
variable {κ:Type}[DecidableEq κ]
theorem yL{kvs:List (κ×V)}{k:κ}(h:eI kvs k=none):¬k∈kvs.map (·.1):=by
 intro m;obtain⟨p,hp,e⟩:=ao.mp m;have q:(kvs.any fun kv=>decide (kv.1=k))=true:=cw.mpr ⟨p,hp,decide_eq_true e⟩;rw[jA,h]at q;exact absurd q (by simp)
theorem valV_in{kvs:List (κ×V)}{k:κ}{v:V}(h:eI kvs k=some v):k∈kvs.map (·.1):=by
 have q:(kvs.any fun kv=>decide (kv.1=k))=true:=by
  rw[jA,h];all_goals rfl
 obtain⟨p,hp,e⟩:=cw.mp q;exact ao.mpr ⟨p,hp,of_decide_eq_true e⟩
theorem Cq:∀{l:List κ}{k:κ},l.Nodup->¬k∈l->(l++[k]).Nodup
 | [],k,_,_=>by simp
 |a::r,k,h,hk=>by
  obtain⟨h1,h2⟩:=bU.mp h;show(a::(r++[k])).Nodup;refine bU.mpr ⟨fun m=>?_,Cq h2 fun m=>hk (aB.mpr (Or.inr m))⟩;rcases bF.mp m with q|q
  ·exact h1 q
  ·exact hk (aB.mpr (Or.inl (aC.mp q).symm))
theorem nd_putK{kvs:List (κ×V)}{k:κ}(v:V)(hn:(kvs.map (·.1)).Nodup)(h:eI kvs k=none):((putK kvs k v).map (·.1)).Nodup:=by
 rw[F6 v h,cH];exact Cq hn (yL h)
end
noncomputable def fK(cells:List (Str×Addr)):List (Str×d5)->List (Str×Addr)->List (Str×Addr)
 | [],acc=>acc
 | (n,k)::r,acc=>fK cells r (if k=.free then(n,(cells.lookup n).getD 0)::acc else acc)
theorem nZ{env:Env}{f:Str×d5->List (Str×Addr)->Sem (ForInStep (List (Str×Addr)))}
  (hf:∀n k a c,k=.free->env.cells.lookup n=some c->f (n,k) a=pure (.yield ((n,c)::a)))(hg:∀n k a,k≠.free->f (n,k) a=pure (.yield a)):
  ∀(names:List (Str×d5))(acc:List (Str×Addr)),(∀y∈names,y.2=.free->∃c,env.cells.lookup y.1=some c)->forIn names acc f=(pure (fK env.cells names acc):Sem _)
 | [],acc,_=>rfl
 | (n,k)::r,acc,h=>by
  rw[List.forIn_cons];by_cases e:k=.free
  ·obtain⟨c,hc⟩:=h (n,k) aI e
   rw[hf n k acc c e hc];show forIn r ((n,c)::acc) f=_;rw[nZ hf hg r _ fun y hy=>h y (aH _ hy)];simp[fK,e,hc]
  ·rw[hg n k acc e]
   show forIn r acc f=_;rw[nZ hf hg r _ fun y hy=>h y (aH _ hy)];simp[fK,e]
theorem uS{scope:Scope}{env:Env}(h:∀y∈scope.names,y.2=.free->∃c,env.cells.lookup y.1=some c):EJ scope env=pure (fK env.cells scope.names []):=by
 have q:=nZ (env:=env) (f:=fun x cs=>match x with | (name,kind)=>if(kind==cj)=true then(do let a<-cellOf env name;pure (gV ((name,a)::cs)))else pure (gV cs))
  (fun n k a c e hc=>by
   subst e;simp only[cellOf,hc];rfl) (fun n k a e=>by
   have e':(k==cj)=false:=by simpa using e
   simp only[e',aE,if_false]) scope.names [] h
 unfold EJ;show(forIn scope.names [] _>>=fun r=>pure r)=_;exact(congrArg (·>>=fun r=>pure r) q).trans rfl
theorem kg{cells:List (Str×Addr)}:∀(names:List (Str×d5))(acc:List (Str×Addr))(x:Str)(c:Addr),(fK cells names acc).lookup x=some c->
  ((x,cj)∈names/\c=(cells.lookup x).getD 0)\/acc.lookup x=some c
 | [],acc,x,c,h=>.inr h
 | (n,k)::r,acc,x,c,h=>by
  rcases kg r _ x c h with⟨q,e⟩ |q
  ·exact .inl ⟨aH _ q,e⟩
  ·by_cases e:k=.free
   ·rw[if_pos e,bo]at q
    cases hx:x==n with
    |true=>
     rw[hx]at q;have en:x=n:=by simpa using hx
     subst en;subst e;exact .inl ⟨aI,(aT q).symm⟩
    |false=>
     rw[hx]at q;exact .inr q
   ·rw[if_neg e]at q
    exact .inr q
theorem tN{cells:List (Str×Addr)}:∀(names:List (Str×d5))(acc:List (Str×Addr))(x:Str),(acc.lookup x).isSome=true->((fK cells names acc).lookup x).isSome=true
 | [],acc,x,h=>h
 | (n,k)::r,acc,x,h=>by
  refine tN r _ x ?_;split
  ·rw[bo]
   cases x==n<;>simp_all
  ·exact h
theorem n6{cells:List (Str×Addr)}:∀(names:List (Str×d5))(acc:List (Str×Addr))(x:Str),(x,cj)∈names->((fK cells names acc).lookup x).isSome=true
 | [],acc,x,h=>by simp at h
 | (n,k)::r,acc,x,h=>by
  rcases aB.mp h with q|q
  ·cases q
   refine tN r _ n ?_;simp[bo]
  ·exact n6 r _ x q
theorem fS:∀(names:List (Str×d5))(n:Nat)(acc:List (Str×Addr)),cM n names acc=cM n names []++acc
 | [],_,_=>rfl
 | (x,k)::r,n,acc=>by
  unfold cM;split
  ·rw[fS r (n+1) ((x,n)::acc),fS r (n+1) [(x,n)],iY]
   rfl
  ·exact fS r n acc
theorem ki:∀(names:List (Str×d5))(n:Nat)(acc:List (Str×Addr))(x:Str),(acc.lookup x).isSome=true->((cM n names acc).lookup x).isSome=true
 | [],_,_,_,h=>h
 | (y,k)::r,n,acc,x,h=>by
  unfold cM;split
  ·refine ki r _ _ x ?_
   rw[bo];cases x==y<;>simp_all
  ·exact ki r _ _ x h
theorem iV:∀(names:List (Str×d5))(n:Nat)(acc:List (Str×Addr))(x:Str),(x,cS)∈names->((cM n names acc).lookup x).isSome=true
 | [],_,_,_,h=>nomatch h
 | (y,k)::r,n,acc,x,h=>by
  unfold cM;rcases aB.mp h with q|q
  ·cases q
   rw[if_pos (by rfl)];refine ki r _ _ _ ?_;simp[bo]
  ·split
   ·exact iV r _ _ x q
   ·exact iV r _ _ x q
theorem kh:∀(names:List (Str×d5))(n:Nat)(acc:List (Str×Addr))(x:Str)(c:Addr),(x,c)∈cM n names acc->(x,cS)∈names\/(x,c)∈acc
 | [],_,_,_,_,h=>.inr h
 | (y,k)::r,n,acc,x,c,h=>by
  unfold cM at h;split at h
  ·rename_i hk
   rcases kh r _ _ x c h with q|q
   ·exact .inl (aH _ q)
   ·rcases aB.mp q with e|e
    ·cases e
     have :k=.cell:=by simpa using hk
     subst this;exact .inl aI
    ·exact .inr e
  ·rcases kh r _ _ x c h with q|q
   ·exact .inl (aH _ q)
   ·exact .inr q
theorem BC{M:Model}{A:Around}{E:Value->Shared->Prop}{s:Shared}{scope:Scope}{globals:Addr}{cl:List (Str×Addr)}{qual:Str}{func:Option Addr}{code:Value}{outer:Env}{builtins:Addr}{Q:Env->Shared->Prop}
  (h:Q (newEnv scope s.heap.objs.size globals (cM (s.heap.objs.size+1) scope.names cl) qual func code (some outer) builtins) {s with heap:=pushCells (s.heap.push {cls:=.type "dict",data:=.dict #[]}) scope.names}):
  wpAny M A (newFunctionEnv scope globals cl [] qual func code (some outer) builtins) Q E s:=by
 simp only[newFunctionEnv,iu,if_true];refine aa (wpAny_alloc ?_);refine aa (wpAny_layCells _ (fun name kind cells=>by cases hkc:kind==cS<;>simp[hkc]) _ _ _ _ ?_);rw[show({s with heap:=s.heap.push {cls:=.type "dict",data:=.dict #[]}}:Shared).heap.objs.size=s.heap.objs.size+1 from cg ..];rw[yG];exact aa (aj (aj h))
structure mM(X:Cx)(N':List Str)(sc:Scope):Prop where
 kind:sc.kind=.function
 cellk:∀y∈sc.names,y.2=.cell->sc.names.lookup y.1=some .cell
 own:∀y∈sc.names,y.2=.local->sc.names.lookup y.1=some .local
 free:∀y∈sc.names,y.2=.free->X.env.kindOf y.1=some .cell\/X.env.kindOf y.1=some .free
noncomputable def dU(X:Cx)(N':List Str)(sc:Scope)(C:Addr)(s₀:Shared)(H₀:Hp)(fp:List Addr):Cx:=
 {X with N:=N',s₀:=s₀,H₀:=H₀,env:=compEnvC sc (cM (C+1) sc.names (fK X.env.cells sc.names [])) C X.env,outer:=X.stack,stack:=X.stack,ex:=fp,fn:=fun x=>sc.names.any fun y=>decide (y.1=x)&&decide (y.2=.cell),pn:=[],xe:=fun _ _=>False}
theorem lT{env:Env}:∀{names:List (Str×d5)}{x:Str}{k:d5},
  (names.map fun(n,k)=>if(k==cj&&env.scope.kind== .function&&env.kindOf n==some .cell)then(n,cS)else(n,k)).lookup x=some k->
  names.lookup x=some k\/(names.lookup x=some .free/\k=.cell)
 | [],_,_,h=>by simp at h
 | (n,k)::r,x,k',h=>by
  have ih:= @lT env r x k';rw[bp]at h;change jx x ((if(k==cj&&env.scope.kind== .function&&env.kindOf n==some .cell)=true then(n,cS)else(n,k))::_)=_ at h;cases hx:x==n with
  |true=>
   by_cases hc:(k==cj&&env.scope.kind== .function&&env.kindOf n==some .cell)=true
   ·rw[if_pos hc]at h
    simp only[bo,hx]at h⊢;have :k=.free:=by
     have :=hc
     simp only[aL]at this;simpa using this.1.1
    subst this;exact .inr ⟨rfl,(aT h).symm⟩
   ·rw[if_neg hc]at h
    simp only[bo,hx]at h⊢;exact .inl h
  |false=>
   have e:jx x (r.map fun(n,k)=>if(k==cj&&env.scope.kind== .function&&env.kindOf n==some .cell)then(n,cS)else(n,k))=some k':=by
    split at h<;>simpa only[bo,hx]using h
   simp only[bo,hx];exact ih e
theorem gG{env:Env}:∀{names:List (Str×d5)}{x:Str},names.lookup x=some .free->
  (names.map fun(n,k)=>if(k==cj&&env.scope.kind== .function&&env.kindOf n==some .cell)then(n,cS)else(n,k)).lookup x=some .free\/
  (names.map fun(n,k)=>if(k==cj&&env.scope.kind== .function&&env.kindOf n==some .cell)then(n,cS)else(n,k)).lookup x=some .cell
 | [],_,h=>by simp at h
 | (n,k)::r,x,h=>by
  have ih:= @gG env r x;rw[bp];change jx x ((if(k==cj&&env.scope.kind== .function&&env.kindOf n==some .cell)=true then(n,cS)else(n,k))::_)=_\/jx x ((if(k==cj&&env.scope.kind== .function&&env.kindOf n==some .cell)=true then(n,cS)else(n,k))::_)=_;cases hx:x==n with
  |true=>
   simp only[bo,hx]at h;cases h;by_cases hc:(cj==cj&&env.scope.kind== .function&&env.kindOf n==some .cell)=true
   ·rw[if_pos hc];right;simp only[bo,hx]
   ·rw[if_neg hc];left;simp only[bo,hx]
  |false=>
   simp only[bo,hx]at h;split <;>simpa only[bo,hx]using ih h
theorem gd{env:Env}:∀{names:List (Str×d5)}{x:Str}{k:Option d5},names.lookup x=k->k≠some .free->
  (names.map fun(n,k)=>if(k==cj&&env.scope.kind== .function&&env.kindOf n==some .cell)then(n,cS)else(n,k)).lookup x=k
 | [],_,_,h,_=>by simpa using h
 | (n,k)::r,x,k',h,hf=>by
  have ih:= @gd env r x k';rw[bp];change jx x ((if(k==cj&&env.scope.kind== .function&&env.kindOf n==some .cell)=true then(n,cS)else(n,k))::_)=_;cases hx:x==n with
  |true=>
   simp only[bo,hx]at h;have hk:k≠.free:=fun e=>hf (by rw[<-h,e]);have hb:(k==cj)=false:=by simpa using hk
   rw[if_neg (by rw[hb];simp)];simp only[bo,hx];exact h
  |false=>
   simp only[bo,hx]at h;split <;>simpa only[bo,hx]using ih h hf
theorem vF{sc:Scope}{cl:List (Str×Addr)}{C:Addr}{env:Env}{x:Str}{k:d5}(h:(compEnvC sc cl C env).kindOf x=some k):sc.names.lookup x=some k\/(sc.names.lookup x=some .free/\k=.cell):=lT (env:=env) h
theorem BJ{prog:Program}{w:World}{A:Around}{R:Result->Shared->Prop}{s:Shared}{elt target iter:Expr}{ifs:List Expr}{scope:Scope}{pos:Pos}{it acc:Value}{env:Env}(I:Nat->Shared->Prop)
  (turn:∀n s,I n s->wpAny (model prog w) A (pyNext it) (fun r s₁=>match r with
   |none=>R (.ok .next) s₁
   |some v=>wpAny (model prog w) A (pK target it v) (fun _ s₁'=>wpAny (model prog w) A (assign target env v) (fun _ s₂=>
     wpAny (model prog w) A (forIn ifs true fun c r=>if r=true then do let ok<-isTrue c env (eval c env);pure (gV ok)else pure (gV r)) (fun ok s₃=>
      if ok=true then wpAny (model prog w) A (eval elt env) (fun x s₄=>
       wpAny (model prog w) A (call (.builtin "list.append") [acc,x]) (fun _ s₅=>∃m,m<n/\I m s₅) (fun _ _=>False) s₄) (fun _ _=>False) s₃
      else ∃m,m<n/\I m s₃) (fun _ _=>False) s₂) (fun _ _=>False) s₁') (fun _ _=>False) s₁) (fun _ _=>False) s)
  (n:Nat) (h:I n s):
  gT (model prog w) A (.compLoop (.ListComp elt [⟨target,iter,ifs,0⟩] scope pos) 0 it acc env) R s:=by
 refine codeAny_loop rfl I (fun n s hI=>?_) n h;show wpAny _ A ((compTurn (.ListComp elt [⟨target,iter,ifs,0⟩] scope pos) 0 it acc env).onRaise (fun x=>do lK x env;theTreesLotGoes x)) _ _ s;refine wpAny_noted ?_;rw[compTurn_list];refine aa (jZ (aa (fP (turn n s hI) (fun r s₁ h₁=>?_) fun _ _ h'=>h'.elim)));cases r with
 |none=>exact aj h₁
 |some v=>
  refine aa (fP h₁ (fun _ s₁' h₁'=>?_) fun _ _ h'=>h'.elim);refine aa (fP h₁' (fun _ s₂ h₂=>aa (fP h₂ (fun ok s₃ h₃=>?_) fun _ _ h'=>h'.elim)) fun _ _ h'=>h'.elim);cases ok with
  |false=>exact aj ⟨rfl,h₃⟩
  |true=>
   exact aa (aa (fP h₃ (fun x s₄ h₄=>aa (fP h₄ (fun _ s₅ h₅=>aj (aj ⟨rfl,h₅⟩)) fun _ _ h'=>h'.elim)) fun _ _ h'=>h'.elim))
noncomputable def PTs(X:Cx)(ifs:List Expr)(t:TT):Prop:=
 ∀(pins:List (Addr×Obj))(s:Shared)(σ:St)(H:Hp)(Q:Bool->Hp->Prop),Inv X pins σ H s->t σ H Q->
  wpAny (model X.prog X.w) X.A (forIn ifs true fun c r=>if r=true then do let ok<-isTrue c X.env (eval c X.env);pure (gV ok)else pure (gV r)) (TP X pins σ Q) X.xe s
noncomputable def tYes:TT:=fun _ H Q=>Q true H
theorem pts_nil{X:Cx}:PTs X [] tYes:=by
 intro pins s σ H Q I h;rw[yG];exact aj ⟨H,I,h⟩
theorem pts_one{X:Cx}{c:Expr}{t:TT}(h:PT X c t):PTs X [c] t:=by
 intro pins s σ H Q I hw;rw[List.forIn_cons];simp only[if_true];refine aa (aa (thn (h pins s σ H Q I hw) fun b s1 q=>?_));refine aj ?_;show wpAny _ _ (forIn ([]:List Expr) b _) _ _ s1;rw[yG];exact aj q
noncomputable def vc(wi:TI)(g:TG)(tc:TT)(te:TE)(mk:St->St):TE:=fun σ H Q=>wi σ H fun J H1=>∃W:Nat->Nat->St->List V->Hp->Prop,(∃m,W 0 m (mk σ) [] H1)/\
 ∀i m τ acc H2,W i m τ acc H2->(J.stop i H2/\∀l,H2 l=none->Q (.ref l) (upd H2 l (.lst acc)))\/(J.go i H2/\∃N:St->List V->Hp->Prop,(∀τ' acc' H',N τ' acc' H'->∃m',m'<m/\W (i+1) m' τ' acc' H')/\
  ∀x H3,J.yld i H2 x H3->g x τ H3 fun τ4 H4=>tc τ4 H4 fun b H5=>if b=true then te τ4 H5 fun v H6=>acc.length<sizeLine/\N τ4 (acc++[v]) H6 else N τ4 acc H5)
theorem Inv.track{X:Cx}{pins:List (Addr×Obj)}{σ:St}{H:Hp}{s:Shared}{a:Addr}{o:HO}(I:Inv X pins σ H s)(hf:pG X pins H a)(new:dQ X.prog X.w (upd H a o) s.heap a o):Inv X pins σ (upd H a o) s:=by
 obtain⟨h0,h1,h2,h3,h4,h5⟩:=hf;have :=I.step (g':=s.gens) (d':=s.drawn) (t':=s.toks) (h':=s.heap) (H':=upd H a o) (ch:=[a]) (fun b hb=>by
   have e:b=a:=by simpa using hb
   subst e;exact⟨h3,h1,h4,h5⟩)
  (fun b ob _ _ _ q _=>q) (fun b ob _ _ _ q _=>⟨ob.slots,q⟩) (fun b ob hb q n=>by rw[bh (fun z=>hb (by simp[z]))];exact n) (fun b ob _ q=>⟨ob,q⟩)
  (fun b xs q=>by rw[bh (ck q h0)];exact q) (fun b ob u q=>by rw[bh (ck q h0)];exact q) (fun b ps q=>⟨#[],by rw[bh (ck q h0),q];simp⟩)
  (fun m hm=>hm) (fun b u q=>by
   by_cases hb:b=a
   ·subst hb;rw[aw]at q;cases q;exact new
   ·rw[bh hb]at q
    exact(I.hok b u q).mY (fun c v _ e=>e) (fun c e=>by rw[bh (ck e h0)];exact e) fun c xs e=>by rw[bh (ck e h0)];exact e) I.bare
 exact this
theorem BU{X:Cx}{pins:List (Addr×Obj)}{σ:St}{H:Hp}{s:Shared}{a:Addr}{its:List Value}{n:Nat}{u:Value}{Q:Value->Shared->Prop}{E:Value->Shared->Prop}(I:Inv X pins σ H s)(hf:pG X pins H a)
  (e:s.heap.get? a=some {cls:=.type "list",data:=.seq its.toArray n}) (hz:its.length<sizeLine)
  (h:∀h' n',Inv X pins σ H {s with heap:=h'}->h'.get? a=some {cls:=.type "list",data:=.seq (its++[u]).toArray n'}->(∀b o,b≠a->s.heap.get? b=some o->h'.get? b=some o)->Q .none {s with heap:=h'}):
  wpAny (model X.prog X.w) X.A (call (.builtin "list.append") [.ref a,u]) Q E s:=by
 refine uZ F.slot_list_append ⟨_,e,rfl⟩ F.entry_list_append (F.args_list_append_2 _ _) (PySem.list_append a its.toArray n u (by rw[ay];omega)) ⟨e,?_⟩;have q:=EN e (·.push u);have eq:its.toArray.push u=(its++[u]).toArray:=by simp
 rw[eq]at q;have k:∀b o,b≠a->s.heap.get? b=some o->(s.heap.update a (aY (·.push u))).get? b=some o:=fun b o hb z=>(aN s.heap _ (cb hb)).trans z;obtain⟨h0,h1,h2,h3,h4,h5⟩:=hf;exact h _ _ (I.turned (t':=s.toks) k h0 h1 h3 h4 h5) q k
section
variable {X:Cx}{N':List Str}{sc:Scope}{elt tg iter:Expr}{ifs:List Expr}{pos:Pos}{wi:TI}{g:TG}{tc:TT}{te:TE}{mk:St->St}
noncomputable def MkOk(X:Cx)(N':List Str)(sc:Scope)(mk:St->St):Prop:=
 ∀σ:St,σ.length=X.N.length->(mk σ).length=N'.length/\∀(i:Nat)(x:Str)(v:V),N'[i]? =some x->(mk σ)[i]? =some (some v)->sc.names.lookup x=some .free/\∃j:Nat,X.N[j]? =some x/\σ[j]? =some (some v)
theorem vQ{pins:List (Addr×Obj)}{σ:St}{H:Hp}{s:Shared}{Q:VK}{use:Option (Value->Sem Unit)}{QQ:Value->Shared->Prop}(S:mM X N' sc)(hm:MkOk X N' sc mk)(hc:X.calm=true)
  (hi:PI X tg iter wi)
  (hb:∀C s₀ H₀ fp,(dU X N' sc C s₀ H₀ fp).Ok->PG (dU X N' sc C s₀ H₀ fp) tg g/\PTs (dU X N' sc C s₀ H₀ fp) ifs tc/\PE (dU X N' sc C s₀ H₀ fp) elt te)
  (hs:∀x,jo iter X.env x=pure x)(I:Inv X pins σ H s)(h:vc wi g tc te mk σ H Q)
  (fin:∀(l C:Addr)(H':Hp)(s':Shared)(m:Str->Option Value),Inv X pins σ H' s'->s'.heap.Ns C m->pG X pins H' C->(∃o,s'.heap.get? C=some o/\∀v,o.data≠.cell v)->Q (.ref l) H'->compPost (model X.prog X.w) X.A X.xe use QQ (.ref l) C (.ok .next) s'):
  wpAny (model X.prog X.w) X.A (comprehension (.ListComp elt [⟨tg,iter,ifs,0⟩] sc pos) sc X.env (firstIterPos [⟨tg,iter,ifs,0⟩] pos) (newList []) false (eval iter X.env) use) QQ X.xe s:=by
 have hcells:∀y∈sc.names,y.2=.free->∃c,X.env.cells.lookup y.1=some c:=fun y hy hf=>I.ok.has _ (S.free y hy hf);refine wpAny_comprehension_free (use:=use) rfl hs (uS hcells) S.kind S.own ?_;refine thn (hi pins s σ H _ I h) fun v s1 h1=>thn h1 fun itv s2 h2=>?_;obtain⟨it,fp,tn,J,H2,e,I2,T,st2,f2,W,⟨m0,w0⟩,turn⟩:=h2;subst e
 --the list
 refine bx ?_;have hl0:H2 s2.heap.objs.size=none:=I2.fresh;have fD:pG X pins H2 s2.heap.objs.size:=I2.xT (ax _) hl0;have eD3:(s2.heap.push {cls:=.type "list",dict:=none,data:=.seq ([]:List Value).toArray}).get? s2.heap.objs.size=some {cls:=.type "list",data:=.seq ([]:List Value).toArray 0}:=au _ rfl;have I3:Inv X pins σ H2 {s2 with heap:=s2.heap.push {cls:=.type "list",dict:=none,data:=.seq ([]:List Value).toArray}}:=I2.kept (t':=s2.toks) fun b o e=>ah _ e
 --the block's frame
 refine BC ?_;dsimp only;have szL:(s2.heap.push {cls:=.type "list",dict:=none,data:=.seq ([]:List Value).toArray}).objs.size=s2.heap.objs.size+1:=cg ..;have hDC:s2.heap.objs.size≠(s2.heap.push {cls:=.type "list",dict:=none,data:=.seq ([]:List Value).toArray}).objs.size:=by rw[szL];exact aJ (bT _)
 have k23:∀b o,s2.heap.get? b=some o->(s2.heap.push {cls:=.type "list",dict:=none,data:=.seq ([]:List Value).toArray}).get? b=some o:=fun b o e=>ah _ e;generalize hH3:s2.heap.push {cls:=.type "list",dict:=none,data:=.seq ([]:List Value).toArray}=P3 at I3 szL eD3 hDC k23⊢;generalize hD:s2.heap.objs.size=D0 at *;have hns4:(pushCells (P3.push {cls:=.type "dict",data:=.dict #[]}) sc.names).Ns P3.objs.size (fun _=>none):=(Heap.Ns.new P3 (.type "dict")).keeps (pushCells_keeps _ _);have keep4:∀b o,P3.get? b=some o->(pushCells (P3.push {cls:=.type "dict",data:=.dict #[]}) sc.names).get? b=some o:=fun b o e=>pushCells_keeps _ _ b o (ah _ e);have own4:=cellsFrom_ok sc.names (P3.push {cls:=.type "dict",data:=.dict #[]}) (P3.objs.size+1) [] ⟨fun _ _ hm=>(nomatch hm),jz⟩ (by rw[cg];exact ax _);rw[cg]at own4;generalize pushCells (P3.push {cls:=.type "dict",data:=.dict #[]}) sc.names=h4 at hns4 keep4 own4⊢
 --the context
 have fpl:∀b∈fp,b<D0:=fun b hb=>by
  obtain⟨o,e,_⟩:=T.obj _ _ st2 b hb;rw[<-hD];exact av e
 have hCb:D0<P3.objs.size:=by rw[szL];exact bT _
 have clo:∀x c,(fK X.env.cells sc.names []).lookup x=some c->X.env.cells.lookup x=some c/\(x,cj)∈sc.names:=fun x c e=>by
  rcases kg _ _ x c e with⟨q,e'⟩ |q
  ·obtain⟨c',hc'⟩:=hcells _ q rfl
   have hc'':X.env.cells.lookup x=some c':=hc';rw[hc'']at e'⊢;exact⟨by rw[e'];rfl,q⟩
  ·simp at q
 have clt:∀x c,(fK X.env.cells sc.names []).lookup x=some c->c<P3.objs.size:=fun x c e=>by
  obtain⟨v,o,ho,_⟩:=I3.cell x c (clo x c e).1;exact av ho
 have cel:∀x c,(cM (P3.objs.size+1) sc.names (fK X.env.cells sc.names [])).lookup x=some c->((x,c)∈cM (P3.objs.size+1) sc.names []/\P3.objs.size+1<=c/\h4.IsCell c none)\/(fK X.env.cells sc.names []).lookup x=some c:=fun x c e=>by
  rw[fS,qT]at e;cases ho:(cM (P3.objs.size+1) sc.names []).lookup x with
  |none=>
   rw[ho]at e;exact .inr e
  |some c'=>
   rw[ho]at e;cases e;have m:=bj ho;exact .inl ⟨m,(own4.empty x c m).2,(own4.empty x c m).1⟩
 have celf:∀x,sc.names.lookup x=some .free->(cM (P3.objs.size+1) sc.names (fK X.env.cells sc.names [])).lookup x=(fK X.env.cells sc.names []).lookup x:=fun x hf=>by
  rw[fS,qT];cases ho:(cM (P3.objs.size+1) sc.names []).lookup x with
  |none=>rfl
  |some c'=>
   rcases kh _ _ _ _ _ (bj ho)with q|q
   ·have :=S.cellk _ q rfl
    rw[hf]at this;cases this
   ·cases q
 have f3:∀b∈D0::fp,pG X pins H2 b/\b<P3.objs.size:=fun b hb=>by
  rcases aB.mp hb with z|z
  ·rw[z];exact⟨fD,hCb⟩
  ·exact⟨f2 b z,fY (fpl b z) hCb⟩
 have ok:(dU X N' sc P3.objs.size {s2 with heap:=P3} H2 (D0::fp)).Ok:=by
  refine⟨I.ok.mod,S.kind,I.ok.glob,I.ok.blt,ax _,fun x y c h1 h2=>?_,fun x hx=>?_,fun x c z=>?_,fun z=>I.ok.hd z,I.ok.frames,.inl rfl,fun b hb=>⟨?_,fun x c e=>?_⟩,I3.bs,ba I.ok.bsz I3.sz,fun b o e hb=>?_,fun b hb z=>?_,I3.stack,I3.wN⟩
  ·rcases cel x c h1 with⟨m1,l1,_⟩ |q1<;>rcases cel y c h2 with⟨m2,l2,_⟩ |q2
   ·exact PySem.name_of_addr own4.apart m1 m2
   ·exact absurd l1 (Nat.not_le.mpr (a9 (clt y c q2)))
   ·exact absurd l2 (Nat.not_le.mpr (a9 (clt x c q1)))
   ·exact I.ok.inj x y c (clo x c q1).1 (clo y c q2).1
  ·have q:sc.names.lookup x=some .free\/sc.names.lookup x=some .cell:=by
    rcases hx with hx|hx
    ·rcases vF hx with q|q
     ·exact .inr q
     ·exact .inl q.1
    ·rcases vF hx with q|q
     ·exact .inl q
     ·exact .inl q.1
   rcases q with q|q
   ·have h1:=fq.mp (n6 (cells:=X.env.cells) _ [] _ (bj q))
    show ∃c,(cM (P3.objs.size+1) sc.names (fK X.env.cells sc.names [])).lookup x=some c;rw[celf x q];exact h1
   ·exact fq.mp (iV _ _ _ _ (bj q))
  ·have z:(sc.names.any fun y=>decide (y.1=x)&&decide (y.2=cS))=true:=z
   obtain⟨y,hy,e⟩:=cw.mp z;rw[aL,decide_eq_true_eq,decide_eq_true_eq]at e;intro hc;rcases cel x c hc with⟨_,l1,_⟩ |q1
   ·show P3.objs.size<=c
    omega
   ·have hk:=S.cellk y hy e.2
    rw[e.1]at hk;rcases kg _ _ x c q1 with⟨q,_⟩ |q
    ·have h2:(cM (P3.objs.size+1) sc.names []).lookup x≠none:=fun h=>by
      have :=iV sc.names (P3.objs.size+1) [] x (bj hk)
      rw[h]at this;cases this
     have hc':(cM (P3.objs.size+1) sc.names (fK X.env.cells sc.names [])).lookup x=some c:=hc;rw[fS,qT]at hc';cases ho:(cM (P3.objs.size+1) sc.names []).lookup x with
     |none=>exact absurd ho h2
     |some c'=>
      rw[ho]at hc';cases hc';have :=(own4.empty x c (bj ho)).2;show P3.objs.size<=c;omega
    ·cases q
  ·exact aJ (f3 b hb).2
  ·rcases cel x c e with⟨_,l1,_⟩ |q1
   ·have :=(f3 b hb).2
    exact fun z=>by subst z;omega
   ·exact(f3 b hb).1.2.2.2.2.1 x c (clo x c q1).1
  ·rcases(f3 b hb).1.2.2.2.1 with z|z
   ·exact I.ok.noex b o e z
   ·exact absurd (bc (av e) (ba I.ok.bsz z)) (dM _)
  ·rcases aB.mp (I2.AQ b z)with q|q
   ·exact(f3 b hb).1.2.1 q
   ·exact(f3 b hb).1.2.2.1 q
 obtain⟨pg,pt,pe⟩:=hb _ _ _ _ ok;have I4:Inv (dU X N' sc P3.objs.size {s2 with heap:=P3} H2 (D0::fp)) [] (mk σ) H2 {s2 with heap:=h4}:=by
  obtain⟨ml,hmk⟩:=hm σ I.len;have locC:∀x c v,X.env.cells.lookup x=some c->P3.IsCell c v->h4.IsCell c v:=fun x c v e ⟨o,ho,hd⟩=>⟨o,keep4 c o ho,hd⟩;refine⟨ok,rfl,I2.bare,Un.kept keep4,⟨_,hns4,fun i x v e1 e2 e3=>?_⟩,fun x c e=>?_,I3.hok.fresh (ax _),fun x c e=>?_,fun p hp=>absurd (show p∈([]:List (Addr×Obj))from hp) (by simp),I3.hok.kept keep4,ml⟩
  ·obtain⟨hf,j,hj,hv⟩:=hmk i x v e1 e2
   obtain⟨m,hn,hl⟩:=I3.loc;have kx:=S.free (x,.free) (bj hf) rfl;obtain⟨u,r,l⟩:=hl j x v hj hv (by
    rcases kx with q|q
    ·exact .inr (.inl q)
    ·exact .inr (.inr q))
   refine⟨u,r,.inr ⟨?_,?_⟩⟩
   ·rcases gG (env:=X.env) hf with q|q
    ·exact .inr q
    ·exact .inl q
   ·rcases l with⟨q,_⟩ |⟨_,c,hc1,hc2⟩
    ·have kx':X.env.kindOf x=some .cell\/X.env.kindOf x=some .free:=kx
     rw[q]at kx';rcases kx' with z|z<;>cases z
    ·obtain⟨c',q⟩:=fq.mp (n6 (cells:=X.env.cells) _ [] _ (bj hf))
     have :=(clo x c' q).1
     rw[hc1]at this;cases this;exact⟨c,by show(cM (P3.objs.size+1) sc.names (fK X.env.cells sc.names [])).lookup x=some c;rw[celf x hf];exact q,locC x c _ hc1 hc2⟩
  ·rcases cel x c e with⟨_,_,hv⟩ |q1
   ·exact⟨none,hv⟩
   ·obtain⟨v,hv⟩:=I3.cell x c (clo x c q1).1
    exact⟨v,locC x c v (clo x c q1).1 hv⟩
  ·rcases cel x c e with⟨_,l1,_⟩ |q1
   ·exact I3.hok.fresh (by show P3.objs.size<=c;omega)
   ·exact I3.freeC x c (clo x c q1).1
 have st4:tn 0 h4:=T.keep _ _ _ st2 fun b hb o e=>keep4 b o (k23 b o e);have f4:∀{H':Hp}{b:Addr},b∈D0::fp->H' b=none->pG (dU X N' sc P3.objs.size {s2 with heap:=P3} H2 (D0::fp)) [] H' b:=fun{H' b} hb hn=>
  ⟨hn,(ok.exf b hb).1,ok.exfs b hb,.inl hb,(ok.exf b hb).2,fun p hp=>absurd (show p∈([]:List (Addr×Obj))from hp) (by simp)⟩
 have ofp:∀{b:Addr},b∈fp->b∈D0::fp:=fun hb=>aH _ hb;have nD:∀b∈fp,b≠D0:=fun b hb=>aJ (fpl b hb)
 --the loop
 have loop:gT (model X.prog X.w) X.A (.compLoop (.ListComp elt [⟨tg,iter,ifs,0⟩] sc pos) 0 (.ref it) (.ref D0) (compEnvC sc (cM (P3.objs.size+1) sc.names (fK X.env.cells sc.names [])) P3.objs.size X.env))
   (compPost (model X.prog X.w) X.A X.xe use QQ (.ref D0) P3.objs.size) {s2 with heap:=h4}:=by
  refine BJ (fun n s'=>∃i τ acc H' its k,Inv (dU X N' sc P3.objs.size {s2 with heap:=P3} H2 (D0::fp)) [] τ H' s'/\tn i s'.heap/\(∀b∈D0::fp,H' b=none)/\bO acc its/\acc.length<=sizeLine/\
    s'.heap.get? D0=some {cls:=.type "list",data:=.seq its.toArray k}/\W i n τ acc H') ?_ m0
   ⟨0,mk σ,[],_,[],0,I4,st4,fun b hb=>(f3 b hb).1.1,.nil,a7 _,keep4 _ _ eD3,w0⟩
  rintro n s5 ⟨i,τ,acc,H5,its,kk,I5,st5,fr5,va5,hz5,e5,w5⟩;have I5p:Inv (dU X N' sc P3.objs.size {s2 with heap:=P3} H2 (D0::fp)) ([]++i7 [D0] s5.heap) τ H5 s5:=by
   refine I5.pinned (fun b hb=>?_) (fun b hb=>?_)
   ·have z:b=D0:=by simpa using hb
    rw[z];exact f4 aI (fr5 D0 aI)
   ·have z:b=D0:=by simpa using hb
    rw[z];exact⟨_,e5,fun v z=>by cases z⟩
  obtain q|⟨go,NN,hN,step⟩:=turn i n τ acc H5 w5
  ·obtain⟨stop,q⟩:=q
   refine thn (T.done (dU X N' sc P3.objs.size {s2 with heap:=P3} H2 (D0::fp)) rfl rfl rfl hc i _ s5 τ H5 (fun _ _=>False) I5p (fun b hb=>?_) st5 stop) fun r s6 ⟨hr,I6p⟩=>?_
   ·obtain⟨g0,g1,g2,g3,g4,_⟩:=f4 (ofp hb) (fr5 b (ofp hb))
    refine⟨g0,g1,g2,g3,g4,fun p hp=>?_⟩;have hp':p∈i7 [D0] s5.heap:=by simpa[dU]using hp
    obtain⟨z,_⟩:=qd hp';have z':p.1=D0:=by simpa using z
    rw[z'];exact(nD b hb).symm
   subst hr;have I6:=I6p.ix;have e6:s6.heap.get? D0=some {cls:=.type "list",data:=.seq its.toArray kk}:=(I6p.pin (D0,_) (a8 _ (a8 _ (iQ (by simp) e5)))).1
   --back in the context around
   have un:Un (frs X.stack) fp H2 H5 s2.heap s6.heap:=by
    have u:=I6.base;have nb:∀b o,s2.heap.get? b=some o->b∉fp->b∉D0::fp:=fun b o e hb z=>by
     rcases aB.mp z with z|z
     ·exact absurd (av e) (by rw[z,hD];exact dM _)
     ·exact hb z
    exact⟨fun b o e n hb hx=>u.keep b o (k23 b o e) n hb (nb b o e hx),fun b o e n hb hx=>u.slot b o (k23 b o e) n hb (nb b o e hx),fun b o e n hx=>u.free b o (k23 b o e) n (nb b o e hx),fun b o e hx=>u.there b o (k23 b o e) (nb b o e hx),u.tups,u.frzs,u.tbls⟩
   have I7:Inv X pins σ H5 s6:=by
    obtain⟨hh,g6,d6,t6,os6⟩:=s6;have eo:os6=s2.os:=I6.os;subst eo;exact I2.call (h':=hh) (g':=g6) (d':=d6) (t':=t6) (ch:=fp) un I6.hok I6.bare fun b hb=>⟨(f2 b hb).2.2.2.1,(f2 b hb).2.1,(f2 b hb).2.2.2.2.1,(f2 b hb).2.2.2.2.2⟩
   have fD5:pG X pins H5 D0:=⟨fr5 D0 aI,fD.2⟩;have I8:=I7.track (o:=.lst acc) fD5 (show dQ X.prog X.w _ s6.heap D0 (.lst acc)from⟨hz5,its,kk,va5,e6⟩);obtain⟨m,hn,_⟩:=id I6.loc;refine fin _ P3.objs.size _ s6 m I8 hn (I2.xT (by rw[hD];exact hU hCb) (by rw[bh (cb hDC)];exact I6.free)) ?_ (q D0 (fr5 D0 aI));obtain⟨o,es,ep,ho,hd,_⟩:=hn;exact⟨o,ho,fun v z=>by rw[hd]at z;cases z⟩
  ·skip
   have fpi:∀{H':Hp}{b:Addr},b∈fp->H' b=none->pG (dU X N' sc P3.objs.size {s2 with heap:=P3} H2 (D0::fp)) ([]++i7 [D0] s5.heap) H' b:=fun{H' b} hb hn=>by
    obtain⟨g0,g1,g2,g3,g4,_⟩:=f4 (H':=H') (ofp hb) hn;refine⟨g0,g1,g2,g3,g4,fun p hp=>?_⟩;have hp':p∈i7 [D0] s5.heap:=by simpa[dU]using hp
    obtain⟨z,_⟩:=qd hp';have z':p.1=D0:=by simpa using z
    rw[z'];exact(nD b hb).symm
   refine thn (T.item (dU X N' sc P3.objs.size {s2 with heap:=P3} H2 (D0::fp)) rfl rfl rfl hc i _ s5 τ H5 (fun _ _=>False) I5p (fun b hb=>fpi hb (fr5 b (ofp hb))) st5 go) fun r s6 ⟨u,hr,h6⟩=>?_;subst hr;refine thn h6 fun _ s7 ⟨x,H7,I7,r7,y7,st7,fr7⟩=>?_;have I7':=I7.pinned (fun b hb=>fpi hb (fr7 b hb)) (T.obj _ _ st7);refine thn (pg _ s7 τ H7 x u _ I7' r7 (step x H7 y7)) fun _ s8 ⟨τ8,H8,I8,q8⟩=>?_;refine thn (pt _ s8 τ8 H8 _ I8 q8) fun b s9 ⟨H9,I9,q9⟩=>?_;have pinD:∀{τ':St}{H':Hp}{s':Shared},Inv (dU X N' sc P3.objs.size {s2 with heap:=P3} H2 (D0::fp)) ([]++i7 [D0] s5.heap++i7 fp s7.heap) τ' H' s'->s'.heap.get? D0=some {cls:=.type "list",data:=.seq its.toArray kk}/\H' D0=none:=fun{τ' H' s'} J=>by
    have :=J.pin (D0,_) (a8 _ (jw _ (a8 _ (iQ (by simp) e5))))
    exact⟨this.1,this.2.1⟩
   have pinF:∀{τ':St}{H':Hp}{s':Shared},Inv (dU X N' sc P3.objs.size {s2 with heap:=P3} H2 (D0::fp)) ([]++i7 [D0] s5.heap++i7 fp s7.heap) τ' H' s'->(∀b∈fp,∀o,s7.heap.get? b=some o->s'.heap.get? b=some o)/\(∀b∈fp,H' b=none):=fun{τ' H' s'} J=>by
    refine⟨fun b hb o e=>(J.pin (b,o) (a8 _ (a8 _ (iQ hb e)))).1,fun b hb=>?_⟩;obtain⟨o,e,d⟩:=T.obj _ _ st7 b hb;exact(J.pin (b,o) (a8 _ (a8 _ (iQ hb e)))).2.1
   cases b with
   |false=>
    rw[if_neg (by decide)]at q9⊢;obtain⟨m',hm',w7⟩:=hN τ8 acc H9 q9;obtain⟨d1,d2⟩:=pinD I9;obtain⟨p1,p2⟩:=pinF I9;refine⟨m',hm',i+1,τ8,acc,H9,its,kk,I9.ix.ix,T.keep _ _ _ st7 p1,fun b hb=>?_,va5,hz5,d1,w7⟩;rcases aB.mp hb with z|z
    ·rw[z];exact d2
    ·exact p2 b z
   |true=>
    rw[if_pos rfl]at q9⊢;refine thn (pe _ s9 τ8 H9 _ I9 q9) fun y s10 ⟨z,H10,I10,r10,q10⟩=>?_;obtain⟨hz10,n10⟩:=q10;obtain⟨m',hm',w7⟩:=hN τ8 _ H10 n10;obtain⟨d1,d2⟩:=pinD I10;obtain⟨p1,p2⟩:=pinF I10;have hlen:its.length=acc.length:=va5.length.symm;refine BU (X:=dU X N' sc P3.objs.size {s2 with heap:=P3} H2 (D0::fp)) I10.ix.ix (f4 aI d2) d1 (by omega) fun h' n' I11 e11 k11=>?_;refine⟨m',hm',i+1,τ8,acc++[z],H10,its++[y],n',I11,T.keep _ _ _ st7 fun b hb o e=>k11 b o (nD b hb) (p1 b hb o e),fun b hb=>?_,va5.append (.cons r10 .nil),?_,e11,w7⟩
    ·rcases aB.mp hb with w|w
     ·rw[w];exact d2
     ·exact p2 b w
    ·rw[cC,nP];omega
 exact codeAny_compStart_list loop (T.self _ 0 _ _ _ st4 loop)
theorem pe_comp(S:mM X N' sc)(hm:MkOk X N' sc mk)(hc:X.calm=true)(hi:PI X tg iter wi)
  (hb:∀C s₀ H₀ fp,(dU X N' sc C s₀ H₀ fp).Ok->PG (dU X N' sc C s₀ H₀ fp) tg g/\PTs (dU X N' sc C s₀ H₀ fp) ifs tc/\PE (dU X N' sc C s₀ H₀ fp) elt te)
  (hs:∀x,jo iter X.env x=pure x:=by intro _;rfl):PE X (.ListComp elt [⟨tg,iter,ifs,0⟩] sc pos) (vc wi g tc te mk):=by
 intro pins s σ H Q I h;rw[eval_ListComp];refine vQ (use:=none) S hm hc hi hb hs I h fun l C H' s' m I' hn hC hCo q=>⟨m,hn,fun h'' hs''=>?_⟩;have I'':Inv X pins σ H' {s' with heap:=h'',toks:=s'.toks}:=I'.turned (fun b o hb e=>hs''.extBut b o hb e) hC.1 hC.2.1 hC.2.2.2.1 hC.2.2.2.2.1 hC.2.2.2.2.2;exact⟨.ref l,H',I'',rfl,q⟩
theorem A3{i:Nat}{x:Str}{pos' spos:Pos}(S:mM X N' sc)(hm:MkOk X N' sc mk)(hc:X.calm=true)(hi:PI X tg iter wi)
  (hb:∀C s₀ H₀ fp,(dU X N' sc C s₀ H₀ fp).Ok->PG (dU X N' sc C s₀ H₀ fp) tg g/\PTs (dU X N' sc C s₀ H₀ fp) ifs tc/\PE (dU X N' sc C s₀ H₀ fp) elt te)
  (hN:X.N.Nodup)(hx:X.N[i]? =some x)(hl:X.env.scope.names.lookup x=some .local)
  (hsw:rP (.ListComp elt [⟨tg,iter,ifs,0⟩] sc pos) (some (.Name x pos')) spos.line X.env=pure true)
  (hs:∀x,jo iter X.env x=pure x:=by intro _;rfl):PS X (.Assign [.Name x pos'] (.ListComp elt [⟨tg,iter,ifs,0⟩] sc pos) spos) (wM (vc wi g tc te mk) (l7 i)):=by
 intro pins s σ H D I h;rw[exec_Assign_Name_used _ _ _ _ hsw];refine aa (jZ (aa ?_));show wpAny _ X.A (do let _<-comprehension (.ListComp elt [⟨tg,iter,ifs,0⟩] sc pos) sc X.env (firstIterPos [⟨tg,iter,ifs,0⟩] pos) (newList []) false (eval iter X.env) (some (assign (.Name x pos') X.env))) _ _ s;refine aa (thn (vQ (use:=some (assign (.Name x pos') X.env)) (QQ:=fun _ s'=>SP X pins D .next s') S hm hc hi hb hs I h fun l C H' s' m I' hn hC hCo q=>?_) fun _ s' hq=>aj (aj hq));obtain⟨oC,eC,dC⟩:=id hCo;have I1:Inv X (pins++[(C,oC)]) σ H' s':=I'.xw fun p hp=>(bF.mp hp).elim (fun z=>I'.pin p (a8 _ z)) fun z=>by
  have e:p=(C,oC):=by simpa using z
  subst e;exact⟨eC,hC.1,hC.2.1,hC.2.2.1,dC⟩
 show wpAny _ X.A (assign (.Name x pos') X.env (.ref l)) _ _ s';refine thn (Ci (i:=i) hN hx (.inl hl) (.inr hl) (pins++[(C,oC)]) s' σ H' (.ref l) (.ref l) D.nx I1 rfl q) fun _ s2 ⟨σ2,H2,I2,q2⟩=>?_;obtain⟨eC2,nC2,_,_,_⟩:=I2.pin (C,oC) (a8 _ (a8 _ (by simp)));have hn2:s2.heap.Ns C m:=by
  obtain⟨o,es,ep,ho,r⟩:=hn;have :o=oC:=by rw[eC]at ho;exact(aT ho).symm
  subst this;exact⟨o,es,ep,eC2,r⟩
 refine⟨m,hn2,fun h'' hs''=>?_⟩;have I3:Inv X pins σ2 H2 {s2 with heap:=h'',toks:=s2.toks}:=I2.ix.turned (fun b o hb e=>hs''.extBut b o hb e) nC2 hC.2.1 hC.2.2.2.1 hC.2.2.2.2.1 hC.2.2.2.2.2;exact⟨σ2,H2,I3,q2⟩
end
section
variable {X:Cx}
theorem zV:fO X (.builtin "isinstance") (fun xs H Q=>∃x T t b,xs=[x,.ty T]/\lL X.K H x t/\iN X.K t (.type T)=some b/\Q (.bl b) H):=by
 intro pins s σ H xs us Q I rv h;obtain⟨x,T,t,b,rfl,ty,e,q⟩:=h;obtain⟨u,c,rfl,ru,rc⟩:=rv.two;cases rc;exact vG I ru ty e fun tk=>⟨.bl b,H,I.tok tk,rfl,q⟩
theorem ye:fO X (.builtin "isinstance") (fun xs H Q=>∃x C t b,xs=[x,.ref C]/\lL X.K H x t/\iN X.K t (.ref C)=some b/\Q (.bl b) H):=by
 intro pins s σ H xs us Q I rv h;obtain⟨x,T,t,b,rfl,ty,e,q⟩:=h;obtain⟨u,c,rfl,ru,rc⟩:=rv.two;cases rc;exact vG I ru ty e fun tk=>⟨.bl b,H,I.tok tk,rfl,q⟩
theorem Fe{prog:Program}{w:World}{A:Around}{its:List Value}{bs:List Bool}(r:bO (bs.map V.bl) its):TruthOf prog w A (fun i v=>its.toArray[i]? =some v) (fun i=>bs.getD i false):=by
 intro i v s Q E hP h;have hi:its[i]? =some v:=by simpa using hP
 have e:v=.bool (bs.getD i false):=by
  have hl:=r.length;rw[ai]at hl;have hlt:i<bs.length:=by
   have :=(aF.mp hi).1
   omega
  obtain⟨u,hu,ru⟩:=bO.get (i:=i) (x:=.bl bs[i]) r (by simp[hlt]);rw[hi]at hu;cases hu;have ru':v=yt bs[i]:=ru;rw[ru',ag,ae hlt];rfl
 rw[e];exact cU h
theorem range_all(bs:List Bool):(aq bs.length).all (fun i=>bs.getD i false)=bs.all id:=by
 have :bs=(aq bs.length).map fun i=>bs.getD i false:=by
  apply cK
  ·simp
  ·intro i h1 h2
   simp[h1]
 rw[eH];simp only[bE,aK];constructor
 ·intro h x hx
  obtain⟨i,hi,rfl⟩:=dz.mp hx;have :=h i hi;simpa[hi]using this
 ·intro h i hi
  have :=h bs[i] (bu hi)
  simpa[hi]using this
theorem Ih(hc:X.calm=true):fO X (.builtin "all") (fun xs H Q=>∃(p:Addr)(bs:List Bool),xs=[.ref p]/\SqL X.K H p (bs.map V.bl)/\Q (.bl (bs.all id)) H):=by
 intro pins s σ H xs us Q I rv h;obtain⟨p,bs,rfl,hq,q⟩:=h;obtain⟨u,rfl,ru⟩:=rv.one;cases ru;obtain⟨its,r,pl,hz⟩:=I.list hq;have hlen:its.toArray.size=bs.length:=by rw[ay,<-r.length,ai]
 have hne:p≠s.heap.objs.size:=by obtain⟨o,n,ho,_⟩:=id pl;exact aJ (av ho)
 refine call_all_walk (mP pl.isList ⟨s.heap.objs.size,_,_,_,_,_,fun i=>bs.getD i false,rfl,ID (A:=X.A.in1) (I.ok.hd hc) _ p hne its.toArray,⟨⟨_,au _ rfl,rfl,rfl⟩,pl.isList.at fun o e=>ah _ e⟩,Fe r,fun h' tk k=>?_⟩);rw[hlen,range_all];exact⟨.bl (bs.all id),H,I.kept (t':=tk) fun b o e=>k b o (by simpa using aJ (av e)) (ah _ e),rfl,q⟩
noncomputable def BI(x:Str)(lo hi:Option Int):Str:=⟨((x.cps.toList.drop (HT.sIx x.length 0 lo)).take (HT.sIx x.length x.length hi-HT.sIx x.length 0 lo)).toArray⟩
theorem sIx_eq(n d:Nat)(i:Int):(max 0 (min (if i<0 then i+(n:Int)else i) (n:Int)))=((HT.sIx n d (some i):Nat):Int):=by
 have :=HT.xX i n d
 rw[<-this];split <;>omega
theorem strIx(lo hi:Option Int)(n:Nat):qU lo hi 1 n=(aq (HT.sIx n n hi-HT.sIx n 0 lo)).map fun k=>HT.sIx n 0 lo+k:=by
 have key:∀a b:Nat,sliceRange (a:Int) (b:Int) 1=(aq (b-a)).map fun k=>a+k:=by
  intro a b;unfold sliceRange;have e:(if(1:Int)>0 then(if(a:Int)<b then((b:Int)-a+1-1)/1 else 0)else(if(a:Int)>b then((a:Int)-b-1-1)/(-1)else 0)).toNat=b-a:=by
   rw[if_pos (by decide)];split <;>omega
  simp only[e];apply cm;intro k hk;omega
 have e1:∀(o:Option Int)(d:Nat),(match o with |none=>(d:Int) |some i=>max 0 (min (if i<0 then i+(n:Int)else i) (n:Int)))=((HT.sIx n d o:Nat):Int):=by
  intro o d;cases o with
  |none=>rfl
  |some i=>exact sIx_eq n d i
 have a1:=e1 lo 0;have a2:=e1 hi n;unfold qU;simp only[show(1:Int)>0 by decide,if_true];have b1:((0:Nat):Int)=0:=rfl;rw[b1]at a1;rw[<-key,<-a1,<-a2];cases lo<;>cases hi<;>rfl
theorem pickN(xs:Array Nat)(i:Nat):∀k,((aq k).map fun m=>i+m).filterMap (xs[·]?)=(xs.toList.drop i).take k:=by
 intro k
 induction k with
 |zero=>simp
 |succ k ih=>
  rw[List.range_succ,cH,List.filterMap_append,ih];by_cases h:i+k<xs.size
  ·rw[List.take_succ,iM]
   simp[h]
  ·rw[List.take_succ,iM]
   simp[h]
theorem DA(x:Str)(lo hi:Option Int):Txt.slice x lo hi=BI x lo hi:=by
 have hl:HT.sIx x.length 0 lo<=x.length:=HT.AY _ _ (a7 _) lo;have hu:HT.sIx x.length x.length hi<=x.length:=HT.AY _ _ (ax _) hi;unfold Txt.slice BI;rw[strIx];split
 ·rename_i h
  rw[aL,beq_iff_eq,beq_iff_eq,ai,bq]at h;have a:HT.sIx x.length 0 lo=0:=by omega
  have b:HT.sIx x.length x.length hi=x.length:=by omega
  rw[a,b];have :x.cps.toList.length=x.length:=by simp[Str.length]
  rw[yH,EO,<-this,eQ]
 ·rw[pickN]
theorem qE{v:Value}{o:Option Int}(p:IsPart v o):∃l:Option (Int×Tok),v=partValue l/\o=l.map (·.1):=by
 cases p with
 |none=>exact⟨none,rfl,rfl⟩
 |int i t=>exact⟨some (i,t),rfl,rfl⟩
noncomputable def rSlS:V->Option Int->Option Int->Hp->VK->Prop:=fun x lo hi H Q=>∃z,x=.str z/\z.length<=sizeLine/\Q (.str (BI z lo hi)) H
theorem sl_str:SlR X rSlS:=by
 intro pins s σ H x v vl vu lo hi sl Q I rx hs pl pu h;obtain⟨z,rfl,hz,q⟩:=h;obtain⟨t,rfl⟩:=rx;obtain⟨l,rfl,rfl⟩:=qE pl;obtain⟨u,rfl,rfl⟩:=qE pu;refine⟨"str",_,F.slot_str_getitem.lookup,typeIs_str _ _ _,?_⟩;refine wpAny_getItem_str_slice (l:=l) (u:=u) (st:=none) hs rfl (post_val_or_str ⟨ba (Txt.slice_le z _ _) hz,fun t' k=>?_⟩);have e:=DA z (l.map (·.1)) (u.map (·.1));unfold Txt.slice at e;refine⟨.str (BI z (l.map (·.1)) (u.map (·.1))),H,I.tok k,⟨t',?_⟩,q⟩;rw[<-e];rfl
noncomputable def Its(x:Str):It:=⟨fun i _=>i<x.length,fun i H v H'=>H'=H/\∃c,x.cps[i]? =some c/\v=.str ⟨#[c]⟩,fun i _=>x.length<=i⟩
end
theorem ve{prog:Program}{w:World}(it:Addr)(x:Str)(t:Tok)(A:Around)(hA:A.handled=none):
  Walks prog w A it [it] [it] x.cps.size (SignAt x) (fun i h=>h.IsStrIter it (ip x) x t i):=by
 unfold ip;cases ha:x.cps.all (·<128)
 ·simp only[aE,if_false];exact Walks.strWide hA it x t
 ·simp only[if_true];exact Walks.strAscii hA it x t
theorem Fd{P:Program}{w:World}{K:af}{tg:Expr}(x:Str)(it:Addr)(t:Tok):Turn P w K tg (Its x) [it] it (fun i h=>h.IsStrIter it (ip x) x t i) where
 mem:=by simp
 obj:=fun i h st b hb=>by
  have e:b=it:=by simpa using hb
  subst e;obtain⟨o,e,c,d⟩:=st;exact⟨o,e,fun v z=>by rw[d]at z;cases z⟩
 keep:=fun i h h' st k=>let⟨o,ho,r⟩:=st;⟨o,k it (by simp) o ho,r⟩
 item:=by
  intro X hP hw hK hc i pins s σ H E I hf st hg;subst hP hw hK;obtain⟨f0,f1,f2,f3,f4,f5⟩:=hf it (by simp);have W:=ve (prog:=X.prog) (w:=X.w) it x t X.A (I.ok.hd hc);refine W.item i s _ _ hg st fun v h' tk hv st' kk=>?_;obtain⟨c,u,hc',rfl⟩:=hv;have I1:Inv X pins σ H {s with heap:=h',toks:=tk}:=I.turned (fun b o hb e=>kk b o (by simpa using hb) e) f0 f1 f3 f4 f5;obtain⟨o,e,cl,d⟩:=id st';refine⟨_,rfl,CM (s:={s with heap:=h',toks:=tk}) (n:=ip x) e cl d ?_ ⟨.str ⟨#[c]⟩,H,I1,⟨u,rfl⟩,⟨rfl,c,hc',rfl⟩,st',fun b hb=>(hf b hb).1⟩⟩;unfold ip;split <;>decide
 done:=by
  intro X hP hw hK hc i pins s σ H E I hf st hg;subst hP hw hK;obtain⟨f0,f1,f2,f3,f4,f5⟩:=hf it (by simp);have hg':x.length<=i:=hg;by_cases hi:i=x.cps.size
  ·subst hi
   have W:=ve (prog:=X.prog) (w:=X.w) it x t X.A (I.ok.hd hc);exact W.done s _ _ st fun h' tk kk=>⟨rfl,I.turned (fun b o hb e=>kk b o (by simpa using hb) e) f0 f1 f3 f4 f5⟩
  ·have hn:x.cps[i]? =none:=by
    rw[Array.getElem?_eq_none_iff];exact hg'
   have st2:s.heap.IsStrIter it (ip x) x t i:=st;unfold ip at st2;cases ha:x.cps.all (·<128)
   ·rw[ha]at st2
    exact wpAny_pyNext_wide_end (I.ok.hd hc) st2 hn fun h' eb=>⟨rfl,I.turned (t':=s.toks) (fun b o hb e=>eb b o hb e) f0 f1 f3 f4 f5⟩
   ·rw[ha]at st2
    exact wpAny_pyNext_ascii_end (I.ok.hd hc) st2 hn fun h' eb=>⟨rfl,I.turned (t':=s.toks) (fun b o hb e=>eb b o hb e) f0 f1 f3 f4 f5⟩
 self:=fun A i s Q E st h=>by
  have st2:s.heap.IsStrIter it (ip x) x t i:=st;unfold ip at st2;cases ha:x.cps.all (·<128)
  ·rw[ha]at st2;exact wpAny_pyIter_striter_wide st2 h
  ·rw[ha]at st2;exact wpAny_pyIter_striter_ascii st2 h
noncomputable def Ite(K:af)(a:Addr):It:=
 ⟨fun i H=>∃xs x,SqL K H a xs/\xs[i]? =some x,fun i H v H'=>∃p x,H p=none/\H'=upd H p (.tup [.int i,x])/\v=.ref p/\∀xs,SqL K H a xs->xs[i]? =some x,fun i H=>∃xs,SqL K H a xs/\xs.length<=i⟩
section
variable {X:Cx}{es:List Expr}{kk:Nat}{pp:Pos}
noncomputable def iEnum(K:af)(tl:TE):TI:=fun σ H R=>tl σ H fun x H1=>∃a,x=.ref a/\(∃xs,SqL K H1 a xs)/\R (Ite K a) H1
end
inductive D where
 |non|bl (b:Bool) |int (i:Int) |str (x:Str) |tup (ds:List D) |lst (ds:List D)
 deriving Inhabited
mutual
noncomputable def Rep(K:af)(H:Hp):D->V->Prop
 |.non,v=>v=.non
 |.bl b,v=>v=.bl b
 |.int i,v=>v=.int i
 |.str x,v=>v=.str x
 |.tup ds,v=>∃a xs,v=.ref a/\SqT K H a xs/\fg K H ds xs
 |.lst ds,v=>∃a xs,v=.ref a/\SqL K H a xs/\fg K H ds xs
noncomputable def fg(K:af)(H:Hp):List D->List V->Prop
 | [],xs=>xs=[]
 |d::ds,xs=>∃x r,xs=x::r/\Rep K H d x/\fg K H ds r
end
theorem aS.tup{K:af}{H H':Hp}{a:Addr}{xs:List V}(e:aS H H')(h:SqT K H a xs):SqT K H' a xs:=by
 rcases h with(h|⟨o,h⟩) |h
 ·exact .inl (.inl (e _ _ h))
 ·exact .inl (.inr ⟨o,e _ _ h⟩)
 ·exact .inr h
mutual
theorem Rep.same{K:af}{H H':Hp}(e:aS H H'):∀{d:D}{v:V},Rep K H d v->Rep K H' d v
 |.non,_,h=>h
 |.bl _,_,h=>h
 |.int _,_,h=>h
 |.str _,_,h=>h
 |.tup ds,_,h=>by
  obtain⟨a,xs,e1,h1,h2⟩:=h;exact⟨a,xs,e1,e.tup h1,fg.same e h2⟩
 |.lst ds,_,h=>by
  obtain⟨a,xs,e1,h1,h2⟩:=h;exact⟨a,xs,e1,e.seq h1,fg.same e h2⟩
theorem fg.same{K:af}{H H':Hp}(e:aS H H'):∀{ds:List D}{xs:List V},fg K H ds xs->fg K H' ds xs
 | [],_,h=>h
 |d::ds,_,h=>by
  obtain⟨x,r,e1,h1,h2⟩:=h;exact⟨x,r,e1,Rep.same e h1,fg.same e h2⟩
end
theorem fg.length{K:af}{H:Hp}:∀{ds:List D}{xs:List V},fg K H ds xs->xs.length=ds.length
 | [],_,h=>by rw[show _=[]from h];rfl
 |d::ds,_,h=>by
  obtain⟨x,r,rfl,_,h2⟩:=h;rw[bS,bS,fg.length h2]
theorem fg.at{K:af}{H:Hp}:∀{ds:List D}{xs:List V}{i:Nat}{d:D},fg K H ds xs->ds[i]? =some d->∃x,xs[i]? =some x/\Rep K H d x
 | [],_,i,d,h,e=>by simp at e
 |d::ds,_,0,d',h,e=>by
  obtain⟨y,r,rfl,h1,h2⟩:=h;simp at e;subst e;exact⟨y,rfl,h1⟩
 |d::ds,_,i+1,d',h,e=>by
  obtain⟨y,r,rfl,h1,h2⟩:=h;obtain⟨x,e',h'⟩:=fg.at (i:=i) h2 (by simpa using e);exact⟨x,by simpa using e',h'⟩
theorem fg.ints{K:af}{H:Hp}:∀(ns:List Int),fg K H (ns.map D.int) (ns.map V.int)
 | []=>rfl
 |n::ns=>⟨_,_,rfl,rfl,fg.ints ns⟩
mutual
noncomputable def eqD:D->D->Bool
 |.non,.non=>true
 |.bl a,.bl b=>a==b
 |.bl a,.int b=>(if a then 1 else 0)==b
 |.int a,.bl b=>a==(if b then 1 else 0)
 |.int a,.int b=>a==b
 |.str a,.str b=>a==b
 |.tup a,.tup b=>lr a b
 |.lst a,.lst b=>lr a b
 |_,_=>false
noncomputable def lr:List D->List D->Bool
 | [],[]=>true
 |a::as,b::bs=>eqD a b&&lr as bs
 |_,_=>false
end
mutual
noncomputable def hgt:D->Nat
 |.tup ds=>gv ds+1
 |.lst ds=>gv ds+1
 |_=>0
noncomputable def gv:List D->Nat
 | []=>0
 |d::ds=>max (hgt d) (gv ds)
end
theorem qg:∀{ds:List D}{i:Nat}{d:D},ds[i]? =some d->hgt d<=gv ds
 | [],i,d,e=>by simp at e
 |d::ds,0,d',e=>by simp at e;subst e;simp only[gv];omega
 |d::ds,i+1,d',e=>by
  have :=qg (i:=i) (ds:=ds) (d:=d') (by simpa using e)
  simp only[gv];omega
theorem l9:∀(as bs:List D)(e:Nat->Bool),as.length=bs.length->(∀(i:Nat) a b,as[i]? =some a->bs[i]? =some b->e i=eqD a b)->(aq as.length).all e=lr as bs
 | [],[],e,_,_=>rfl
 |a::as,b::bs,e,hl,h=>by
  rw[bS,List.range_succ_eq_map,AA,List.all_map];have h0:=h 0 a b rfl rfl;have ih:=l9 as bs (fun i=>e (i+1)) (by simpa using hl) fun i x y hx hy=>h (i+1) x y (by simpa using hx) (by simpa using hy);rw[h0];show(eqD a b&&(aq as.length).all (fun i=>e (i+1)))=_;rw[ih,lr]
 | [],b::bs,e,hl,_=>by simp at hl
 |a::as,[],e,hl,_=>by simp at hl
theorem l8:∀(as bs:List D),as.length≠bs.length->lr as bs=false
 | [],[],h=>absurd rfl h
 |a::as,b::bs,h=>by
  rw[lr,l8 as bs (by simpa using h),fM]
 | [],b::bs,_=>rfl
 |a::as,[],_=>rfl
mutual
theorem tI:∀d:D,eqD d d=true
 |.non=>rfl
 |.bl b=>by simp[eqD]
 |.int i=>by simp[eqD]
 |.str x=>by simp[eqD]
 |.tup ds=>by rw[eqD];exact qi ds
 |.lst ds=>by rw[eqD];exact qi ds
theorem qi:∀ds:List D,lr ds ds=true
 | []=>rfl
 |d::ds=>by rw[lr,tI d,qi ds];rfl
end
section
variable {X:Cx}{pins:List (Addr×Obj)}{σ:St}{H:Hp}{s:Shared}
mutual
theorem Inv.xr(I:Inv X pins σ H s):∀{d d':D}{v:V},Rep X.K H d v->Rep X.K H d' v->d=d'
 |.non,d',v,h,h'=>by
  cases(show v=V.non from h);cases d'<;>first | (obtain⟨_,_,z,_⟩:=h';cases z;done) |rfl| (cases h';done)
 |.bl b,d',v,h,h'=>by
  cases(show v=V.bl b from h);cases d'<;>first | (obtain⟨_,_,z,_⟩:=h';cases z;done) | (cases h';rfl) | (cases h';done)
 |.int b,d',v,h,h'=>by
  cases(show v=V.int b from h);cases d'<;>first | (obtain⟨_,_,z,_⟩:=h';cases z;done) | (cases h';rfl) | (cases h';done)
 |.str b,d',v,h,h'=>by
  cases(show v=V.str b from h);cases d'<;>first | (obtain⟨_,_,z,_⟩:=h';cases z;done) | (cases h';rfl) | (cases h';done)
 |.tup ds,d',v,h,h'=>by
  obtain⟨a,xs,rfl,h1,h2⟩:=h;cases d' with
  |tup ds'=>
   obtain⟨b,ys,e,h1',h2'⟩:=h';cases e;have :=I.pS h1 h1';subst this;rw[Inv.sC I h2 h2']
  |lst ds'=>
   obtain⟨b,ys,e,h1',h2'⟩:=h';cases e;obtain⟨its,_,⟨o,e1,c1,_⟩,_⟩:=I.tuple h1;obtain⟨its',_,⟨o',n,e2,c2,_⟩,_⟩:=I.list h1';rw[e1]at e2;cases e2;rw[c1]at c2;exact absurd c2 (by decide+kernel)
  |_=>cases h'
 |.lst ds,d',v,h,h'=>by
  obtain⟨a,xs,rfl,h1,h2⟩:=h;cases d' with
  |lst ds'=>
   obtain⟨b,ys,e,h1',h2'⟩:=h';cases e;have :=I.zB h1 h1';subst this;rw[Inv.sC I h2 h2']
  |tup ds'=>
   obtain⟨b,ys,e,h1',h2'⟩:=h';cases e;obtain⟨its,_,⟨o,n,e1,c1,_⟩,_⟩:=I.list h1;obtain⟨its',_,⟨o',e2,c2,_⟩,_⟩:=I.tuple h1';rw[e1]at e2;cases e2;rw[c1]at c2;exact absurd c2 (by decide+kernel)
  |_=>cases h'
theorem Inv.sC(I:Inv X pins σ H s):∀{ds ds':List D}{xs:List V},fg X.K H ds xs->fg X.K H ds' xs->ds=ds'
 | [],[],_,_,_=>rfl
 | [],d::ds,xs,h,h'=>by
  obtain⟨x,r,e,_⟩:=h';rw[show xs=[]from h]at e;cases e
 |d::ds,[],xs,h,h'=>by
  obtain⟨x,r,e,_⟩:=h;rw[show xs=[]from h']at e;cases e
 |d::ds,d'::ds',xs,h,h'=>by
  obtain⟨x,r,rfl,h1,h2⟩:=h;obtain⟨y,r',e,h1',h2'⟩:=h';cases e;rw[Inv.xr I h1 h1',Inv.sC I h2 h2']
end
open PySem.SeqAt
theorem Inv.rcTup(I:Inv X pins σ H s)(A:Around){ds ds':List D}{a b:Addr}{xs ys:List V}(hit:∀(i:Nat)(d d':D)(x y:V)(u u':Value),ds[i]? =some d->ds'[i]? =some d'->Rep X.K H d x->Rep X.K H d' y->RelV x u->RelV y u'->EqAt A.in1 s u u' (eqD d d'))(h1:SqT X.K H a xs)(h2:fg X.K H ds xs)(h1':SqT X.K H b ys)(h2':fg X.K H ds' ys)(hu:A.units<cLine):RcAt A s (.ref a) (.ref b) (lr ds ds'):=by
  obtain⟨its,r,p,_⟩:=I.tuple h1;obtain⟨its',r',p',_⟩:=I.tuple h1';have l1:=h2.length;have l2:=h2'.length;have l3:=r.length;have l4:=r'.length;have key:=RcAt.tuples (e:=fun j=>match ds[j]?,ds'[j]? with |some d,some d'=>eqD d d'|_,_=>false) p p' (A:=A) (by omega) (fun j g1 g2=>by
   have g1':j<its.length:=by simpa using g1
   have g2':j<its'.length:=by simpa using g2
   have e1:ds[j]? =some ds[j]:=ae (by omega);have e2:ds'[j]? =some ds'[j]:=ae (by omega);show EqAt A.in1 s _ _ (match ds[j]?,ds'[j]? with |some d,some d'=>eqD d d'|_,_=>false);rw[e1,e2];obtain⟨x,hx,rx⟩:=h2.at e1;obtain⟨y,hy,ry⟩:=h2'.at e2;obtain⟨u,hu1,ru⟩:=r.get hx;obtain⟨u',hu2,ru'⟩:=r'.get hy;have q1:its.toArray[j]=u:=by have :its[j]? =some its[j]:=ae g1';rw[this]at hu1;simpa using hu1
   have q2:its'.toArray[j]=u':=by have :its'[j]? =some its'[j]:=ae g2';rw[this]at hu2;simpa using hu2
   rw[q1,q2];exact hit j _ _ x y u u' e1 e2 rx ry ru ru')
  have hs:its.toArray.size=ds.length:=by simp;omega
  have hs':its'.toArray.size=ds'.length:=by simp;omega
  rw[hs,hs']at key;by_cases hl:ds.length=ds'.length
  ·have e:((aq (min ds.length ds'.length)).all (fun j=>match ds[j]?,ds'[j]? with |some d,some d'=>eqD d d'|_,_=>false)&&ds.length==ds'.length)=lr ds ds':=by
    rw[<-hl,ER,beq_self_eq_true,Bool.and_true];refine l9 ds ds' _ hl fun i x y hx hy=>?_;simp only[hx,hy]
   rw[e]at key;exact key
  ·have e:((aq (min ds.length ds'.length)).all (fun j=>match ds[j]?,ds'[j]? with |some d,some d'=>eqD d d'|_,_=>false)&&ds.length==ds'.length)=lr ds ds':=by
    rw[l8 ds ds' hl,beq_eq_false_iff_ne.mpr hl,fM]
   rw[e]at key;exact key
theorem Inv.rcLst(I:Inv X pins σ H s)(A:Around){ds ds':List D}{a b:Addr}{xs ys:List V}(hit:∀(i:Nat)(d d':D)(x y:V)(u u':Value),ds[i]? =some d->ds'[i]? =some d'->Rep X.K H d x->Rep X.K H d' y->RelV x u->RelV y u'->EqAt A.in1 s u u' (eqD d d'))(h1:SqL X.K H a xs)(h2:fg X.K H ds xs)(h1':SqL X.K H b ys)(h2':fg X.K H ds' ys)(hu:A.units<cLine):RcAt A s (.ref a) (.ref b) (lr ds ds'):=by
  obtain⟨its,r,p,_⟩:=I.list h1;obtain⟨its',r',p',_⟩:=I.list h1';have l1:=h2.length;have l2:=h2'.length;have l3:=r.length;have l4:=r'.length;by_cases hl:ds.length=ds'.length
  ·have key:=RcAt.lists (e:=fun j=>match ds[j]?,ds'[j]? with |some d,some d'=>eqD d d'|_,_=>false) p.isList p'.isList (A:=A) (by simp;omega) (by omega) (fun j g1 g2=>by
    have g1':j<its.length:=by simpa using g1
    have g2':j<its'.length:=by simpa using g2
    have e1:ds[j]? =some ds[j]:=ae (by omega);have e2:ds'[j]? =some ds'[j]:=ae (by omega);show EqAt A.in1 s _ _ (match ds[j]?,ds'[j]? with |some d,some d'=>eqD d d'|_,_=>false);rw[e1,e2];obtain⟨x,hx,rx⟩:=h2.at e1;obtain⟨y,hy,ry⟩:=h2'.at e2;obtain⟨u,hu1,ru⟩:=r.get hx;obtain⟨u',hu2,ru'⟩:=r'.get hy;have q1:its.toArray[j]=u:=by have :its[j]? =some its[j]:=ae g1';rw[this]at hu1;simpa using hu1
    have q2:its'.toArray[j]=u':=by have :its'[j]? =some its'[j]:=ae g2';rw[this]at hu2;simpa using hu2
    rw[q1,q2];exact hit j _ _ x y u u' e1 e2 rx ry ru ru')
   have hs:its.toArray.size=ds.length:=by simp;omega
   rw[hs,l9 ds ds' _ hl fun i x y hx hy=>by simp only[hx,hy]]at key;exact key
  ·have key:=RcAt.lists_lengths p.isList p'.isList (A:=A) (by simp;omega) (by omega)
   rw[l8 ds ds' hl];exact key
theorem Inv.shp(I:Inv X pins σ H s){d:D}{v:V}{u:Value}(h:Rep X.K H d v)(r:RelV v u):(d=.non/\v=.non/\u=.none)\/(∃x,d=.bl x/\v=.bl x/\u=.bool x)\/(∃x t,d=.int x/\v=.int x/\u=.int x t)\/(∃x t,d=.str x/\v=.str x/\u=.str x t)\/(∃ds a xs its,d=.tup ds/\v=.ref a/\u=.ref a/\SqT X.K H a xs/\fg X.K H ds xs/\IsTup s.heap a its)\/∃ds a xs its,d=.lst ds/\v=.ref a/\u=.ref a/\SqL X.K H a xs/\fg X.K H ds xs/\s.heap.IsList a its:=by
 cases d with
 |non=>cases(show v=_ from h);cases r;exact .inl ⟨rfl,rfl,rfl⟩
 |bl x=>cases(show v=_ from h);cases r;exact .inr (.inl ⟨x,rfl,rfl,rfl⟩)
 |int x=>cases(show v=_ from h);obtain⟨t,rfl⟩:=r;exact .inr (.inr (.inl ⟨x,t,rfl,rfl,rfl⟩))
 |str x=>cases(show v=_ from h);obtain⟨t,rfl⟩:=r;exact .inr (.inr (.inr (.inl ⟨x,t,rfl,rfl,rfl⟩)))
 |tup ds=>obtain⟨a,xs,rfl,h1,h2⟩:=id h;cases r;obtain⟨its,_,p,_⟩:=I.tuple h1;exact .inr (.inr (.inr (.inr (.inl ⟨ds,a,xs,_,rfl,rfl,rfl,h1,h2,p⟩))))
 |lst ds=>obtain⟨a,xs,rfl,h1,h2⟩:=id h;cases r;obtain⟨its,_,p,_⟩:=I.list h1;exact .inr (.inr (.inr (.inr (.inr ⟨ds,a,xs,_,rfl,rfl,rfl,h1,h2,p.isList⟩))))
theorem Inv.eqAt1(I:Inv X pins σ H s){n:Nat}(A:Around)(hit:∀(m:Nat)(ds ds':List D)(i:Nat)(d d':D)(x y:V)(u u':Value),n=m+1->gv ds<=m->ds[i]? =some d->ds'[i]? =some d'->Rep X.K H d x->Rep X.K H d' y->RelV x u->RelV y u'->EqAt A.in1 s u u' (eqD d d')):
  ∀(d d':D)(v v':V)(u u':Value),Rep X.K H d v->Rep X.K H d' v'->RelV v u->RelV v' u'->hgt d<=n->A.units+n+1<cLine->EqAt A s u u' (eqD d d'):=by
 intro d d' v v' u u' h h' r r' hn hu;obtain⟨rfl,rfl,rfl⟩ |⟨_,rfl,rfl,rfl⟩ |⟨_,t,rfl,rfl,rfl⟩ |⟨_,t,rfl,rfl,rfl⟩ |⟨ds,a,xs,its,rfl,rfl,rfl,h1,h2,p⟩ |⟨ds,a,xs,its,rfl,rfl,rfl,h1,h2,p⟩:=I.shp h r<;>obtain⟨rfl,rfl,rfl⟩ |⟨_,rfl,rfl,rfl⟩ |⟨_,t',rfl,rfl,rfl⟩ |⟨_,t',rfl,rfl,rfl⟩ |⟨ds',b,ys,its',rfl,rfl,rfl,h1',h2',p'⟩ |⟨ds',b,ys,its',rfl,rfl,rfl,h1',h2',p'⟩:=I.shp h' r'
 ·exact gf r r' rfl rfl
 ·exact gf r r' rfl rfl
 ·exact gf r r' rfl rfl
 ·exact gf r r' rfl rfl
 ·exact EqAt.none_tuple p' (by omega)
 ·exact EqAt.none_list p' (by omega)
 ·exact gf r r' rfl rfl
 ·exact gf r r' rfl rfl
 ·exact gf r r' rfl rfl
 ·exact gf r r' rfl rfl
 ·exact EqAt.bool_tuple _ p' (by omega)
 ·exact EqAt.bool_list _ p' (by omega)
 ·exact gf r r' rfl rfl
 ·exact gf r r' rfl rfl
 ·exact gf r r' rfl rfl
 ·exact gf r r' rfl rfl
 ·exact EqAt.int_tuple _ t p' (by omega)
 ·exact EqAt.int_list _ t p' (by omega)
 ·exact gf r r' rfl rfl
 ·exact gf r r' rfl rfl
 ·exact gf r r' rfl rfl
 ·exact gf r r' rfl rfl
 ·exact EqAt.str_tuple _ t p' (by omega)
 ·exact EqAt.str_list _ t p' (by omega)
 ·exact EqAt.tuple_none p (by omega)
 ·exact EqAt.tuple_bool _ p (by omega)
 ·exact EqAt.tuple_int _ t' p (by omega)
 ·exact EqAt.tuple_str _ t' p (by omega)
 ·rw[hgt]at hn
  by_cases z:a=b
  ·subst z
   have e:=I.xr h h';rw[<-e,tI];exact EqAt.same _
  ·rw[eqD]
   exact EqAt.of_refs z (Inv.rcTup I A (fun i d d' x y u u' e1 e2 rx ry ru ru'=>hit (n-1) ds ds' i d d' x y u u' (by omega) (by omega) e1 e2 rx ry ru ru') h1 h2 h1' h2' (by omega))
 ·exact EqAt.tuple_list p p' (by omega)
 ·exact EqAt.list_none p (by omega)
 ·exact EqAt.list_bool _ p (by omega)
 ·exact EqAt.list_int _ t' p (by omega)
 ·exact EqAt.list_str _ t' p (by omega)
 ·exact EqAt.list_tuple p p' (by omega)
 ·rw[hgt]at hn
  by_cases z:a=b
  ·subst z
   have e:=I.xr h h';rw[<-e,tI];exact EqAt.same _
  ·rw[eqD]
   exact EqAt.of_refs z (Inv.rcLst I A (fun i d d' x y u u' e1 e2 rx ry ru ru'=>hit (n-1) ds ds' i d d' x y u u' (by omega) (by omega) e1 e2 rx ry ru ru') h1 h2 h1' h2' (by omega))
theorem Inv.CW(I:Inv X pins σ H s):∀(n:Nat)(A:Around)(d d':D)(v v':V)(u u':Value),Rep X.K H d v->Rep X.K H d' v'->RelV v u->RelV v' u'->hgt d<=n->A.units+n+1<cLine->EqAt A s u u' (eqD d d'):=by
 intro n
 induction n with
 |zero=>exact fun A d d' v v' u u' h h' r r' hn hu=>Inv.eqAt1 I A (fun m ds ds' i d d' x y u u' hm _ _ _ _ _ _ _=>absurd hm (by omega)) d d' v v' u u' h h' r r' hn hu
 |succ n ih=>
  exact fun A d d' v v' u u' h h' r r' hn hu=>Inv.eqAt1 I A (fun m ds ds' i d d' x y u u' hm hd e1 e2 rx ry ru ru'=>ih A.in1 d d' x y u u' rx ry ru ru' (by have :=qg e1;omega) (by show A.units+1+n+1<cLine;omega)) d d' v v' u u' h h' r r' hn hu
end
end L2
namespace L2
open PySem PySem.Spec PyProof.Rows PySem.SeqAt
section
variable {X:Cx}{pins:List (Addr×Obj)}{σ:St}{H:Hp}{s:Shared}
theorem Inv.neTup(I:Inv X pins σ H s)(A:Around){ds ds':List D}{a b:Addr}{xs ys:List V}(hit:∀(i:Nat)(d d':D)(x y:V)(u u':Value),ds[i]? =some d->ds'[i]? =some d'->Rep X.K H d x->Rep X.K H d' y->RelV x u->RelV y u'->EqAt A.in1 s u u' (eqD d d'))
  (h1:SqT X.K H a xs)(h2:fg X.K H ds xs)(h1':SqT X.K H b ys)(h2':fg X.K H ds' ys)(hu:A.units<cLine):RcNeAt A s (.ref a) (.ref b) (!lr ds ds'):=by
 obtain⟨its,r,p,_⟩:=I.tuple h1;obtain⟨its',r',p',_⟩:=I.tuple h1';have l1:=h2.length;have l2:=h2'.length;have l3:=r.length;have l4:=r'.length;have key:=RcNeAt.tuples (e:=fun j=>match ds[j]?,ds'[j]? with |some d,some d'=>eqD d d'|_,_=>false) p p' (A:=A) hu (fun j g1 g2=>by
  have g1':j<its.length:=by simpa using g1
  have g2':j<its'.length:=by simpa using g2
  have e1:ds[j]? =some ds[j]:=ae (by omega);have e2:ds'[j]? =some ds'[j]:=ae (by omega);show EqAt A.in1 s _ _ (match ds[j]?,ds'[j]? with |some d,some d'=>eqD d d'|_,_=>false);rw[e1,e2];obtain⟨x,hx,rx⟩:=h2.at e1;obtain⟨y,hy,ry⟩:=h2'.at e2;obtain⟨u,hu1,ru⟩:=r.get hx;obtain⟨u',hu2,ru'⟩:=r'.get hy;have q1:its.toArray[j]=u:=by have :its[j]? =some its[j]:=ae g1';rw[this]at hu1;simpa using hu1
  have q2:its'.toArray[j]=u':=by have :its'[j]? =some its'[j]:=ae g2';rw[this]at hu2;simpa using hu2
  rw[q1,q2];exact hit j _ _ x y u u' e1 e2 rx ry ru ru')
 have hs:its.toArray.size=ds.length:=by simp;omega
 have hs':its'.toArray.size=ds'.length:=by simp;omega
 rw[hs,hs']at key;have e:((aq (min ds.length ds'.length)).all (fun j=>match ds[j]?,ds'[j]? with |some d,some d'=>eqD d d'|_,_=>false)&&ds.length==ds'.length)=lr ds ds':=by
  by_cases hl:ds.length=ds'.length
  ·rw[<-hl,ER,beq_self_eq_true,Bool.and_true]
   refine l9 ds ds' _ hl fun i x y hx hy=>?_;simp only[hx,hy]
  ·rw[l8 ds ds' hl,beq_eq_false_iff_ne.mpr hl,fM]
 rw[e]at key;exact key
theorem Inv.neLst(I:Inv X pins σ H s)(A:Around){ds ds':List D}{a b:Addr}{xs ys:List V}(hit:∀(i:Nat)(d d':D)(x y:V)(u u':Value),ds[i]? =some d->ds'[i]? =some d'->Rep X.K H d x->Rep X.K H d' y->RelV x u->RelV y u'->EqAt A.in1 s u u' (eqD d d'))
  (h1:SqL X.K H a xs)(h2:fg X.K H ds xs)(h1':SqL X.K H b ys)(h2':fg X.K H ds' ys)(hu:A.units<cLine):RcNeAt A s (.ref a) (.ref b) (!lr ds ds'):=by
 obtain⟨its,r,p,_⟩:=I.list h1;obtain⟨its',r',p',_⟩:=I.list h1';have l1:=h2.length;have l2:=h2'.length;have l3:=r.length;have l4:=r'.length;by_cases hl:ds.length=ds'.length
 ·have key:=RcNeAt.lists (e:=fun j=>match ds[j]?,ds'[j]? with |some d,some d'=>eqD d d'|_,_=>false) p.isList p'.isList (A:=A) (by simp;omega) hu (fun j g1 g2=>by
   have g1':j<its.length:=by simpa using g1
   have g2':j<its'.length:=by simpa using g2
   have e1:ds[j]? =some ds[j]:=ae (by omega);have e2:ds'[j]? =some ds'[j]:=ae (by omega);show EqAt A.in1 s _ _ (match ds[j]?,ds'[j]? with |some d,some d'=>eqD d d'|_,_=>false);rw[e1,e2];obtain⟨x,hx,rx⟩:=h2.at e1;obtain⟨y,hy,ry⟩:=h2'.at e2;obtain⟨u,hu1,ru⟩:=r.get hx;obtain⟨u',hu2,ru'⟩:=r'.get hy;have q1:its.toArray[j]=u:=by have :its[j]? =some its[j]:=ae g1';rw[this]at hu1;simpa using hu1
   have q2:its'.toArray[j]=u':=by have :its'[j]? =some its'[j]:=ae g2';rw[this]at hu2;simpa using hu2
   rw[q1,q2];exact hit j _ _ x y u u' e1 e2 rx ry ru ru')
  have hs:its.toArray.size=ds.length:=by simp;omega
  rw[hs,l9 ds ds' _ hl fun i x y hx hy=>by simp only[hx,hy]]at key;exact key
 ·have key:=RcNeAt.lists_lengths p.isList p'.isList (A:=A) (by simp;omega) hu
  rw[l8 ds ds' hl];exact key
theorem Inv.rcD(I:Inv X pins σ H s)(A:Around)(d d':D)(v v':V)(u u':Value)(h:Rep X.K H d v)(h':Rep X.K H d' v')(r:RelV v u)(r':RelV v' u')(hu:A.units+hgt d+1<cLine):RcAt A s u u' (eqD d d'):=by
 obtain⟨rfl,rfl,rfl⟩ |⟨_,rfl,rfl,rfl⟩ |⟨_,t,rfl,rfl,rfl⟩ |⟨_,t,rfl,rfl,rfl⟩ |⟨ds,a,xs,its,rfl,rfl,rfl,h1,h2,p⟩ |⟨ds,a,xs,its,rfl,rfl,rfl,h1,h2,p⟩:=I.shp h r<;>obtain⟨rfl,rfl,rfl⟩ |⟨_,rfl,rfl,rfl⟩ |⟨_,t',rfl,rfl,rfl⟩ |⟨_,t',rfl,rfl,rfl⟩ |⟨ds',b,ys,its',rfl,rfl,rfl,h1',h2',p'⟩ |⟨ds',b,ys,its',rfl,rfl,rfl,h1',h2',p'⟩:=I.shp h' r'
 ·exact RcAt.none_none
 ·exact RcAt.none_bool _
 ·exact RcAt.none_int _ t'
 ·exact RcAt.none_str _ t'
 ·exact RcAt.none_tuple p' (by omega)
 ·exact RcAt.none_list p' (by omega)
 ·exact RcAt.bool_none _
 ·exact RcAt.bool_bool _ _
 ·exact RcAt.bool_int _ _ t'
 ·exact RcAt.bool_str _ _ t'
 ·exact RcAt.bool_tuple _ p' (by omega)
 ·exact RcAt.bool_list _ p' (by omega)
 ·exact RcAt.int_none _ t
 ·exact RcAt.int_bool _ t _
 ·exact RcAt.int_int _ t _ t'
 ·exact RcAt.int_str _ t _ t'
 ·exact RcAt.int_tuple _ t p' (by omega)
 ·exact RcAt.int_list _ t p' (by omega)
 ·exact RcAt.str_none _ t
 ·exact RcAt.str_bool _ t _
 ·exact RcAt.str_int _ t _ t'
 ·exact RcAt.str_str _ t _ t'
 ·exact RcAt.str_tuple _ t p' (by omega)
 ·exact RcAt.str_list _ t p' (by omega)
 ·exact RcAt.tuple_none p (by omega)
 ·exact RcAt.tuple_bool _ p (by omega)
 ·exact RcAt.tuple_int _ t' p (by omega)
 ·exact RcAt.tuple_str _ t' p (by omega)
 ·rw[eqD];exact Inv.rcTup I A (fun i d d' x y u u' e1 e2 rx ry ru ru'=>Inv.CW I (gv ds) A.in1 d d' x y u u' rx ry ru ru' (qg e1) (by rw[hgt]at hu;show A.units+1+gv ds+1<cLine;omega)) h1 h2 h1' h2' (by omega)
 ·exact RcAt.tuple_list p p' (by omega)
 ·exact RcAt.list_none p (by omega)
 ·exact RcAt.list_bool _ p (by omega)
 ·exact RcAt.list_int _ t' p (by omega)
 ·exact RcAt.list_str _ t' p (by omega)
 ·exact RcAt.list_tuple p p' (by omega)
 ·rw[eqD];exact Inv.rcLst I A (fun i d d' x y u u' e1 e2 rx ry ru ru'=>Inv.CW I (gv ds) A.in1 d d' x y u u' rx ry ru ru' (qg e1) (by rw[hgt]at hu;show A.units+1+gv ds+1<cLine;omega)) h1 h2 h1' h2' (by omega)
theorem Inv.rcNeD(I:Inv X pins σ H s)(A:Around)(d d':D)(v v':V)(u u':Value)(h:Rep X.K H d v)(h':Rep X.K H d' v')(r:RelV v u)(r':RelV v' u')(hu:A.units+hgt d+1<cLine):RcNeAt A s u u' (!eqD d d'):=by
 obtain⟨rfl,rfl,rfl⟩ |⟨_,rfl,rfl,rfl⟩ |⟨_,t,rfl,rfl,rfl⟩ |⟨_,t,rfl,rfl,rfl⟩ |⟨ds,a,xs,its,rfl,rfl,rfl,h1,h2,p⟩ |⟨ds,a,xs,its,rfl,rfl,rfl,h1,h2,p⟩:=I.shp h r<;>obtain⟨rfl,rfl,rfl⟩ |⟨_,rfl,rfl,rfl⟩ |⟨_,t',rfl,rfl,rfl⟩ |⟨_,t',rfl,rfl,rfl⟩ |⟨ds',b,ys,its',rfl,rfl,rfl,h1',h2',p'⟩ |⟨ds',b,ys,its',rfl,rfl,rfl,h1',h2',p'⟩:=I.shp h' r'
 ·exact RcNeAt.none_none
 ·exact RcNeAt.none_bool _
 ·exact RcNeAt.none_int _ t'
 ·exact RcNeAt.none_str _ t'
 ·exact RcNeAt.none_tuple p' (by omega)
 ·exact RcNeAt.none_list p' (by omega)
 ·exact RcNeAt.bool_none _
 ·exact RcNeAt.bool_bool _ _
 ·exact RcNeAt.bool_int _ _ t'
 ·exact RcNeAt.bool_str _ _ t'
 ·exact RcNeAt.bool_tuple _ p' (by omega)
 ·exact RcNeAt.bool_list _ p' (by omega)
 ·exact RcNeAt.int_none _ t
 ·exact RcNeAt.int_bool _ t _
 ·exact RcNeAt.int_int _ t _ t'
 ·exact RcNeAt.int_str _ t _ t'
 ·exact RcNeAt.int_tuple _ t p' (by omega)
 ·exact RcNeAt.int_list _ t p' (by omega)
 ·exact RcNeAt.str_none _ t
 ·exact RcNeAt.str_bool _ t _
 ·exact RcNeAt.str_int _ t _ t'
 ·exact RcNeAt.str_str _ t _ t'
 ·exact RcNeAt.str_tuple _ t p' (by omega)
 ·exact RcNeAt.str_list _ t p' (by omega)
 ·exact RcNeAt.tuple_none p (by omega)
 ·exact RcNeAt.tuple_bool _ p (by omega)
 ·exact RcNeAt.tuple_int _ t' p (by omega)
 ·exact RcNeAt.tuple_str _ t' p (by omega)
 ·rw[eqD];exact Inv.neTup I A (fun i d d' x y u u' e1 e2 rx ry ru ru'=>Inv.CW I (gv ds) A.in1 d d' x y u u' rx ry ru ru' (qg e1) (by rw[hgt]at hu;show A.units+1+gv ds+1<cLine;omega)) h1 h2 h1' h2' (by omega)
 ·exact RcNeAt.tuple_list p p' (by omega)
 ·exact RcNeAt.list_none p (by omega)
 ·exact RcNeAt.list_bool _ p (by omega)
 ·exact RcNeAt.list_int _ t' p (by omega)
 ·exact RcNeAt.list_str _ t' p (by omega)
 ·exact RcNeAt.list_tuple p p' (by omega)
 ·rw[eqD];exact Inv.neLst I A (fun i d d' x y u u' e1 e2 rx ry ru ru'=>Inv.CW I (gv ds) A.in1 d d' x y u u' rx ry ru ru' (qg e1) (by rw[hgt]at hu;show A.units+1+gv ds+1<cLine;omega)) h1 h2 h1' h2' (by omega)
noncomputable def rEqD(K:af):R2:=fun x y H Q=>∃d d',Rep K H d x/\Rep K H d' y/\hgt d<=30/\Q (.bl (eqD d d')) H
noncomputable def rNeD(K:af):R2:=fun x y H Q=>∃d d',Rep K H d x/\Rep K H d' y/\hgt d<=30/\Q (.bl (!eqD d d')) H
theorem op_eqD(hu:X.A.units+40<cLine):OpR X (da .Eq) (rEqD X.K):=by
 intro pins s σ H x y v u Q I rx ry h;obtain⟨d,d',h1,h2,hd,q⟩:=h;exact I.rcD X.A d d' x y v u h1 h2 rx ry (by omega) _ _ _ _ (tH I q rfl)
theorem op_neD(hu:X.A.units+40<cLine):OpR X (da .NotEq) (rNeD X.K):=by
 intro pins s σ H x y v u Q I rx ry h;obtain⟨d,d',h1,h2,hd,q⟩:=h;exact I.rcNeD X.A d d' x y v u h1 h2 rx ry (by omega) _ _ _ _ (tH I q rfl)
end
end L2
namespace Q
open PySem PySem.W PyProof.Rows
noncomputable def run{α:Type}(lt:Nat->Nat->Bool):KasT α->α
 |.ret a=>a
 |.ask i j k=>run lt (k (lt i j))
theorem run_bind{α β:Type}(lt:Nat->Nat->Bool)(f:α->KasT β):∀t:KasT α,run lt (t.bind f)=run lt (f (run lt t))
 |.ret a=>rfl
 |.ask i j k=>run_bind lt f (k (lt i j))
noncomputable def okT{α:Type}(lt:Nat->Nat->Bool)(n:Nat):KasT α->Prop
 |.ret _=>True
 |.ask i j k=>(i<n/\j<n/\i≠j)/\okT lt n (k (lt i j))
theorem mE{α β:Type}{lt:Nat->Nat->Bool}{n:Nat}{f:α->KasT β}:∀{t:KasT α},okT lt n t->okT lt n (f (run lt t))->okT lt n (t.bind f)
 |.ret a,_,h=>h
 |.ask i j k,h,h'=>⟨h.1,mE h.2 h'⟩
structure Tot(lt:Nat->Nat->Bool)(n:Nat):Prop where
 tri:∀i j,i<n->j<n->i≠j->lt i j= !lt j i
 tr:∀i j k,i<n->j<n->k<n->lt i j=true->lt j k=true->lt i k=true
noncomputable abbrev at'(p:Array Nat)(i:Nat):Nat:=p.getD i 0
theorem De(p:Array Nat)(i:Nat):at' p i=(p[i]?).getD 0:=by simp[at',bZ]
structure Pm(p:Array Nat)(n:Nat):Prop where
 perm:p.Perm (aq n).toArray
theorem Pm.size{p:Array Nat}{n:Nat}(h:Pm p n):p.size=n:=by rw[h.perm.size_eq];simp
theorem Pm.lt{p:Array Nat}{n:Nat}(h:Pm p n){i:Nat}(hi:i<n):at' p i<n:=by
 have hs:i<p.size:=by rw[h.size];exact hi
 have e:at' p i=p[i]:=by simp[at',hs]
 have m:p[i]∈(aq n).toArray:=h.perm.mem_iff.mp (Array.getElem_mem hs);rw[e];simpa using m
theorem Pm.inj{p:Array Nat}{n:Nat}(h:Pm p n){i j:Nat}(hi:i<n)(hj:j<n)(e:at' p i=at' p j):i=j:=by
 have hsi:i<p.size:=by rw[h.size];exact hi
 have hsj:j<p.size:=by rw[h.size];exact hj
 have nd:p.toList.Nodup:=by
  have q:p.toList.Perm (aq n):=by simpa using gI.mp h.perm
  exact q.nodup_iff.mpr gU
 have e1:at' p i=p.toList[i]'(by simpa using hsi):=by simp[at',hsi]
 have e2:at' p j=p.toList[j]'(by simpa using hsj):=by simp[at',hsj]
 rw[e1,e2]at e;exact(dY nd).mp e
theorem Il{p:Array Nat}{i j:Nat}(hj:j<=p.size)(k:Nat):at' (yq p i j) k=if i<=k/\k<j then at' p (i+j-1-k)else at' p k:=by
 rw[De];unfold yq;rw[getElem?_mirror_all hj];split <;>rw[De]
theorem Im{p:Array Nat}{src d:Nat}(hs:src<p.size)(hd:d<=src)(k:Nat):at' (bubble p src d) k=if k=src-d then at' p src else if src-d<k/\k<=src then at' p (k-1)else at' p k:=by
 rw[De,getElem?_bubble hs d hd];split
 ·simp[at',hs]
 ·split <;>rw[De]
theorem Pm.rev{p:Array Nat}{n i j:Nat}(h:Pm p n):Pm (yq p i j) n:=⟨(mirror_perm _ _ _ _).trans h.perm⟩
theorem Pm.bub{p:Array Nat}{n i j:Nat}(h:Pm p n):Pm (bubble p i j) n:=⟨(bubble_perm _ _ _).trans h.perm⟩
noncomputable def Up(lt:Nat->Nat->Bool)(p:Array Nat)(m:Nat):Prop:=∀i j,i<j->j<m->lt (at' p i) (at' p j)=true
noncomputable def Dn(lt:Nat->Nat->Bool)(p:Array Nat)(m:Nat):Prop:=∀i j,i<j->j<m->lt (at' p j) (at' p i)=true
section
variable {lt:Nat->Nat->Bool}{N:Nat}{p:Array Nat}
theorem Tot.flip(T:Tot lt N)(P:Pm p N){i j:Nat}(hi:i<N)(hj:j<N)(n:i≠j)(h:lt (at' p i) (at' p j)=false):lt (at' p j) (at' p i)=true:=by
 have q:=T.tri _ _ (P.lt hi) (P.lt hj) fun e=>n (P.inj hi hj e);rw[h]at q;simpa using q.symm
theorem Pm.ask{p:Array Nat}(P:Pm p N){i j:Nat}(hi:i<N)(hj:j<N)(n:i≠j):at' p i<N/\at' p j<N/\at' p i≠at' p j:=⟨P.lt hi,P.lt hj,fun e=>n (P.inj hi hj e)⟩
theorem Up.succ(T:Tot lt N)(P:Pm p N){n:Nat}(h1:1<=n)(hn:n<N)(u:Up lt p n)(h:lt (at' p (n-1)) (at' p n)=true):Up lt p (n+1):=by
 intro i j hij hj;by_cases e:j=n
 ·subst e
  by_cases e2:i=j-1
  ·subst e2;exact h
  ·exact T.tr _ _ _ (P.lt (by omega)) (P.lt (by omega)) (P.lt hn) (u i (j-1) (by omega) (by omega)) h
 ·exact u i j hij (by omega)
theorem Dn.succ(T:Tot lt N)(P:Pm p N){n:Nat}(h1:1<=n)(hn:n<N)(u:Dn lt p n)(h:lt (at' p n) (at' p (n-1))=true):Dn lt p (n+1):=by
 intro i j hij hj;by_cases e:j=n
 ·subst e
  by_cases e2:i=j-1
  ·subst e2;exact h
  ·exact T.tr _ _ _ (P.lt hn) (P.lt (by omega)) (P.lt (by omega)) h (u i (j-1) (by omega) (by omega))
 ·exact u i j hij (by omega)
theorem xp(T:Tot lt N)(P:Pm p N):∀(f n:Nat),1<=n->n+f<=N->Up lt p n->∃m,run lt (kas_asc p f n)=m/\n<=m/\m<=n+f/\Up lt p m/\(m=n+f\/lt (at' p m) (at' p (m-1))=true)/\okT lt N (kas_asc p f n)
 | 0,n,h1,h2,u=>⟨n,rfl,ax _,ax _,u,.inl rfl,trivial⟩
 |f+1,n,h1,h2,u=>by
  unfold kas_asc;have hask:=P.ask (i:=n) (j:=n-1) (by omega) (by omega) (by omega);simp only[run,okT];by_cases c:lt (at' p n) (at' p (n-1))=true
  ·rw[if_pos c]
   exact⟨n,rfl,ax _,by omega,u,.inr c,hask,trivial⟩
  ·rw[if_neg c]
   have c':lt (at' p n) (at' p (n-1))=false:=by simpa using c
   obtain⟨m,e,a1,a2,a3,a4,a5⟩:=xp T P f (n+1) (by omega) (by omega) (u.succ T P h1 (by omega) (T.flip P (by omega) (by omega) (by omega) c'));refine⟨m,e,by omega,by omega,a3,?_,hask,a5⟩;rcases a4 with z|z
   ·exact .inl (by omega)
   ·exact .inr z
theorem zb(T:Tot lt N)(P:Pm p N):∀(f n:Nat),1<=n->n+f<=N->Dn lt p n->∃m,run lt (kas_desc f p n 0)=(p,m,0)/\n<=m/\m<=n+f/\Dn lt p m/\okT lt N (kas_desc f p n 0)
 | 0,n,h1,h2,u=>⟨n,rfl,ax _,ax _,u,trivial⟩
 |f+1,n,h1,h2,u=>by
  unfold kas_desc;have hask:=P.ask (i:=n) (j:=n-1) (by omega) (by omega) (by omega);have hask2:=P.ask (i:=n-1) (j:=n) (by omega) (by omega) (by omega);simp only[run,okT];by_cases c:lt (at' p n) (at' p (n-1))=true
  ·rw[if_pos c,if_neg (dM 0)]
   obtain⟨m,e,a1,a2,a3,a4⟩:=zb T P f (n+1) (by omega) (by omega) (u.succ T P h1 (by omega) c);exact⟨m,e,by omega,by omega,a3,hask,a4⟩
  ·rw[if_neg c]
   have c':lt (at' p n) (at' p (n-1))=false:=by simpa using c
   have d:=T.flip P (by omega) (by omega) (by omega) c';simp only[run,okT];rw[if_pos d];exact⟨n,rfl,ax _,by omega,u,hask,hask2,trivial⟩
theorem FX(T:Tot lt N)(P:Pm p N){n:Nat}(h1:1<=n)(hn:n<=N)(u:Dn lt p n):∃m p',run lt (kas_tail3 n N p)=(m,p')/\1<=m/\m<=N/\Up lt p' m/\Pm p' N/\okT lt N (kas_tail3 n N p):=by
 have u':Up lt (yq p 0 n) n:=by
  intro i j hij hj;rw[Il (by rw[P.size];exact hn),Il (by rw[P.size];exact hn),if_pos ⟨a7 _,by omega⟩,if_pos ⟨a7 _,hj⟩];exact u _ _ (by omega) (by omega)
 obtain⟨m,e,a1,a2,a3,_,a5⟩:=xp T P.rev (N-n) n h1 (by omega) u';unfold kas_tail3;refine⟨m,yq p 0 n,?_,by omega,by omega,a3,P.rev,mE a5 trivial⟩;rw[run_bind,e];rfl
theorem xm(T:Tot lt N)(P:Pm p N){n:Nat}(hn:n+1<=N)(u:Dn lt p (n+1)):∃m p',run lt (jm n N p)=(m,p')/\1<=m/\m<=N/\Up lt p' m/\Pm p' N/\okT lt N (jm n N p):=by
 obtain⟨m,e,a1,a2,a3,a4⟩:=zb T P (N-(n+1)) (n+1) (by omega) (by omega) u;obtain⟨m2,p2,b1,b2,b3,b4,b5,b6⟩:=FX T P (by omega) (by omega) a3;unfold jm;refine⟨m2,p2,?_,b2,b3,b4,b5,mE a4 ?_⟩
 ·rw[run_bind,e]
  exact b1
 ·rw[e]
  exact b6
theorem DH(T:Tot lt N)(P:Pm p N)(hN:1<=N):∃m p',run lt (kas_count N p)=(m,p')/\1<=m/\m<=N/\Up lt p' m/\Pm p' N/\okT lt N (kas_count N p):=by
 obtain⟨m,e,a1,a2,a3,a4,a5⟩:=xp T P (N-1) 1 (ax _) (by omega) (fun i j hij hj=>by omega);have hmid:∃m' p',run lt (if(m==N)=true then rS (m,p)else if m>1 then KasT.ask (p.getD 0 0) (p.getD (m-1) 0) fun c=>if c=true then rS (m,p)else jm m N (yq p 0 m)else jm m N p)=(m',p')/\1<=m'/\m'<=N/\Up lt p' m'/\Pm p' N/\
   okT lt N (if(m==N)=true then rS (m,p)else if m>1 then KasT.ask (p.getD 0 0) (p.getD (m-1) 0) fun c=>if c=true then rS (m,p)else jm m N (yq p 0 m)else jm m N p):=by
  by_cases c:m=N
  ·rw[if_pos (by simpa using c)]
   exact⟨m,p,rfl,a1,by omega,a3,P,trivial⟩
  ·rw[if_neg (by simpa using c)]
   by_cases d:m>1
   ·rw[if_pos d]
    simp only[run,okT];rw[if_pos (a3 0 (m-1) (by omega) (by omega))];exact⟨m,p,rfl,a1,by omega,a3,P,P.ask (by omega) (by omega) (by omega),trivial⟩
   ·rw[if_neg d]
    obtain rfl:m=1:=by omega
    rcases a4 with z|z
    ·omega
    ·exact xm T P (by omega) fun i j hij hj=>by
      obtain rfl:j=1:=by omega
      obtain rfl:i=0:=by omega
      exact z
 obtain⟨m',p',b1,b2,b3,b4,b5,b6⟩:=hmid;unfold kas_count;refine⟨m',p',?_,b2,b3,b4,b5,mE a5 ?_⟩
 ·rw[run_bind,e]
  exact b1
 ·rw[e]
  exact b6
theorem p6(T:Tot lt N)(P:Pm p N){k:Nat}(hk:k<N)(u:Up lt p k):∀(f l r:Nat),l<=r->r<=k->r-l<=f->(∀i,i<l->lt (at' p i) (at' p k)=true)->(∀i,r<=i->i<k->lt (at' p k) (at' p i)=true)->
  ∃q,run lt (kas_place p k f l r)=q/\q<=k/\(∀i,i<q->lt (at' p i) (at' p k)=true)/\(∀i,q<=i->i<k->lt (at' p k) (at' p i)=true)/\okT lt N (kas_place p k f l r)
 | 0,l,r,h1,h2,h3,a,b=>⟨l,rfl,by omega,a,fun i hi=>b i (by omega),trivial⟩
 |f+1,l,r,h1,h2,h3,a,b=>by
  unfold kas_place;by_cases c:l≥ r
  ·rw[if_pos c]
   exact⟨l,rfl,by omega,a,fun i hi=>b i (by omega),trivial⟩
  ·rw[if_neg c]
   have hask:=P.ask (i:=k) (j:=(l+r)/2) hk (by omega) (by omega);simp only[run,okT];by_cases d:lt (at' p k) (at' p ((l+r)/2))=true
   ·rw[if_pos d]
    have key:=p6 T P hk u f l ((l+r)/2) (by omega) (by omega) (by omega) a fun i hi hik=>?_;obtain⟨q,y1,y2,y3,y4,y5⟩:=key;exact⟨q,y1,y2,y3,y4,hask,y5⟩;by_cases e:i=(l+r)/2
    ·rw[e];exact d
    ·exact T.tr _ _ _ (P.lt hk) (P.lt (by omega)) (P.lt (by omega)) d (u _ _ (by omega) hik)
   ·rw[if_neg d]
    have d':=T.flip P hk (by omega:(l+r)/2<N) (by omega) (by simpa using d);have key:=p6 T P hk u f ((l+r)/2+1) r (by omega) h2 (by omega) (fun i hi=>?_) b;obtain⟨q,y1,y2,y3,y4,y5⟩:=key;exact⟨q,y1,y2,y3,y4,hask,y5⟩;by_cases e:i=(l+r)/2
    ·rw[e];exact d'
    ·exact T.tr _ _ _ (P.lt (by omega)) (P.lt (by omega)) (P.lt hk) (u _ _ (by omega) (by omega)) d'
end
theorem Ca{lt:Nat->Nat->Bool}{N:Nat}(T:Tot lt N):∀(f k:Nat)(p:Array Nat),Pm p N->k+f=N->Up lt p k->∃p',run lt (kas_bin f p k)=p'/\Up lt p' N/\Pm p' N/\okT lt N (kas_bin f p k)
 | 0,k,p,P,h,u=>⟨p,rfl,by rw[<-h];exact u,P,trivial⟩
 |f+1,k,p,P,h,u=>by
  have hk:k<N:=by omega
  obtain⟨q,e,hq,a,b,okp⟩:=p6 T P hk u k 0 k (a7 _) (ax _) (by omega) (fun i hi=>absurd hi (gh _)) fun i h1 h2=>by omega
  have key:=Ca T f (k+1) (bubble p k (k-q)) P.bub (by omega) fun i j hij hj=>?_;obtain⟨p',y1,y2,y3,y4⟩:=key;unfold kas_bin;refine⟨p',?_,y2,y3,mE okp ?_⟩
  ·rw[run_bind,e]
   exact y1
  ·rw[e]
   exact y4
  have hs:k<p.size:=by rw[P.size];exact hk
  rw[Im hs (by omega),Im hs (by omega)];have eq:k-(k-q)=q:=by omega
  rw[eq];by_cases c1:i=q
  ·rw[if_pos c1,if_neg (by omega),if_pos (by omega)]
   exact b _ (by omega) (by omega)
  ·rw[if_neg c1]
   by_cases c2:j=q
   ·rw[if_pos c2,if_neg (by omega)]
    exact a i (by omega)
   ·rw[if_neg c2]
    by_cases c3:q<i
    ·rw[if_pos (by omega),if_pos (by omega)]
     exact u _ _ (by omega) (by omega)
    ·rw[if_neg (by omega)]
     by_cases c4:q<j
     ·rw[if_pos (by omega)]
      exact u _ _ (by omega) (by omega)
     ·rw[if_neg (by omega)]
      exact u _ _ (by omega) (by omega)
theorem fv{lt:Nat->Nat->Bool}{N:Nat}(T:Tot lt N)(hN:1<=N):Pm (run lt (cV N)) N/\Up lt (run lt (cV N)) N/\okT lt N (cV N):=by
 have P0:Pm (dZ (aq N)) N:=⟨Array.Perm.refl _⟩;obtain⟨m,p',e,a1,a2,a3,a4,a5⟩:=DH T P0 hN;have hm:max m 1=m:=by omega
 have hmid:∃p2,run lt (if m<N then kas_bin (N-max m 1) p' (max m 1)else rS p')=p2/\Up lt p2 N/\Pm p2 N/\okT lt N (if m<N then kas_bin (N-max m 1) p' (max m 1)else rS p'):=by
  rw[hm];by_cases c:m<N
  ·rw[if_pos c]
   exact Ca T (N-m) m p' a4 (by omega) a3
  ·rw[if_neg c]
   have e2:m=N:=by omega
   exact⟨p',rfl,by rw[<-e2];exact a3,a4,trivial⟩
 obtain⟨p2,b1,b2,b3,b4⟩:=hmid;have er:run lt (cV N)=p2:=by
  unfold cV;rw[run_bind,e];exact b1
 rw[er];refine⟨b3,b2,?_⟩;unfold cV;refine mE a5 ?_;rw[e];exact b4
theorem wp_run{lt:Nat->Nat->Bool}{N:Nat}{S:Shared->Prop}{cmp:Nat->Nat->(Bool->Shared->Prop)->Shared->Prop}{α:Type}{G:α->Shared->Prop}
  (h:∀i j C s,i<N->j<N->i≠j->S s->(∀s',S s'->C (lt i j) s')->cmp i j C s):
  ∀(t:KasT α)(s:Shared),okT lt N t->S s->(∀s',S s'->G (run lt t) s')->t.kasWp cmp G s
 |.ret a,s,_,hs,g=>g s hs
 |.ask i j k,s,ok,hs,g=>h i j _ s ok.1.1 ok.1.2.1 ok.1.2.2 hs fun s' hs'=>wp_run h (k (lt i j)) s' ok.2 hs' g
end Q
namespace L2
open PySem PySem.Spec PyProof.Rows
structure Fly(h₀ h:Heap)(H:Hp)(pn:List (Addr×Obj))(a:Addr)(c:Value)(d:Option Addr):Prop where
 ex:∃T oe vs oT ts,h.get? a=some oe/\oe.cls=c/\oe.dict=d/\oe.data=.fields vs/\vs[1]? =some (.ref T)/\T≠a/\h.get? T=some oT/\oT.data=.fields ts/\ts[3]? =some .none/\h₀.get? T=none/\H T=none/\∀p∈pn,p.1≠T
 new:h₀.get? a=none
 un:H a=none
 pins:∀p∈pn,p.1≠a
noncomputable def CXx(P:Program)(w:World):CXT:=fun outer H s E e s'=>
 ∃a c d H',e=.ref a/\s'.os=s.os/\mX s'.gens/\Un (frs outer) [] H H' s.heap s'.heap/\HOk P w H' s'.heap/\Fly s.heap s'.heap H' [] a c d/\E c d H'
section
variable {X:Cx}{pins:List (Addr×Obj)}{σ:St}{H:Hp}{s:Shared}
theorem Inv.wI{h':Heap}{t':Nat}{it:Addr}(I:Inv X pins σ H s)(k:∀b o,b≠it->s.heap.get? b=some o->h'.get? b=some o)(hn:H it=none)(hL:it≠X.env.locals)
  (h1:X.s₀.heap.get? it=none)(h2:∀x c,X.env.cells.lookup x=some c->c≠it)(h3:∀p∈X.pn++pins,p.1≠it):Inv X pins σ H {s with heap:=h',toks:=t'}:=by
 have ne0:∀b o,X.s₀.heap.get? b=some o->b≠it:=fun b o e z=>by rw[z,h1]at e;cases e
 have nit:∀b u,H b=some u->b≠it:=fun b u e z=>by rw[z,hn]at e;cases e
 refine⟨I.ok,I.os,I.bare,⟨fun b o e n hb hx=>k b o (ne0 b o e) (I.base.keep b o e n hb hx),fun b o e n hb hx=>?_,I.base.free,fun b o e hx=>?_,I.base.tups,I.base.frzs,I.base.tbls⟩,?_,fun x c e=>?_,I.free,I.freeC,fun p hp=>?_,fun b u e=>?_,I.len⟩
 ·obtain⟨sl,q⟩:=I.base.slot b o e n hb hx
  exact⟨sl,k _ _ (ne0 b o e) q⟩
 ·obtain⟨o',q⟩:=I.base.there b o e hx
  exact⟨o',k _ _ (ne0 b o e) q⟩
 ·obtain⟨m,⟨o,es,ep,ho,r⟩,hl⟩:=I.loc
  refine⟨m,⟨o,es,ep,k _ _ (cb hL) ho,r⟩,fun i x v e1 e2 e3=>?_⟩;obtain⟨u,ru,l⟩:=hl i x v e1 e2 e3;refine⟨u,ru,?_⟩;rcases l with l|⟨kk,c,e,oc,q,dd⟩
  ·exact .inl l
  ·exact .inr ⟨kk,c,e,oc,k _ _ (h2 x c e) q,dd⟩
 ·obtain⟨v,oc,q,dd⟩:=I.cell x c e
  exact⟨v,oc,k _ _ (h2 x c e) q,dd⟩
 ·obtain⟨e,n,ne,nf,d⟩:=I.pin p hp
  exact⟨k _ _ (h3 p hp) e,n,ne,nf,d⟩
 ·refine(I.hok b u e).mY (fun c v hc q=>k c v ?_ q) (fun _ q=>q) fun _ _ q=>q
  rcases hc with z|z
  ·rw[z];exact nit b u e
  ·exact nit c _ z
theorem Inv.A1(I:Inv X pins σ H s){a:Addr}{o:Obj}{vs:Array Value}(e:s.heap.get? a=some o)(hd:o.data=.fields vs):a≠X.env.locals/\∀x c,X.env.cells.lookup x=some c->c≠a:=by
 refine⟨fun z=>?_,fun x c hc z=>?_⟩
 ·obtain⟨m,⟨o',es,ep,ho',hd',_⟩,_⟩:=I.loc
  rw[<-z,e]at ho';cases ho';rw[hd]at hd';cases hd'
 ·obtain⟨v,o',ho',hd'⟩:=I.cell x c hc
  rw[z,e]at ho';cases ho';rw[hd]at hd';cases hd'
theorem dQ.has{P:Program}{w:World}{H:Hp}{h:Heap}{a:Addr}{o:HO}(x:dQ P w H h a o):∃ob,h.get? a=some ob:=by
 cases o with
 |lst xs=>obtain⟨_,_,_,_,e⟩:=x;exact⟨_,e⟩
 |tup xs=>obtain⟨_,_,_,_,e,_⟩:=x;exact⟨_,e⟩
 |dK kvs=>obtain⟨_,_,_,_,o,_,_,e,_⟩:=x;exact⟨_,e⟩
 |dT kvs=>obtain⟨_,_,_,_,o,_,_,e,_⟩:=x;exact⟨_,e⟩
 |set S n=>obtain⟨o,_,_,_,e,_⟩:=x;exact⟨_,e⟩
 |ins C dx fs=>obtain⟨_,_,_,e,_⟩:=x;exact⟨_,e⟩
 |own y=>exact x
 |xd fs=>obtain⟨_,⟨_,_,_,e,_⟩,_⟩:=x;exact⟨_,e⟩
 |rng lo hi=>obtain⟨_,_,_,e⟩:=x;exact⟨_,e⟩
 |frz ob u=>obtain⟨e,_⟩:=x;exact⟨_,e⟩
 |tbl ps=>exact⟨_,x⟩
 |met f y=>exact⟨_,x⟩
 |ext φ=>exact x.2.1
section
variable {M:Model}{E:Value->Shared->Prop}{Q:Unit->Shared->Prop}
theorem enter{a:Addr}{oe:Obj}{vs:Array Value}{head:Value}{more:Bool}(I:Inv X pins σ H s)(stk:X.stack=X.env::X.outer)(hf:X.env.frame=some X.env.locals)
  (he:s.heap.get? a=some oe)(hd:oe.data=.fields vs)(hsz:1<vs.size)(h0:X.s₀.heap.get? a=none)(hH:H a=none)(hp:∀p∈X.pn++pins,p.1≠a)
  (h:∀s2,Inv X pins σ H s2->Fly X.s₀.heap s2.heap H (X.pn++pins) a oe.cls oe.dict->Q () s2):
  wpAny M X.A (do let f<-frameOf X.env;let l<-entryPlaceOf X.env.locals more;let b<-Ao head f .none (rawInt X.env.locals) .none l;rq (.ref a) 1 b)
   (fun _ s'=>wpAny M X.A (Af (.ref a) none) Q E s') E s:=by
 have hfr:X.A.frames=some (X.env::X.outer):=by rw[<-stk];exact I.ok.frames
 have hl:s.heap.FunFrames X.base (X.env::X.outer):=by rw[<-stk];exact I.stack
 have nofr:∀b∈frs X.stack,H b=none:=I.wN;refine aa (wpAny_frameOf_fun hfr hl hf fun h1 hs=>?_);have hs':Heap.SlotsOnly (frs X.stack) s.heap h1:=by rw[stk];exact hs
 have hane:a∉frs X.stack:=fun hm=>by
  rw[stk]at hm;obtain⟨_,o,ho,hnf⟩:=hl.mem hm;rw[he]at ho;cases ho;exact hnf vs hd
 have u1:Un (frs X.stack) [] H H s.heap h1:=
  ⟨fun b o e _ hb _=>(hs'.2.1 b hb).trans e,fun b o e _ _ _=>hs'.2.2 b o e,fun _ _ _ n _=>n,fun b o e _=>let⟨sl,q⟩:=hs'.2.2 b o e;⟨_,q⟩,fun _ _ q=>q,fun _ _ _ q=>q,fun _ ps q=>⟨#[],by rw[q];simp⟩⟩
 have k1:HOk X.prog X.w H h1:=fun b u e=>by
  refine(I.hok b u e).mY (fun c v hc q=>(hs'.2.1 c fun hm=>?_).trans q) (fun _ q=>q) fun _ _ q=>q;have n:=nofr c hm;rcases hc with z|z
  ·rw[z,e]at n;cases n
  ·rw[z]at n;cases n
 have I1:Inv X pins σ H {s with heap:=h1}:=I.call (g':=s.gens) (t':=s.toks) (d':=s.drawn) (ch:=[]) u1 k1 I.bare fun _ z=>nomatch z;have he1:h1.get? a=some oe:=(hs'.2.1 a hane).trans he;refine aa (wpAny_entryPlaceOf fun pl hpl=>?_);unfold Ao newFields;refine aa (bx ?_ (hpl.sizeOk5 _ _ _ _ _));generalize hob:({cls:=.type "traceback",dict:=none,data:=.fields ([head,.ref X.env.locals,.none,rawInt X.env.locals,.none]++(if pl.isEmpty then iX 6 bL else pl)).toArray}:Obj)=ob;have hodata:ob.data=.fields ([head,.ref X.env.locals,.none,rawInt X.env.locals,.none]++(if pl.isEmpty then iX 6 bL else pl)).toArray:=by rw[<-hob]
 have hofree:ob.isFreed=false:=by rw[<-hob];rfl
 have I2:Inv X pins σ H {s with heap:=h1.push ob}:=I1.kept (t':=s.toks) fun b o e=>ah _ e;have he2:(h1.push ob).get? a=some oe:=ah _ he1;have hT2:(h1.push ob).get? h1.objs.size=some ob:=au _ hofree;have hTa:h1.objs.size≠a:=dq (av he1);have hd3:=iO hd (·.setIfInBounds 1 (aV h1.objs.size));refine rj he2 hd hsz ?_;obtain⟨ra1,ra2⟩:=I.A1 he hd;have I3:Inv X pins σ H {s with heap:=(h1.push ob).update a (iI (·.setIfInBounds 1 (.ref h1.objs.size)))}:=
  I2.wI (t':=s.toks) (fun b o hb e=>by rw[aN _ _ (cb hb)];exact e) hH ra1 h0 ra2 hp
 have he3:=bK (iI (·.setIfInBounds 1 (aV h1.objs.size))) he2 (oq hd3);have hT3:((h1.push ob).update a (iI (·.setIfInBounds 1 (aV h1.objs.size)))).get? h1.objs.size=some ob:=by
  rw[aN _ _ (cb hTa)];exact hT2
 have hszT:3<([head,.ref X.env.locals,.none,rawInt X.env.locals,.none]++(if pl.isEmpty then iX 6 bL else pl)).toArray.size:=by
  simp only[ay,cC,bS,m7];omega
 have hv1:(vs.setIfInBounds 1 (aV h1.objs.size))[1]? =some (.ref h1.objs.size):=by simp[hsz]
 refine wpAny_setFlight_none he3 hd3 hv1 hT3 hodata hszT ?_;have hTle:s.heap.objs.size<=h1.objs.size:=m6 hs.1.symm;have hT0:X.s₀.heap.get? h1.objs.size=none:=EZ (ba I.sz hTle);have hTH:H h1.objs.size=none:=I.hok.fresh hTle;obtain⟨rt1,rt2⟩:=I3.A1 hT3 hodata;have hpT:∀p∈X.pn++pins,p.1≠h1.objs.size:=fun p hq z=>by
  have q:=av (I.pin p hq).1;exact absurd (bc (z▸q) hTle) (dM _)
 have I4:=I3.wI (t':=s.toks) (h':=((h1.push ob).update a (iI (·.setIfInBounds 1 (.ref h1.objs.size)))).update h1.objs.size (iI (·.setIfInBounds 3 .none)))
  (fun b o hb e=>by rw[aN _ _ (cb hb)];exact e) hTH rt1 hT0 rt2 hpT
 refine h _ I4 ⟨⟨h1.objs.size,_,_,_,_,?_,Obj.cls_mapFields _ _,?_,hd3,hv1,hTa,bK _ hT3 (oq (iO hodata _)),iO hodata _,?_,hT0,hTH,hpT⟩,h0,hH,hp⟩
 ·show(Heap.update _ _ _).get? a=_
  rw[aN _ _ hTa];exact he3
 ·obtain⟨c',d',dt',sl'⟩:=oe
  cases dt'<;>rfl
 ·rw[Array.getElem?_setIfInBounds_self_of_lt hszT]
theorem GI{a:Addr}{c:Value}{args:List Value}{h':Heap}(I:Inv X pins σ H s)(stk:X.stack=X.env::X.outer)(hf:X.env.frame=some X.env.locals)(hx:X.ex=[])(hm:yI s.heap h' a c args)
  (h:∀s2,Inv X pins σ H s2->Fly X.s₀.heap s2.heap H (X.pn++pins) a c none->Q () s2):
  wpAny M X.A (lK (.ref a) X.env) (fun _ s'=>wpAny M X.A (Af (.ref a) none) Q E s') E {s with heap:=h'}:=by
 obtain⟨t,ht,_,_⟩:=hm.there;have I1:Inv X pins σ H {s with heap:=h'}:=I.kept (t':=s.toks) hm.keeps;have hH:H a=none:=by
  cases q:H a with
  |none=>rfl
  |some o=>
   obtain⟨ob,e⟩:=(I.hok a o q).has;rw[hm.new]at e;cases e
 unfold lK;simp only[hf];refine aa (eW (x:=.none) ht rfl (by rfl) ?_);rw[if_neg (show ¬(bL != bL)=true by simp)];have h0:X.s₀.heap.get? a=none:=by
  cases q:X.s₀.heap.get? a with
  |none=>rfl
  |some o=>
   obtain⟨o',e⟩:=I.base.there a o q (by rw[hx];simp);rw[hm.new]at e;cases e
 exact enter I1 stk hf ht rfl (by simp) h0 hH (fun p hp z=>by have :=(I.pin p hp).1;rw[z,hm.new]at this;cases this) h
theorem GJ{a:Addr}{c:Value}{d:Option Addr}{H':Hp}{s':Shared}(I:Inv X pins σ H s)(stk:X.stack=X.env::X.outer)(hf:X.env.frame=some X.env.locals)(hx:X.ex=[])(ho:s'.os=s.os)(hg:mX s'.gens)(u:Un (frs X.stack) [] H H' s.heap s'.heap)(ok:HOk X.prog X.w H' s'.heap)
  (F:Fly s.heap s'.heap H' [] a c d)(h:∀s2,Inv X pins σ H' s2->Fly X.s₀.heap s2.heap H' (X.pn++pins) a c d->Q () s2):
  wpAny M X.A (lK (.ref a) X.env) (fun _ s'=>wpAny M X.A (Af (.ref a) none) Q E s') E s':=by
 obtain⟨⟨T,oe,vs,oT,ts,he,rfl,rfl,hd,h1,hTa,hT,hdT,h3,hnT,hHT,_⟩,hna,hHa,_⟩:=F;have I1:Inv X pins σ H' s':=I.call' (ch:=[]) ho u ok hg fun _ z=>nomatch z;have back:∀b,s.heap.get? b=none->X.s₀.heap.get? b=none:=fun b n=>by
  cases q:X.s₀.heap.get? b with
  |none=>rfl
  |some o=>
   obtain⟨o',e⟩:=I.base.there b o q (by rw[hx];simp);rw[n]at e;cases e
 have np:∀b,s.heap.get? b=none->∀p∈X.pn++pins,p.1≠b:=fun b n p hp z=>by have :=(I.pin p hp).1;rw[z,n]at this;cases this
 unfold lK;simp only[hf];refine aa (eW he hd h1 ?_);rw[if_pos (show(aV T != bL)=true by simp)];refine aa (eW hT hdT h3 ?_);rw[if_neg (show ¬(bL==rawInt X.env.locals)=true by simp[rawInt])];refine aa (rj hT hdT (cI.mp h3).1 ?_);obtain⟨rt1,rt2⟩:=I1.A1 hT hdT;have I2:=I1.wI (t':=s'.toks) (h':=s'.heap.update T (iI (·.setIfInBounds 3 .none))) (fun b o hb e=>by rw[aN _ _ (cb hb)];exact e) hHT rt1 (back T hnT) rt2 (np T hnT);have he2:(s'.heap.update T (iI (·.setIfInBounds 3 .none))).get? a=some oe:=by rw[aN _ _ hTa];exact he
 exact enter I2 stk hf he2 hd (cI.mp h1).1 (back a hna) hHa (np a hna) h
end
end
end L2
namespace L2
open PySem PySem.Spec PySem.W PyProof.Rows
noncomputable def excOk(K:af)(C:Addr):Bool:=
 findIn K (.ref C) "__getattribute__"==some (some (.builtin "BaseException.__getattribute__"))&&findIn K (.ref C) "__getattr__"==some none&&
 findIn K (.ref C) "__class__"==some (some (.builtin "object.__class__"))&&specialIn K (.builtin "object.__class__") "__get__"==some (some (.builtin "getset_descriptor.__get__"))&&
 takesIn K (.builtin "object.__class__")==some true&&mroIn K C (.type "object")==some true&&mroIn K C (.type "BaseException")==some true&&(clsIn K C).isSome
abbrev bmV:List Value:=[.type "ValueError",.type "Exception",.type "BaseException",.type "object"]
noncomputable def HE(a:Addr)(c:Value)(d:Option Addr):HO:=.ext fun h=>∃o,h.get? a=some o/\o.cls=c/\o.dict=d/\notCls o=true
noncomputable abbrev excO(a:Addr)(c:Value):HO:=HE a c none
section
variable {X:Cx}
theorem exc_obj{K:af}{h:Heap}{C:Addr}{bmB:List Value}{newId:String}(kin:K.In h)(q:excIn K C bmB newId=true):
  ∃nm qn N bs bm hd sn sub ab col dd k0 k1 k2 k3 k5 mN,h.get? C=some (excClassObj nm qn C N bs bm hd sn sub ab col dd k0 k1 k2 k3 k5 newId)/\h.Ns N mN/\mN "__init__"=none/\OwnTail h bmB bm:=by
 unfold excIn at q;split at q
 case h_2=>cases q
 rename_i od cd sl ho;split at q
 case h_2=>cases q
 rename_i C' bm j0 j1 j2 j3 n j5 hm hs;rw[aL,aL,aL,aL,aL,beq_iff_eq,beq_iff_eq,beq_iff_eq]at q;obtain⟨⟨⟨⟨⟨e1,e2⟩,e3⟩,e4⟩,e5⟩,e6⟩:=q;subst e1;subst e2;obtain⟨c1,c2,c3,c4,c5,c6,c7,c8,c9,c10,c11⟩:=cd;have e7:c3=.ref C'::bm:=hm;have e8:c11=false:=by simpa using e3
 have e9:sl= #[j0,j1,j2,j3,some (.builtin n),j5]:=by
  apply IK
  exact hs
 subst e7;subst e8;subst e9;exact⟨_,_,_,_,_,_,_,_,_,_,_,_,_,_,_,_,_,kin _ _ ho,.of_isNs (isNs_of_in kin e5),nsMap_none_of_in kin e5 e6,tail_of_in kin e4⟩
theorem F8{x:Str}{e:Expr}{es:List Expr}{t:TA}{C:Addr}{np cpos pos:Pos}{E:St->XK}(hg:Gl X x)(hm:X.mg x=some (.ref C))(hk:keepIn X.K (.ref C)=true)(hq:excIn X.K C bmV "ValueError.__new__"=true)(ha:PA X (e::es) t)(hc:X.calm=true)(hdb:(x==("__debug__":Str))=false)
  (hst:bP (e::es) X.env=(false,eval e X.env)::bP es X.env)(hpl:(backTo cpos (bP es X.env)).any (·.1)=false)
  (made:∀pins σ H s a c args h',Inv X pins σ H s->yI s.heap h' a c args->E σ c none H->X.xe (.ref a) {s with heap:=h'}):
  PS X (.Raise (some (.Call (.Name x np) (e::es) [] cpos)) none pos) (fun D σ H=>t σ H fun vs H1=>vs.length<=sizeLine/\E σ (.ref C) none H1):=by
 intro pins s σ H D I h;obtain⟨nm,qn,N,bs,bm,hd,sn,sub,ab,col,dd,k0,k1,k2,k3,k5,mN,hC,hN,hni,T⟩:=exc_obj (bmB:=bmV) I.mod.kin hq;have hbase:bm.contains (.type "BaseException")=true:=T.hasType (by decide+kernel);rw[arm_exec_Raise];show wpAny _ _ (do standAt pos;raiseStmt X.env (some (do let v<-eval (.Call (.Name x np) (e::es) [] cpos) X.env;standAt pos;pure v)) none) _ _ s;refine aa (jZ (wpAny_raiseStmt_made_sub (C:=C) (nm:=nm) (q:=qn) (N:=N) (bs:=bs) (bm:=bm) (hdct:=hd) (sn:=sn) (sub:=sub) (ab:=ab) (col:=col) (dd:=dd) (k0:=k0) (k1:=k1) (k2:=k2) (k3:=k3) (k5:=k5) (newId:="ValueError.__new__") hbase (I.ok.hd hc) (aa (fP (Q:=fun v s1=>∃a u,v=.ref a/\s1.heap.get? C=some (excClassObj nm qn C N bs bm hd sn sub ab col dd k0 k1 k2 k3 k5 "ValueError.__new__")/\s1.heap.get? a=some {cls:=.ref C,data:=.fields #[.ref u,.none,.none,.none,.bool false,.none]}/\X.xe (.ref a) s1) (E:=X.xe) ?_ (fun v s1 z=>aa (jZ (aj z))) fun _ _ z=>z))));refine gz (rK I hg hm ?_ hdb);refine EM (h₀:=X.base) I.ok.mod.kin hk (thn (ha cpos pins s σ H _ I h) fun us s1 ⟨vs,H1,I1,r,hlen,q⟩=>⟨I1.kIn,?_⟩) hst hpl;have hC1:=I1.bk _ _ hC;obtain⟨hh,gg,dr,tk,os⟩:=s1;refine wpAny_call_exc_subT (hrest:=by rw[List.nil_append,<-r.length];exact hlen) PySem.F.excBase_ValueError (T.keeps I1.bk) hC1 (hN.keeps I1.bk) hni fun h' a hmk=>?_;obtain⟨u,hu,_,_⟩:=hmk.there;exact⟨a,u,rfl,hmk.keeps _ _ hC1,hu,made pins σ H1 _ a _ _ h' I1 hmk q⟩
end
noncomputable def Cx.re(X:Cx)(A:Around)(calm:Bool)(pn:List (Addr×Obj))(xe:Value->Shared->Prop):Cx:={X with A:=A,calm:=calm,pn:=pn,xe:=xe}
noncomputable def Ends.drop(D:Ends)(i:Nat):Ends:={nx:=fun σ H=>D.nx (σ.set i none) H,rt:=D.rt,bk:=fun σ H=>D.bk (σ.set i none) H,ct:=fun σ H=>D.ct (σ.set i none) H}
noncomputable def eCatch(K:af)(C:Addr)(i:Nat)(ts:TS)(D:Ends):St->XK:=fun σ c d H=>
 c=c/\exmOne K c (.ref C)=some true/\∀a,H a=none->ts (D.drop i) (σ.set i (some (.ref a))) (upd H a (HE a c d))
noncomputable def wCatch(X:Cx)(pins:List (Addr×Obj))(D:Ends)(hs:List ExceptHandler):Value->Shared->Prop:=fun e s1=>
 wpAny (model X.prog X.w) X.A (lK e X.env) (fun _ s2=>wpAny (model X.prog X.w) X.A (Af e none) (fun _ s3=>wpAny (model X.prog X.w) X.A (handleBy e X.env hs) (SP X pins D) X.xe s3) X.xe s2) X.xe s1
section
variable {X:Cx}{pins:List (Addr×Obj)}{σ:St}{H:Hp}{s:Shared}{x n:Str}{C:Addr}{i:Nat}{b₀:Stmt}{suite:List Stmt}{np hpos pos:Pos}{ts:TS}{D:Ends}
structure TryOk(X:Cx)(x n:Str)(C:Addr)(i:Nat)(suite:List Stmt)(ts:TS):Prop where
 nd:X.N.Nodup
 at_:X.N[i]? =some n
 loc:X.env.scope.names.lookup n=some .local
 gl:Gl X x
 mg:X.mg x=some (.ref C)
 db:(x==("__debug__":Str))=false
 stk:X.stack=X.env::X.outer
 fr:X.env.frame=some X.env.locals
 ex:X.ex=[]
 su:∀(pins:List (Addr×Obj))(a:Addr),PSs (X.re (X.A.mark (some (.ref a))) false (X.pn++pins) (fun _ _=>False)) suite ts
end
noncomputable abbrev XS:=St->XK
noncomputable abbrev N0:XS:=fun _=>E0
noncomputable def Ae(CX:CXT)(X:Cx)(E:XS):Prop:=∀(pins:List (Addr×Obj))(σ:St)(H:Hp)(s:Shared)(e:Value)(s':Shared),Inv X pins σ H s->CX X.stack H s (E σ) e s'->X.xe e s'
noncomputable def MadeS(X:Cx)(E:XS):Prop:=∀(pins:List (Addr×Obj))(σ:St)(H:Hp)(s:Shared)(a:Addr)(c:Value)(args:List Value)(h':Heap),Inv X pins σ H s->yI s.heap h' a c args->E σ c none H->X.xe (.ref a) {s with heap:=h'}
section
variable {X:Cx}{CX:CXT}{k:Nat}{f:Addr}{fd:gH}{ps:List Str}{sp:Sp}{dvs:List V}{ds:List Value}{E:XS}{x:Str}{p pos:Pos}{e:Expr}{es:List Expr}{t:TA}
theorem B9{pins:List (Addr×Obj)}{σ:St}{H:Hp}{s:Shared}{Q:VK}{us:List Value}{vs:List V}(F:jH X.prog X.w X.K X.mg X.base CX k f fd ps sp)(hr:kA k X.A)(hb:Binds X.K fd ps ds)(hd:bO dvs ds)(hx:Ae CX X E)
  (I:Inv X pins σ H s)(r:bO vs us)(h:sp (vs++dvs) H Q (E σ)):wpAny (model X.prog X.w) X.A (call (.ref f) us) (EP X pins σ Q) X.xe s:=by
 have r2:bO (vs++dvs) (us++ds):=r.append hd;have hl:(us++ds).length=ps.length:=r2.length.symm.trans (F.len _ _ _ _ h);refine wpAny_call (lC (F.run X.A X.stack s H ⟨us,[]⟩ (us++ds) (vs++dvs) Q (E σ) hr I.env0 (hb s us I.kIn hl) r2 h) fun r s' hq=>?_);cases r with
 |error e=>exact hx pins σ H s e s' I hq
 |ok fl=>cases fl<;>first |exact I.after hq|exact kE hq
theorem Gu(F:jH X.prog X.w X.K X.mg X.base CX k f fd ps sp)(hr:kA k X.A)(hg:Gl X x)(hm:X.mg x=some (.ref f))(hk:cE X.K (.ref f)=true)(hb:Binds X.K fd ps ds)(hd:bO dvs ds)(hx:Ae CX X E)
  (ha:PA X (e::es) t)(hdb:(x==("__debug__":Str))=false)(he:bP (e::es) X.env=(false,eval e X.env)::bP es X.env)(hpl:(backTo pos (bP es X.env)).any (·.1)=false):
  PE X (.Call (.Name x p) (e::es) [] pos) (fun σ H Q=>yU sp dvs (E σ) t σ H Q):=by
 intro pins s σ H Q I h;refine gz (rK I hg hm ?_ hdb);exact EM (h₀:=X.base) I.ok.mod.kin hk (thn (ha pos pins s σ H _ I h) fun us s1 ⟨vs,H1,I1,r,q⟩=>⟨I1.kIn,B9 F hr hb hd hx I1 r q⟩) he hpl
theorem DM(F:jH X.prog X.w X.K X.mg X.base CX k f fd ps sp)(hr:kA k X.A)(hg:Gl X x)(hm:X.mg x=some (.ref f))(hk:cE X.K (.ref f)=true)(hb:Binds X.K fd ps ds)(hd:bO dvs ds)(hx:Ae CX X E)
  (hdb:(x==("__debug__":Str))=false):PE X (.Call (.Name x p) [] [] pos) (fun σ H Q=>yU sp dvs (E σ) pU σ H Q):=by
 intro pins s σ H Q I h;refine gz (rK I hg hm ?_ hdb);exact PySem.W.callWith_K0 I.kIn hk (B9 (us:=[]) F hr hb hd hx I .nil h)
end
section
variable {P:Program}{w:World}{K:af}{mg:Str->Option Value}{base:Heap}
theorem wc{N:List Str}{qual:Str}{scope:Scope}{f:Addr}{cd:Value}{A:Around}{outer:List Env}{s:Shared}{H:Hp}{E:XK}:
  Ae (CXx P w) (uR (CXx P w) P w K mg base N qual scope f cd A outer s H E) (fun _=>E):=by
 intro pins σ H1 s1 e s' I h;obtain⟨a,c,d,H',rfl,ho,hg,u,hok,F,q⟩:=h;show wpAny _ _ (leaving _ _) _ _ _;unfold leaving;refine aa (GJ I rfl rfl rfl ho hg u hok F fun s2 I2 F2=>?_);obtain⟨⟨T,oe,vs,oT,ts,h1,h2,h3,h4,h5,h6,h7,h8,h9,h10,h11,_⟩,b1,b2,_⟩:=F2;exact⟨a,c,d,H',rfl,I2.os,I2.bare,I2.base,I2.hok,⟨⟨T,oe,vs,oT,ts,h1,h2,h3,h4,h5,h6,h7,h8,h9,h10,h11,fun _ z=>nomatch z⟩,b1,b2,fun _ z=>nomatch z⟩,q⟩
theorem we{N:List Str}{qual:Str}{scope:Scope}{f:Addr}{cd:Value}{A:Around}{outer:List Env}{s:Shared}{H:Hp}{E:XK}:
  MadeS (uR (CXx P w) P w K mg base N qual scope f cd A outer s H E) (fun _=>E):=by
 intro pins σ H1 s1 a c args h' I hm q;show wpAny _ _ (leaving _ _) _ _ _;unfold leaving;refine aa (GI I rfl rfl rfl hm fun s2 I2 F2=>?_);obtain⟨⟨T,oe,vs,oT,ts,h1,h2,h3,h4,h5,h6,h7,h8,h9,h10,h11,_⟩,b1,b2,_⟩:=F2;exact⟨a,c,none,H1,rfl,I2.os,I2.bare,I2.base,I2.hok,⟨⟨T,oe,vs,oT,ts,h1,h2,h3,h4,h5,h6,h7,h8,h9,h10,h11,fun _ z=>nomatch z⟩,b1,b2,fun _ z=>nomatch z⟩,q⟩
theorem El{o:List Env}{H:Hp}{s:Shared}{e:Value}{s':Shared}(h:CXx P w o H s E0 e s'):False:=by
 obtain⟨_,_,_,_,_,_,_,_,_,_,q⟩:=h;exact q
theorem jH.calm{k:Nat}{f:Addr}{fd:gH}{ps:List Str}{sp:Sp}(F:jH P w K mg base (CXx P w) k f fd ps sp):jH P w K mg base CX0 k f fd ps (fun vs H Q _=>sp vs H Q E0):=
 ⟨fun vs H Q E h=>F.len vs H Q E0 h,fun A outer s H args us vs Q E hr he hb hv hs=>lC (F.run A outer s H args us vs Q E0 hr he hb hv hs) fun r s' q=>by
  cases r with
  |error e=>exact El q
  |ok fl=>cases fl<;>exact q⟩
end
end L2
namespace Q
open PySem PySem.Spec PySem.W PyProof.Rows L2
noncomputable def fF(lt:Nat->Nat->Bool)(vs:List Value):List Value:=if vs.length<2 then vs else(run lt (cV vs.length)).toList.map fun i=>vs.getD i .none
noncomputable def ED(prog:Program)(w:World)(A:Around)(lt:Nat->Nat->Bool)(vs:List Value)(h0:Heap):Prop:=
 ∀s1:Shared,(∀b o,h0.get? b=some o->s1.heap.get? b=some o)->
  ∃κ,(∀(Q':SortKind->Shared->Prop)(E':Value->Shared->Prop),Q' κ s1->wpAny (model prog w) A (keyKind' vs.toArray) Q' E' s1)/\
   ∀i j (C:Bool->Shared->Prop),i<vs.length->j<vs.length->i≠j->C (lt i j) s1->kas_ask prog w A κ vs i j C s1
section
variable {prog:Program}{w:World}{A:Around}{E:Value->Shared->Prop}{s:Shared}{lt:Nat->Nat->Bool}{vs:List Value}
theorem fm{n:Nat}(h:n<64):n<=sizeLine:=by rw[rp];omega
theorem B5{n:Nat}(h:n<64):n<=sizeLine+1:=fz (fm h)
theorem xa{a:Addr}{n:Nat}{h0:Heap}{P:eA->Shared->Prop}(T:Tot lt vs.length)(ho:s.heap.get? a=some (seqObj "list" vs.toArray n))(k0:∀b o,h0.get? b=some o->s.heap.get? b=some o/\b≠a)(h64:vs.length<64)
  (ask:2<=vs.length->ED prog w A lt vs h0)(h:P (.done (.ret .none)) {s with heap:=EF s.heap a vs (fF lt vs).toArray}):wpAny (model prog w) A (Builtin.«list.sort» ⟨[.ref a],[]⟩) P E s:=by
 have hv:vs.toArray.size=vs.length:=by simp
 obtain⟨c,hc⟩:∃c,(s.heap.update a (aY fun _=> #[])).get? a=some (seqObj "list" #[] c):=⟨_,pL ho _⟩;have hc':(((s.heap.update a (aY fun _=> #[])).push (seqObj "tuple" vs.toArray 0)).push (seqObj "list" #[] 0)).get? a=some (seqObj "list" #[] c):=ah _ (ah _ hc);have keep:∀b o,h0.get? b=some o->(((s.heap.update a (aY fun _=> #[])).push (seqObj "tuple" vs.toArray 0)).push (seqObj "list" #[] 0)).get? b=some o:=fun b o e=>
  ah _ (ah _ ((aN _ _ (cb (k0 b o e).2)).trans (k0 b o e).1))
 rw[list_sort_plain];refine aa (listItems_at ho rfl (aa (fQ ho rfl ?_ (by rw[hv];exact fm h64) (a7 _))));refine aa (rA hc rfl (aa (wpAny_newTuple ?_ (show vs.length<=_ from fm h64))));refine aa (j4 (bf ?_) (a7 _));by_cases hn:vs.length<2
 ·have e:fF lt vs=vs:=if_pos hn
  rw[e]at h;dsimp only;rw[if_pos (by rw[hv];exact hn),if_pos (by rw[hv];exact hn)];refine aa (aj (aa ?_));rw[StateT.run_pure];refine aj (aa (rA hc' rfl (aa (fQ hc' rfl ?_ (a7 _) ?_))))
  ·have e2:(arrOf (SortSt.mk' general' (vs.toArray.zip vs.toArray) #[] 7 none)).map (·.2)=vs.toArray:=by
    show(vs.toArray.zip vs.toArray).map (·.2)=vs.toArray;apply IK;simp[List.map_snd_zip]
   rw[e2];have e3:failedOf ((),SortSt.mk' general' (vs.toArray.zip vs.toArray) #[] 7 none).snd=none:=rfl;rw[e3];simp only[bne_self_eq_false,aE,if_false];exact aj h
  ·show((vs.toArray.zip vs.toArray).map (·.2)).size<=_
   rw[eR,Array.size_zip,hv,ER];exact fz (fm h64)
 ·have h2:2<=vs.length:=by omega
  have e:fF lt vs=(run lt (cV vs.length)).toList.map fun i=>vs.getD i .none:=if_neg hn;rw[e]at h;dsimp only;rw[if_neg (by rw[hv];exact hn),if_neg (by rw[hv];exact hn)];obtain⟨κ,hk1,hk2⟩:=ask h2 {s with heap:=((s.heap.update a (aY fun _=> #[])).push (seqObj "tuple" vs.toArray 0)).push (seqObj "list" #[] 0)} keep;obtain⟨P1,U1,O1⟩:=fv T (by omega:1<=vs.length);refine aa (hk1 _ _ (aa ?_));have key:=kat_run (prog:=prog) (w:=w) (A:=A) (E:=E) (κ:=κ) (ks:=vs) (vs:=vs) (s:={s with heap:=((s.heap.update a (aY fun _=> #[])).push (seqObj "tuple" vs.toArray 0)).push (seqObj "list" #[] 0)})
   (Q:=fun st' s'=>s'={s with heap:=((s.heap.update a (aY fun _=> #[])).push (seqObj "tuple" vs.toArray 0)).push (seqObj "list" #[] 0)}/\arrOf st'=(run lt (cV vs.length)).map (kas_item (vs.toArray.zip vs.toArray))/\failedOf st'=none)
   (G:=fun p s'=>s'={s with heap:=((s.heap.update a (aY fun _=> #[])).push (seqObj "tuple" vs.toArray 0)).push (seqObj "list" #[] 0)}/\p=run lt (cV vs.length)) rfl h2 h64
   (fun p st' s' _ e1 e2 e3=>⟨e3.1,by rw[e1,e3.2],e2⟩)
   (wp_run (S:=fun s'=>s'={s with heap:=((s.heap.update a (aY fun _=> #[])).push (seqObj "tuple" vs.toArray 0)).push (seqObj "list" #[] 0)}) (fun i j C s' hi hj hij hs hC=>by
    subst hs;exact hk2 i j C hi hj hij (hC _ rfl)) _ _ O1 rfl fun s' hs=>⟨hs,rfl⟩)
  refine fP key ?_ fun _ _ z=>z;rintro⟨⟨⟩,st'⟩ s' ⟨rfl,har,hf⟩;have hout:=kat_snds (ks:=vs) (vs:=vs) rfl har;dsimp only;rw[hout,hf];have hlen:(dZ ((run lt (cV vs.length)).toList.map fun i=>vs.getD i bL)).size<=sizeLine+1:=by
   rw[ay,ai,aO,P1.size];exact fz (fm h64)
  refine aa (rA hc' rfl (aa (fQ hc' rfl ?_ (a7 _) hlen)));simp only[bne_self_eq_false,aE,if_false];exact aj h
theorem pZ{l:Addr}{Q:Value->Shared->Prop}(T:Tot lt vs.length)(hl:s.heap.IsList l vs.toArray)(h64:vs.length<64)(ask:2<=vs.length->ED prog w A.in1.in1 lt vs s.heap)
  (h:Q (.ref (s.heap.objs.size+1)) {s with heap:=sortedAll s.heap vs (fF lt vs).toArray}):wpAny (model prog w) A (call (.builtin "sorted") [.ref l]) Q E s:=by
 refine gW Aq yo yr (args_sorted1 _) ?_;unfold Builtin.«sorted»;refine aa (m:=EK "sorted" 1 1 _) (aj (aa (collect_list hl (aa (j4 ?_ (show vs.length<=_ from fm h64))) (fm h64))));generalize hH:(s.heap.push (seqObj "list" #[] 0)).update s.heap.objs.size (aY (·++vs.toArray))=h1;have hz:h1.objs.size=s.heap.objs.size+1:=by rw[<-hH,uC,uY]
 have kp:∀b o,s.heap.get? b=some o->h1.get? b=some o:=fun b o e=>by
  have hb:=av e;rw[<-hH,aN _ _ (dq hb)];exact ah _ e
 have hg:(h1.push (seqObj "list" vs.toArray 0)).get? (s.heap.objs.size+1)=some (seqObj "list" vs.toArray 0):=by
  rw[<-hz];exact au _ rfl
 have hq:sortedAll s.heap vs (fF lt vs).toArray=EF (h1.push (seqObj "list" vs.toArray 0)) (s.heap.objs.size+1) vs (fF lt vs).toArray:=by rw[<-hH];rfl
 rw[hq]at h;show wpAny _ _ _ _ _ {s with heap:=h1.push (seqObj "list" vs.toArray 0)};rw[hz];refine aa (bf (cB rm ⟨_,hg,rfl⟩ pM (xa T hg (fun b o e=>⟨ah _ (kp b o e),aJ (a9 (av e))⟩) h64 ask ⟨_,rfl,?_⟩) (EL _)));exact aj ⟨_,rfl,h⟩
end
noncomputable def tlt(x y:Str):Bool:=decide (x.cps.toList<y.cps.toList)
noncomputable def lZ(ks:List Str)(i j:Nat):Bool:=tlt (ks.getD i "") (ks.getD j "")
noncomputable def ord(ks:List Str):List Nat:=if ks.length<2 then aq ks.length else(run (lZ ks) (cV ks.length)).toList
noncomputable def sortBy{α:Type}(d:α)(ks:List Str)(ys:List α):List α:=(ord ks).map fun i=>ys.getD i d
theorem str_ext{x y:Str}(h:x.cps.toList=y.cps.toList):x=y:=by
 obtain⟨a⟩:=x;obtain⟨b⟩:=y;have :a=b:=Array.toList_inj.mp h;rw[this]
theorem vb{x y z:Str}(a:tlt x y=true)(b:tlt y z=true):tlt x z=true:=by
 unfold tlt at *;rw[decide_eq_true_eq]at *;exact List.lt_trans a b
theorem tlt_tri{x y:Str}(h:x≠y):tlt x y= !tlt y x:=by
 unfold tlt;by_cases c:x.cps.toList<y.cps.toList
 ·have d:¬y.cps.toList<x.cps.toList:=fun z=>List.lt_irrefl _ (List.lt_trans c z)
  simp[c,d]
 ·by_cases d:y.cps.toList<x.cps.toList
  ·simp[c,d]
  ·exact absurd (str_ext (List.le_antisymm (List.not_lt.mp d) (List.not_lt.mp c))) h
theorem r8{ks:List Str}(nd:ks.Nodup):Tot (lZ ks) ks.length where
 tri:=fun i j hi hj h=>tlt_tri fun e=>h (by
  rw[ag,ag,ae hi,ae hj]at e;exact(dY nd).mp e)
 tr:=fun i j k _ _ _ a b=>vb a b
theorem ord_len(ks:List Str)(nd:ks.Nodup):(ord ks).length=ks.length:=by
 unfold ord;split
 ·simp
 ·rw[aO,(fv (r8 nd) (by omega)).1.size]
theorem GC{ks:List Str}{ys:List V}{vs:List Value}(nd:ks.Nodup)(hl:ks.length=ys.length)(r:bO ys vs):bO (sortBy .non ks ys) (fF (lZ ks) vs):=by
 have hlen:=r.length;have e:vs.length=ks.length:=by omega
 unfold fF sortBy ord;rw[e];by_cases c:ks.length<2
 ·rw[if_pos c,if_pos c]
  have e2:(aq ks.length).map (fun i=>ys.getD i V.non)=ys:=by
   rw[hl];apply cK
   ·simp
   ·intro i h1 h2
    simp[h2]
  rw[e2];exact r
 ·rw[if_neg c,if_neg c]
  have P:=(fv (r8 nd) (by omega)).1;have all:∀l:List Nat,(∀i∈l,i<ks.length)->bO (l.map fun i=>ys.getD i V.non) (l.map fun i=>vs.getD i bL):=by
   intro l
   induction l with
   |nil=>exact fun _=>.nil
   |cons i l ih=>
    intro h;have hi:i<ys.length:=by have :=h i (.head _);omega
    obtain⟨u,hu,ru⟩:=r.get (ae hi);refine .cons ?_ (ih fun j hj=>h j (.tail _ hj));show L2.RelV (ys.getD i V.non) (vs.getD i bL);rw[ag,ae hi,ag,hu];exact ru
  refine all _ fun i hi=>?_;have m:i∈(aq ks.length).toArray:=P.perm.mem_iff.mp (jr.mp hi);simpa using m
theorem Ft{ks:List Str}{vs:List Value}(r:yu vs ks){i:Nat}(hi:i<ks.length):∃t,vs.getD i .none=.str (ks.getD i "") t:=by
 induction r generalizing i with
 |nil=>exact absurd hi (gh _)
 |cons y t h ih=>
  cases i with
  |zero=>exact⟨t,rfl⟩
  |succ i=>exact ih (by simpa using hi)
theorem sg{ks:List Str}{vs:List Value}(r:yu vs ks):vs.length=ks.length:=by
 induction r with
 |nil=>rfl
 |cons y t h ih=>simp[ih]
section
variable {prog:Program}{w:World}{A:Around}
theorem Ez{ks:List Str}{vs:List Value}{h0:Heap}(r:yu vs ks)(h2:2<=vs.length):ED prog w A (lZ ks) vs h0:=by
 intro s1 _;refine⟨oneType',fun Q' E' q=>?_,fun i j C hi hj _ q=>?_⟩
 ·match vs,r,h2 with
  |v1::v2::rest,r,_=>
   rw[keyKind_strs r];exact aj q
 ·rw[sg r]at hi hj
  obtain⟨t,e1⟩:=Ft r hi;obtain⟨u,e2⟩:=Ft r hj;unfold kas_ask;rw[e1,e2,keyLt'_oneType];exact oneLt_str q
end
noncomputable def mK(H:Hp)(ys:List V)(ks:List Str):Prop:=Paired (fun v k=>∃a rest,v=V.ref a/\H a=some (.tup (V.str k::rest))) ys ks
noncomputable def rSort(K:af):List V->Hp->VK->Prop:=fun xs H Q=>∃p ys ks,xs=[V.ref p]/\SqL K H p ys/\ks.length<64/\ks.Nodup/\(ys=ks.map V.str\/mK H ys ks)/\∀l,H l=none->Q (.ref l) (upd H l (.lst (sortBy .non ks ys)))
theorem qx{H:Hp}:∀{ys:List V}{ks:List Str},mK H ys ks->ks.length=ys.length
 |_,_,.nil=>rfl
 |_,_,.cons _ t=>by simp[qx t]
set_option maxHeartbeats 3200000
noncomputable def has(acc:List Key)(k:Key):Bool:=acc.any fun x=>decide (x=k)
theorem jj{acc:List Key}{k:Key}:has acc k=true↔k∈acc:=by
 unfold has;rw[cw];constructor
 ·rintro⟨x,h,e⟩
  rw[<-of_decide_eq_true e];exact h
 ·exact fun h=>⟨k,h,decide_eq_true rfl⟩
noncomputable def more(acc:List Key)(k:Key):List Key:=if has acc k=true then acc else acc++[k]
noncomputable def met(ks:List Key):List Key:=ks.foldl more []
theorem GU(ks:List Key)(k:Key):met (ks++[k])=more (met ks) k:=by unfold met;rw[List.foldl_append];rfl
theorem zw{acc:List Key}{k j:Key}:j∈more acc k↔j∈acc\/j=k:=by
 unfold more;split
 ·rename_i h
  constructor
  ·exact .inl
  ·rintro(z|rfl)
   ·exact z
   ·exact jj.mp h
 ·simp
theorem oO(acc:List Key)(k:Key):(more acc k).length=if has acc k=true then acc.length else acc.length+1:=by
 unfold more;split <;>simp
theorem GW(ks:List Key):(met ks).length<=ks.length:=by
 unfold met;have g:∀(l acc:List Key),(l.foldl more acc).length<=acc.length+l.length:=by
  intro l
  induction l with
  |nil=>intro acc;simp
  |cons k l ih=>
   intro acc;have h1:=ih (more acc k);have h2:=oO acc k;rw[eF,bS];split at h2<;>omega
 simpa using g ks []
theorem lh{ks:List Key}{k:Key}:k∈met ks↔k∈ks:=by
 unfold met;have g:∀(l acc:List Key),k∈l.foldl more acc↔k∈acc\/k∈l:=by
  intro l
  induction l with
  |nil=>intro acc;simp
  |cons j l ih=>
   intro acc;rw[eF,ih,zw,aB,or_assoc]
 simpa using g ks []
theorem D5{ks:List Key}(h:ks.Nodup):met ks=ks:=by
 unfold met;have g:∀(l acc:List Key),(acc++l).Nodup->l.foldl more acc=acc++l:=by
  intro l
  induction l with
  |nil=>intro acc _;simp
  |cons k l ih=>
   intro acc hn;have hk:k∉acc:=fun z=>(de.mp hn).2.2 k z k (.head _) rfl;have e:more acc k=acc++[k]:=if_neg fun z=>hk (jj.mp z);rw[eF,e,ih (acc++[k]) (by simpa using hn)];simp
 simpa using g ks [] (by simpa using h)
theorem DV(ks:List Key):(met ks).Nodup:=by
 unfold met;have g:∀(l acc:List Key),acc.Nodup->(l.foldl more acc).Nodup:=by
  intro l
  induction l with
  |nil=>intro acc h;exact h
  |cons k l ih=>
   intro acc h;rw[eF];refine ih _ ?_;unfold more;split
   ·exact h
   ·rename_i c
    refine de.mpr ⟨h,by simp,fun a ha b hb e=>c ?_⟩;have e2:b=k:=by simpa using hb
    rw[<-e2,<-e];exact jj.mpr ha
 exact g ks [] gJ
theorem xH{ks:List Key}(h:(met ks).length=ks.length):ks.Nodup:=by
 have up:∀(l acc:List Key),(l.foldl more acc).length<=acc.length+l.length:=by
  intro l
  induction l with
  |nil=>intro acc;simp
  |cons k l ih=>
   intro acc;have h1:=ih (more acc k);have h2:=oO acc k;rw[eF,bS];split at h2<;>omega
 have g:∀(l acc:List Key),acc.Nodup->(l.foldl more acc).length=acc.length+l.length->(acc++l).Nodup:=by
  intro l
  induction l with
  |nil=>intro acc h _;simpa using h
  |cons k l ih=>
   intro acc hn e;rw[eF,bS]at e;have h1:=up l (more acc k);have h2:=oO acc k;by_cases c:has acc k=true
   ·rw[if_pos c]at h2
    omega
   ·rw[if_neg c]at h2
    have em:more acc k=acc++[k]:=if_neg c;rw[em]at e;have hk:k∉acc:=fun z=>c (jj.mpr z);have hn2:(acc++[k]).Nodup:=de.mpr ⟨hn,by simp,fun a ha b hb e=>hk (by
     have e2:b=k:=by simpa using hb
     rw[<-e2,<-e];exact ha)⟩
    have :=ih (acc++[k]) hn2 (by rw[cC,nP];omega)
    simpa using this
 simpa using g ks [] gJ (by simpa[met]using h)
theorem met_one{ks:List Key}:(met ks).length<=1↔∀a∈ks,∀b∈ks,a=b:=by
 constructor
 ·intro h a ha b hb
  have ha':=lh.mpr ha;have hb':=lh.mpr hb
  match e:met ks,h with
  | [],_=>rw[e]at ha';cases ha'
  | [x],_=>
   rw[e]at ha' hb';rw[aC.mp ha',aC.mp hb']
 ·intro h
  match e:met ks with
  | []=>simp
  | [x]=>simp
  |x::y::r=>
   have n:=DV ks;rw[e]at n;have hx:x∈ks:=lh.mp (by rw[e];exact .head _);have hy:y∈ks:=lh.mp (by rw[e];exact .tail _ (.head _));have :=h x hx y hy;rw[this]at n;simp at n
noncomputable abbrev i8(led:Bool):Obj:={cls:=.type "set",dict:=none,data:=.set #[] 0 (.fresh 0 0 led)}
noncomputable def AX(a:Addr)(n:Nat):HO:=.ext fun h=>∃o es ep t,h.get? a=some o/\o.ExactSet/\o.data=.set es ep t/\es.size<fX/\t.fits es.size=true/\es.size=n
theorem xP:∀{ks:List Key}{us:List Value},bO (ks.map kV) us->∀(i:Nat)(v:Value),us[i]? =some v->∃k,ks[i]? =some k/\RelV (kV k) v
 | [],_,.nil,i,v,e=>by simp at e
 |k::ks,_,.cons r t,0,v,e=>by
  simp at e;subst e;exact⟨k,rfl,r⟩
 |k::ks,_,.cons r t,i+1,v,e=>xP t i v (by simpa using e)
noncomputable def rSet(K:af):List V->Hp->VK->Prop:=fun xs H Q=>∃p ks,xs=[V.ref p]/\SqL K H p (ks.map kV)/\ks.length<4000/\∀a,H a=none->Q (.ref a) (upd H a (AX a (met ks).length))
theorem uW{X:Cx}:fO X (.builtin "len") (fun xs H Q=>∃a n,xs=[V.ref a]/\H a=some (AX a n)/\Q (.int n) H):=by
 intro pins s σ H xs us Q I r h;obtain⟨a,n,rfl,e,q⟩:=h;obtain⟨u,rfl,rx⟩:=vals1 r;cases rx;obtain⟨⟨o,es,ep,t,ho,hex,hd,hbb,hf,rfl⟩,_⟩:=I.hok a _ e;refine call_len_set ho hex hd hf (by have :es.size<4096:=hbb;omega) ?_;exact⟨.int es.size,H,I.tok _,⟨_,rfl⟩,q⟩
end Q
namespace L2
open PySem PySem.Spec PyProof.Rows
section
variable {X:Cx}
noncomputable def Cf(K:af):R2:=fun x y H Q=>∃a b ys,x=.ref a/\y=.ref b/\SqT K H a []/\SqT K H b ys/\Q (.ref b) H
theorem op_cat0:OpR X (fh .Add) (Cf X.K):=by
 intro pins s σ H x y v u Q I rx ry h;obtain⟨a,b,ys,rfl,rfl,ha,hb,q⟩:=h;cases rx;cases ry;obtain⟨its,r1,p1,_⟩:=I.tuple ha;obtain⟨its2,r2,p2,_⟩:=I.tuple hb;cases r1;obtain⟨⟨cls,dd,data,sl⟩,ho,hc,n,hd⟩:=id p1;obtain⟨⟨cls2,dd2,data2,sl2⟩,ho2,hc2,n2,hd2⟩:=id p2;simp only at hc hd hc2 hd2;subst hc hd hc2 hd2;exact concat_meets ⟨_,ho,rfl⟩ ⟨_,ho2,rfl⟩ Ag IB lO lE (kZ _ _) (tuple_addW0 a b _ _ n n2 dd dd2 sl sl2 rfl) ⟨ho,ho2,.ref b,H,I,rfl,q⟩
noncomputable def rRepS:R2:=fun x y H Q=>∃(z:Str)(n:Int),x=.str z/\y=.int n/\2<=n/\n<=1000/\1<=z.length/\z.length<=1000/\Q (.str ⟨(iX n.toNat z.cps).foldl (·++·) #[]⟩) H
noncomputable def rJoin(K:af):V->List V->Hp->VK->Prop:=fun x vs H Q=>∃(sep:Str)(p:Addr)(ys:List Str),x=.str sep/\vs=[.ref p]/\SqL K H p (ys.map V.str)/\sep.length<=16/\(ys.map (·.length)).sum+ys.length<=1048576/\Q (.str (Txt.join sep ys)) H
end
end L2
set_option maxHeartbeats 1000000
namespace HT
open PySem PySem.Spec PyProof.Rows
section
variable {prog:Program}{w:World}{K:Type}[DecidableEq K]{knd:HeapKind prog w K}{A:Around}{s:Shared}{E:Value->Shared->Prop}
theorem setDef{d a:Addr}{xs:List (K×Addr×Value)}{k:K}{v:Value}{Q:Value->Shared->Prop}(hu:knd.room A)(hkey:knd.is s.heap k a)(hm:s.heap.DictOfH knd d xs)
  (h1:∀u,(atKey xs k).map (·.2)=some u->Q u {s with toks:=s.toks+knd.draws k})
  (h2:atKey xs k=none->∀h',h'.DictOfH knd d (storedH xs k a v)->cO d s.heap h'->Q v {s with heap:=h',toks:=s.toks+knd.draws k})
  (hsz:xs.length<=sizeLine):wpAny (model prog w) A (EI d (.ref a) v) Q E s:=by
 obtain⟨o,es,ep,ho,hc,hd,he,his,hn⟩:=hm;unfold EI;refine bf ?_;refine aa (knd.pyHash hu hkey ?_);refine aa (wpAny_dictFind_heap (s:={s with toks:=s.toks+knd.draws k}) hu hkey ho hd he his hn ?_ ?_)
 ·intro hno
  have hnot:k∉xs.map (·.1):=not_mem_keys_of_get hno;refine aa (gw (aa (wpAny_updateDictKeys (hz:=by have e:=size_of_entries he;omega) (s:={s with toks:=s.toks+knd.draws k}) ho hd (aj (h2 (mT hno) _ ⟨_,_,ep+1,bK _ ho (Obj.isFreed_of_dict (IJ hd _)),
   hc.mapDictKeys _,IJ hd _,?_,?_,?_⟩ (bC ..))))))
  ·rw[storedH_new (mT hno)]
   simp[he,entryOfKey]
  ·rw[storedH_new (mT hno)]
   intro x hx;rcases bF.mp hx with hx|hx
   ·exact knd.keeps (his x hx) ho hd (bC ..)
   ·rw[aC.mp hx]
    exact knd.keeps hkey ho hd (bC ..)
  ·rw[storedH_new (mT hno),cH,de]
   refine⟨hn,by simp,fun x hx y hy e=>?_⟩;have :y=k:=by simpa using hy
   exact hnot (by rw[<-this,<-e];exact hx)
 ·intro j p hj
  refine aa (wpAny_dictEntries (s:={s with toks:=s.toks+knd.draws k}) ho hd ?_);rw[entry_at he j,hj];exact aa (gw (aj (h1 _ (by rw[atKey_of_get hn hj];rfl))))
variable(knd) in
theorem xM(d a:Addr)(hd:(d==gA)=false)(dflt:Value):
  MeetsIn prog w (Builtin.«dict.setdefault» ⟨[.ref d,.ref a,dflt],[]⟩) (fun A R s=>knd.room A.in1/\∃k xs,knd.is s.heap k a/\s.heap.DictOfH knd d xs/\xs.length<=sizeLine/\
   (∀u,(atKey xs k).map (·.2)=some u->R (.ok (.ret u)) {s with toks:=s.toks+knd.draws k})/\
   (atKey xs k=none->∀h',h'.DictOfH knd d (storedH xs k a dflt)->cO d s.heap h'->R (.ok (.ret dflt)) {s with heap:=h',toks:=s.toks+knd.draws k})):=
 .of_wp fun A R s ⟨hu,k,xs,hkey,hm,hz,h1,h2⟩=>by
  unfold Builtin.«dict.setdefault»;refine aa ?_;unfold Builtin.Dict.keyAndDefault;refine aa (wpAny_notOrdered_dict hm.typeIs ?_);show wpAny _ _ (pure (d,aV a,some dflt)) _ _ s;refine aj ?_;show wpAny _ _ (if(d==gA)=true then _ else(EI d (.ref a) dflt>>=_)) _ _ s;rw[if_neg (by rw[hd];exact aD)];exact aa (setDef hu hkey hm (fun v hv=>aj ⟨v,rfl,h1 v hv⟩) (fun hn h' hm' hs'=>aj ⟨dflt,rfl,h2 hn h' hm' hs'⟩) hz)
end
end HT
namespace L2
open PySem PySem.Spec PyProof.Rows
section
variable {X:Cx}{pins:List (Addr×Obj)}{σ:St}{H:Hp}{s:Shared}{a b:Addr}{v:V}{r:Value}{A:Around}{E:Value->Shared->Prop}{kvs:List (List Key×V)}{k:List Key}
theorem HM{Q:Value->Shared->Prop}(hu:A.units+1<cLine)(I:Inv X pins σ H s)(e:H a=some (.dT kvs))(eb:H b=some (.tup (k.map kV)))(rv:RelV v r)(hl:kvs.length<sizeLine)
  (h1:∀x w' s',eI kvs k=some x->Inv X pins σ H s'->RelV x w'->Q w' s')(h2:eI kvs k=none->∀s',Inv X pins σ (upd H a (.dT (putK kvs k v))) s'->Q r s'):
  wpAny (model X.prog X.w) A (call (.builtin "dict.setdefault") [.ref a,.ref b,r]) Q E s:=by
 obtain⟨z,hd,xs,rel,dd⟩:=HI I.hok e;have hz:xs.length<=sizeLine:=by rw[<-k7 rel];exact z
 have hl':(putK kvs k v).length<=sizeLine:=by have :=qD kvs k v;omega
 have rk:=rel.val k;refine call_meetsIn um dd.typeIs PySem.F.entry_dict_setdefault (PySem.F.args_dict_setdefault_3 _ _ _) (HT.xM (n9 (aZ X.prog X.w)) a b hd r) ⟨tupleKind_room_in1 hu,k,xs,Bs I.hok eb,dd,hz,fun u hu'=>?_,fun hn h' dd' hs=>?_⟩
 ·rw[hu']at rk
  cases hv:eI kvs k with
  |none=>rw[hv]at rk;exact absurd rk (by intro z;cases z)
  |some x=>
   rw[hv]at rk;obtain⟨w',hw,rw'⟩:=ui.some_of rk;cases hw;exact h1 x _ _ hv (I.tok _) rw'
 ·rw[hn]at rk
  refine h2 (by
   cases hv:eI kvs k with
   |none=>rfl
   |some x=>rw[hv]at rk;exact absurd rk (by intro z;cases z)) _ ?_
  obtain⟨q,es,ep,hq,g2,g3,g4,_,g5⟩:=dd';refine d_write I (by rw[e];exact True.intro) hs ⟨q,hq⟩ ⟨hl',hd,_,(rel.put k eb rv).keeps fun c ys ec=>?_,q,es,ep,hq,g2,g3,g4,g5⟩;rw[bh (ne_of ec e (fun z=>nomatch z))];exact ec
end
section
variable {X:Cx}
theorem zr:∀{ns:List Int}{its:List Value},bO (ns.map V.int) its->(∀v∈its,∃a t,v=eO a t)/\numsOf its=ns
 | [],_,.nil=>⟨fun _ h=>(nomatch h),rfl⟩
 |n::ns,_,.cons r t=>by
  obtain⟨tk,rfl⟩:=r;obtain⟨h1,h2⟩:=zr t;refine⟨fun v hv=>?_,by rw[numsOf,h2]⟩;rcases aB.mp hv with rfl|hv
  ·exact⟨_,_,rfl⟩
  ·exact h1 v hv
theorem ints_rep{ns:List Int}{its:List Value}(r:bO (ns.map V.int) its):∃xs:Array (Int×Tok),its.toArray=intItems xs/\preSum (numAt xs) xs.size=ns.sum:=by
 obtain⟨h1,h2⟩:=zr r;obtain⟨xs,e⟩:=AllInts.items (vs:=its.toArray) fun v hv=>h1 v (by simpa using hv);refine⟨xs,e,?_⟩;rw[preSum_eq,eN (by simp),<-nums_intItems,<-e,h2]
theorem Ie(hc:X.calm=true):fO X (.builtin "sum") (fun xs H Q=>∃(p:Addr)(ns:List Int),xs=[.ref p]/\SqL X.K H p (ns.map V.int)/\Q (.int ns.sum) H):=by
 intro pins s σ H xs us Q I rv h;obtain⟨p,ns,rfl,hq,q⟩:=h;obtain⟨u,rfl,ru⟩:=rv.one;cases ru;obtain⟨its,r,pl,hz⟩:=I.list hq;obtain⟨ys,e1,e2⟩:=ints_rep r;have pl':=pl.isList;rw[e1]at pl';refine sum_intListG (I.ok.hd hc) pl' fun h' tk t' hk=>?_;rw[e2];exact⟨.int ns.sum,H,I.kept (t':=tk) hk,⟨_,rfl⟩,q⟩
theorem D9{prog:Program}{w:World}{K:Type}[DecidableEq K]{knd:HeapKind prog w K}{A:Around}{E:Value->Shared->Prop}{s:Shared}{d:Addr}{xs:List (K×Addr×Value)}{Q:Value->Shared->Prop}(hd:(d==gA)=false)(hm:s.heap.DictOfH knd d xs)(hfit:(xs.length:Int)<2^63)
  (h:Q (.int xs.length (s.toks+1)) {s with toks:=s.toks+1+1}):wpAny (model prog w) A (call (.builtin "len") [.ref d]) Q E s:=by
 have ml:MeetsIn prog w (Builtin.«dict.__len__» ⟨[.ref d],[]⟩) (fun _ R s=>∃xs,s.heap.DictOfH knd d xs/\R (.ok (.ret (.int xs.length s.toks))) {s with toks:=s.toks+1}):=
  .of_wp fun A R s ⟨xs,hm,h⟩=>by
   obtain⟨o,es,ep,ho,hc,hdat,he,_⟩:=hm;show wpAny _ _ (dictSize d>>=_) _ _ s;unfold dictSize;refine aa (aa (wpAny_dictEntries ho hdat (aj ?_)));show wpAny _ _ (Builtin.Dict.pendingCount d>>=_) _ _ s;refine aa (wpAny_pendingCount_other hd ?_);refine wpAny_ret_mkInt ?_;have :es.size=xs.length:=size_of_entries he;rw[Nat.add_zero,this];exact h
 refine gW kind_len plain_len entry_len (args_len1 _) ?_;unfold Builtin.«len»;refine aa (m:=oneArg "len" _) (aj ?_);refine aa (m:=callSpecial? (.ref d) (cZ "__len__")) (dH (name:=cZ "__len__") hm.typeIs F.slot_dict_len
  (call_meetsIn F.slot_dict_len hm.typeIs F.entry_dict_len (F.args_dict_len_1 _) ml ⟨xs,hm,?_⟩))
 show wpAny _ _ _ _ _ {s with toks:=s.toks+1};refine aa (bf (aj ?_));refine aa (gu ?_);show wpAny _ _ (if((xs.length:Nat):Int)<0 then _ else _) _ _ _;rw[if_neg (by omega)];show wpAny _ _ (if((xs.length:Nat):Int)≥ 2^63 then _ else _) _ _ _;rw[if_neg (by omega)];exact aa (wpAny_mkInt (aj ⟨_,rfl,h⟩))
theorem zU:fO X (.builtin "len") (fun xs H Q=>∃a kvs,xs=[V.ref a]/\H a=some (.dT kvs)/\Q (.int kvs.length) H):=by
 intro pins s σ H xs us Q I r h;obtain⟨a,kvs,rfl,e,q⟩:=h;obtain⟨u,rfl,rx⟩:=vals1 r;cases rx;obtain⟨z,hd,ys,rel,dd⟩:=HI I.hok e;refine D9 hd dd (by rw[<-k7 rel];rw[rp]at z;omega) ?_;rw[<-k7 rel];exact⟨.int kvs.length,H,I.tok _,⟨_,rfl⟩,q⟩
theorem key_seq{pins:List (Addr×Obj)}{σ:St}{H:Hp}{s:Shared}{b:Addr}{ks:List Key}(I:Inv X pins σ H s)(h:SqT X.K H b (ks.map kV)):(n9 (aZ X.prog X.w)).is s.heap ks b:=by
 obtain⟨its,r,⟨o,h1,h2,n,h3⟩,_⟩:=I.tuple h;exact⟨o,its.toArray,n,h1,h2,h3,by simpa using qf r⟩
noncomputable def rIxD(K:af):R2:=fun x y H Q=>∃a b kvs k v,x=.ref a/\y=.ref b/\H a=some (.dT kvs)/\SqT K H b (k.map kV)/\eI kvs k=some v/\Q v H
theorem ix_dict(hu:X.A.units+1<cLine):IxR X (rIxD X.K):=by
 intro value slice pins s σ H x y v u Q I rx ry h hs;obtain⟨a,b,kvs,k,z,rfl,rfl,e,eb,hv,q⟩:=h;cases rx;cases ry;obtain⟨_,hd,xs,rel,dd⟩:=HI I.hok e;have hT:s.TypeIs (.ref a) "dict":=dd.typeIs;unfold Iz;refine aa ?_;rw[getitemInPython_of_ne hT.not_modules];refine aa (BY hT PySem.F.slot_dict_getitem.lookup ?_);have fin:wpAny (model X.prog X.w) X.A (subscripted slice false (.ref a) (.ref b)) (fun r s₃=>wpAny (model X.prog X.w) X.A (letTemporaryGo value (.ref a) r>>=fun _=>pure r) (EP X pins σ Q) X.xe s₃) X.xe s:=by
  rw[hs];obtain⟨w',hw,rw'⟩:=ui.some_of (v:=z) (o:=(atKey xs k).map (·.2)) (by rw[<-hv];exact rel.val k);obtain⟨p,hp,hp2⟩:=Aw.mp hw;refine wpAny_operating (fP (wpAny_getItem_heap (Q:=EP X pins σ Q) (tupleKind_room_in1 hu) (key_seq I eb) dd hp ?_) (fun r s₃ h₃=>aa (wpAny_letTemporaryGo (aj h₃))) fun _ _ x=>x);rw[hp2];exact⟨z,H,I.tok _,rw',q⟩
 first
  |exact aj (aa fin)
  |exact aa (aj (aa fin))
  |exact aa fin
noncomputable def Cd:V->List V->Hp->VK->Prop:=fun x xs H Q=>∃a b kvs k v,x=.ref a/\xs=[.ref b,v]/\H a=some (.dT kvs)/\H b=some (.tup (k.map kV))/\kvs.length<sizeLine/\
 (∀z,eI kvs k=some z->Q z H)/\(eI kvs k=none->Q v (upd H a (.dT (putK kvs k v))))
theorem DZ(hu:X.A.units+1<cLine):MtR X "dict.setdefault" Cd:=by
 intro pins s σ H x xs v us Q I rx rv h;obtain⟨a,b,kvs,k,y,rfl,rfl,e,eb,hl,q1,q2⟩:=h;cases rx;obtain⟨u,w',rfl,r1,r2⟩:=vals2 rv;cases r1;exact HM hu I e eb r2 hl (fun z w1 s' hz I' rz=>⟨z,H,I',rz,q1 z hz⟩) fun hn s' I'=>⟨y,_,I',r2,q2 hn⟩
end
section
variable {X:Cx}
noncomputable def isRef:V->Bool
 |.ref _=>true
 |_=>false
noncomputable def rInD(K:af)(neg:Bool):R2:=fun x y H Q=>∃p xs ds d,y=.ref p/\SqL K H p xs/\xs.all isRef=true/\Rep K H d x/\fg K H ds xs/\gv ds<=30/\
 Q (.bl (if neg then !(ds.any fun d'=>eqD d' d)else ds.any fun d'=>eqD d' d)) H
open Classical in
open Classical in
end
section
variable {X:Cx}{e:Expr}{te:TE}{pos p2 p3 p4:Pos}{cd:Nat}
noncomputable def tRev(K:af)(te:TE):TE:=fun σ H Q=>te σ H fun x H1=>∃a xs,x=.ref a/\SqL K H1 a xs/\∀p,H1 p=none->Q (.ref p) (upd H1 p (.lst xs.reverse))
end
end L2
namespace Q
open PySem PySem.Spec PySem.W PyProof.Rows L2
noncomputable def ltI(ns:List Int)(i j:Nat):Bool:=decide (ns.getD i 0<ns.getD j 0)
noncomputable def oI(ns:List Int):List Nat:=if ns.length<2 then aq ns.length else(run (ltI ns) (cV ns.length)).toList
noncomputable def sortI(ns:List Int):List V:=(oI ns).map fun i=>(ns.map V.int).getD i .non
theorem Du{ns:List Int}(nd:ns.Nodup):Tot (ltI ns) ns.length where
 tri:=fun i j hi hj h=>by
  have hne:ns.getD i 0≠ns.getD j 0:=fun e=>by
   rw[ag,ag,ae hi,ae hj]at e;exact h ((dY nd).mp e)
  unfold ltI;by_cases a:ns.getD i 0<ns.getD j 0
  ·rw[decide_eq_true a,decide_eq_false (by omega)];rfl
  ·rw[decide_eq_false a,decide_eq_true (by omega)];rfl
 tr:=fun i j k hi hj hk a b=>by
  unfold ltI at a b⊢;have a:=of_decide_eq_true a;have b:=of_decide_eq_true b;exact decide_eq_true (by omega)
theorem zo{ns:List Int}(nd:ns.Nodup):(oI ns).length=ns.length:=by
 unfold oI;split
 ·simp
 ·rw[aO,(fv (Du nd) (by omega)).1.size]
theorem outI{ns:List Int}{vs:List Value}(nd:ns.Nodup)(r:bO (ns.map V.int) vs):bO (sortI ns) (fF (ltI ns) vs):=by
 have hlen:=r.length;rw[ai]at hlen;have e:vs.length=ns.length:=by omega
 unfold fF sortI oI;rw[e];by_cases c:ns.length<2
 ·rw[if_pos c,if_pos c]
  have e2:(aq ns.length).map (fun i=>(ns.map V.int).getD i V.non)=ns.map V.int:=by
   apply cK
   ·simp
   ·intro i h1 h2
    have h3:i<ns.length:=by simpa using h2
    simp[h3]
  rw[e2];exact r
 ·rw[if_neg c,if_neg c]
  have P:=(fv (Du nd) (by omega)).1;have all:∀l:List Nat,(∀i∈l,i<ns.length)->bO (l.map fun i=>(ns.map V.int).getD i V.non) (l.map fun i=>vs.getD i bL):=by
   intro l
   induction l with
   |nil=>exact fun _=>.nil
   |cons i l ih=>
    intro h;have hi:i<(ns.map V.int).length:=by rw[ai];exact h i (.head _)
    obtain⟨u,hu,ru⟩:=r.get (ae hi);refine .cons ?_ (ih fun j hj=>h j (.tail _ hj));show L2.RelV ((ns.map V.int).getD i V.non) (vs.getD i bL);rw[ag,ae hi,ag,hu];exact ru
  refine all _ fun i hi=>?_;have m:i∈(aq ns.length).toArray:=P.perm.mem_iff.mp (jr.mp hi);simpa using m
theorem int_at{ns:List Int}{vs:List Value}(r:cf vs ns){i:Nat}(hi:i<ns.length):∃t,vs.getD i .none=.int (ns.getD i 0) t:=by
 induction r generalizing i with
 |nil=>exact absurd hi (gh _)
 |cons y t h ih=>
  cases i with
  |zero=>exact⟨t,rfl⟩
  |succ i=>exact ih (by simpa using hi)
theorem Hk{ns:List Int}{vs:List Value}(r:cf vs ns):vs.length=ns.length:=by
 induction r with
 |nil=>rfl
 |cons y t h ih=>simp[ih]
theorem wt{prog:Program}{w:World}{A:Around}{ns:List Int}{vs:List Value}{h0:Heap}(r:cf vs ns)(h2:2<=vs.length):ED prog w A (ltI ns) vs h0:=by
 intro s1 _;refine⟨oneType',fun Q' E' q=>?_,fun i j C hi hj _ q=>?_⟩
 ·match vs,r,h2 with
  |v1::v2::rest,r,_=>
   rw[keyKind_ints r];exact aj q
 ·rw[Hk r]at hi hj
  obtain⟨t,e1⟩:=int_at r hi;obtain⟨u,e2⟩:=int_at r hj;unfold kas_ask;rw[e1,e2,keyLt'_oneType];exact oneLt_int q
noncomputable def F1(K:af):List V->Hp->VK->Prop:=fun xs H Q=>∃p ns,xs=[V.ref p]/\SqL K H p (ns.map V.int)/\ns.length<64/\ns.Nodup/\∀l,H l=none->Q (.ref l) (upd H l (.lst (sortI ns)))
theorem ya{X:Cx}:fO X (.builtin "sorted") (F1 X.K):=by
 intro pins s σ H xs us Q I r h;obtain⟨p,ns,rfl,hq,h64,nd,q⟩:=h;obtain⟨u,rfl,rx⟩:=vals1 r;cases rx;obtain⟨its,r',pl,hz⟩:=I.list hq;have hlen:=r'.length;rw[ai]at hlen;have hv:its.length=ns.length:=by omega
 refine pZ (lt:=ltI ns) (vs:=its) (by rw[hv];exact Du nd) pl.isList (by omega) (fun h2=>wt (intsAre_of r') h2) ?_;obtain⟨c,hc⟩:=sortedAll_at s.heap its (fF (ltI ns) its).toArray;have hz2:(sortI ns).length<=sizeLine:=by
  unfold sortI;rw[ai,zo nd];exact fm h64
 exact⟨.ref (s.heap.objs.size+1),_,I.laid (t':=s.toks) (fun b o e=>IA e) (d8 _) (show dQ X.prog X.w _ _ _ (.lst (sortI ns))from⟨hz2,_,c,outI nd r',hc⟩),rfl,q _ (I.hok.fresh (d8 _))⟩
end Q
namespace L2
open PySem PySem.Spec PyProof.Rows
section
variable {X:Cx}
noncomputable def nats(n:Nat):List V:=(aq n).map fun i:Nat=>V.int (i:Int)
theorem AI:∀(n:Nat)(acc:Array Value),ItemsOf (fun i v=>∃t,v=eO (0+i*1) t) acc n->bO (nats n) acc.toList:=by
 intro n acc h;have key:∀(l:List Value)(k:Nat),(∀(j:Nat) v,l[j]? =some v->∃t,v=eO ((k+j:Nat):Int) t)->bO ((List.range' k l.length).map fun i:Nat=>V.int (i:Int)) l:=by
  intro l
  induction l with
  |nil=>exact fun _ _=>.nil
  |cons v l ih=>
   intro k hk;obtain⟨t,e⟩:=hk 0 v rfl;refine .cons ⟨t,by rw[e];simp⟩ ?_;refine ih (k+1) fun j w hw=>?_;obtain⟨t',e'⟩:=hk (j+1) w (by simpa using hw);exact⟨t',by rw[e'];congr 2;omega⟩
 have hl:acc.toList.length=n:=by rw[aO];exact h.1
 have :=key acc.toList 0 fun j v hv=>by
  obtain⟨t,e⟩:=h.2 j v (by rw[<-bA];exact hv);exact⟨t,by rw[e];congr 1;omega⟩
 rw[hl,<-List.range_eq_range']at this;exact this
noncomputable def tLRng(ta:TA):TE:=fun σ H Q=>ta σ H fun vs H1=>∃n:Nat,vs=[.int n]/\n<=1000/\∀p,H1 p=none->Q (.ref p) (upd H1 p (.lst (nats n)))
theorem pe_lrng{a:Expr}{ta:TA}{p p' pos pos':Pos}(hc:X.calm=true)(hg:Gl X "range")(hm:X.mg "range"=none)(hg':Gl X "list")(hm':X.mg "list"=none)(ha:PA X [a] ta)(hs:bP [a] X.env=[(false,eval a X.env)]:=by rfl):
  PE X (.Call (.Name "list" p) [.Call (.Name "range" p') [a] [] pos'] [] pos) (tLRng ta):=by
 intro pins s σ H Q I h;refine Call_ (iR I hg' hm' kH (cu (kF ?_) rfl rfl));refine Call_ (iR I hg hm boot_range (cu (thn (ha pos' pins s σ H _ I h) fun us s1 ⟨vs,H1,I1,r1,q1⟩=>?_) hs rfl));obtain⟨n,e,hn,q⟩:=q1;subst e;cases r1 with
 |cons r rr=>
  cases rr;obtain⟨t,rfl⟩:=r;refine call_range_1 ?_;refine aj ?_;have hsz:rT 0 (n:Int) 1=(n:Int):=by rw[rangeSize_one];split <;>omega
  refine call_list_range (n:=n) (I1.ok.hd hc) (IsRange.new ..) (small_one (by decide) (by decide) (by omega) (by omega)) hsz (by omega) fun h' tk acc' c' hk hS hit=>?_;have hv:=AI n acc' hit;refine⟨.ref _,_,I1.laid (t':=tk) (o:=.lst (nats n)) (fun b o e=>hk b o (ah _ e)) ?_ ⟨?_,acc'.toList,c',hv,hS⟩,rfl,q _ (I1.hok.fresh ?_)⟩
  ·simp[Heap.push]
  ·unfold nats;rw[ai,bq,rp];omega
  ·simp[Heap.push]
end
section
variable {X:Cx}
noncomputable def leP(a b c d:Int):Bool:=decide (a<c\/a=c/\b<=d)
noncomputable def rLeP(K:af):R2:=fun x y H Q=>∃p q a b c d,x=.ref p/\y=.ref q/\SqT K H p [.int a,.int b]/\SqT K H q [.int c,.int d]/\Q (.bl (leP a b c d)) H
noncomputable def F4:V->List V->Hp->VK->Prop:=fun x vs H Q=>∃(l:Addr)(ns:List Int)(k:Int),x=.ref l/\vs=[.int k]/\H l=some (.lst (ns.map V.int))/\k∈ns/\ns.length<=60/\Q (.int (ns.idxOf k:Nat)) H
theorem GS:MtR X "list.index" F4:=by
 intro pins s σ H x vs v us Q I rx rv h;obtain⟨l,ns,k,rfl,rfl,hH,hk,h60,q⟩:=h;cases rx;obtain⟨u,rfl,ru⟩:=rv.one;obtain⟨t,rfl⟩:=ru;obtain⟨its,r,pl,hz⟩:=I.list (SqL.of hH);have hi:cf its ns:=intsAre_of r;have hlen:=hi.length;have hj:ns.idxOf k<ns.length:=List.idxOf_lt_length_iff.mpr hk;obtain⟨⟨cls,dd,data,sl⟩,ho,hc,n,hd⟩:=id pl.isList;simp only at hc hd;subst hc hd;refine uZ yD ⟨_,ho,rfl⟩ PySem.F.entry_list_index (PySem.F.args_list_index_2 _ _)
  (PySem.SeqAt.list_indexAt l its.toArray n dd sl (.int k t) (isInt k) (ns.idxOf k) (by simpa[hlen]using hj) (by omega) ?_ ?_) ⟨ho,fun y hy=>(eq_isInt k t hi y (by simpa using hy)).at _ _,?_⟩
 ·show isInt k its[ns.idxOf k]=true
  rw[isInt_at k hi _ (by omega) hj];simpa using List.getElem_idxOf hj
 ·intro j hjs hlt
  show isInt k its[j]=false;rw[isInt_at k hi j (by simpa using hjs) (by omega)];exact ne_of_lt_idxOf hlt _
 ·exact⟨.int (ns.idxOf k:Nat),_,I.kept (t':=s.toks+1) fun b o e=>e,⟨_,rfl⟩,q⟩
end
end L2
namespace Q
open PySem PySem.Spec PySem.W PyProof.Rows L2
noncomputable def plt(x y:Int×Int):Bool:=decide (x.1<y.1\/x.1=y.1/\x.2<y.2)
noncomputable def ltP(ps:List (Int×Int))(i j:Nat):Bool:=plt (ps.getD i (0,0)) (ps.getD j (0,0))
noncomputable def ordP(ps:List (Int×Int)):List Nat:=if ps.length<2 then aq ps.length else(run (ltP ps) (cV ps.length)).toList
noncomputable def sortP{α:Type}(d:α)(ps:List (Int×Int))(ys:List α):List α:=(ordP ps).map fun i=>ys.getD i d
noncomputable def Ir(H:Hp)(ys:List V)(ps:List (Int×Int)):Prop:=Paired (fun v k=>∃a,v=V.ref a/\H a=some (.tup [.int k.1,.int k.2])) ys ps
noncomputable def rSortP(K:af):List V->Hp->VK->Prop:=fun xs H Q=>∃p ys ps,xs=[V.ref p]/\SqL K H p ys/\ps.length<64/\ps.Nodup/\Ir H ys ps/\∀l,H l=none->Q (.ref l) (upd H l (.lst (sortP .non ps ys)))
end Q
namespace D8
open PySem PySem.Spec PySem.W PyProof.Rows L2
noncomputable abbrev four:List (Int×Int):=[(0,0),(0,1),(1,0),(1,1)]
section
variable {prog:Program}{w:World}{A:Around}{E:Value->Shared->Prop}{s:Shared}
theorem l5{h h':Heap}{S a:Addr}{o:Obj}{es ep t}{ks:List Key}(x:cn (aZ prog w) h ks a)(ho:h.get? S=some o)(hd:o.data=.set es ep t)(hs:cO S h h'):cn (aZ prog w) h' ks a:=by
 obtain⟨o',items,n,ho',hc,hd',hi⟩:=x;have hne:a≠S:=by
  rintro rfl;obtain rfl:o'=o:=aT (ho'.symm.trans ho);rw[hd]at hd';exact nomatch hd'
 exact⟨o',items,n,(hs.2 a hne).trans ho',hc,hd',hi⟩
theorem map_ins(es:Array (Int×Value))(p:Nat)(h:Int)(v:Value):(bD es p (h,v)).map (·.1)=bD (es.map (·.1)) p h:=by
 unfold bD;simp
theorem FG(es:Array (Int×Value))(p:Nat)(x:Int×Value):(bD es p x).size=es.size+1:=by
 unfold bD;simp;omega
end
section
variable {prog:Program}{w:World}{A:Around}{R:Result->Shared->Prop}{I:Addr}{fp wr:List Addr}{G:Array kD->Array kD->Prop}{n:Nat}{P:Nat->Value->Prop}{St:Nat->Shared->Prop}
theorem l6{h h':Heap}{a:Addr}{ks:List Key}(k:∀o,h.get? a=some o->h'.get? a=some o):cn (aZ prog w) h ks a->cn (aZ prog w) h' ks a
 |⟨o,items,n,ho,rest⟩=>⟨o,items,n,k o ho,rest⟩
end
noncomputable def Prs(H:Hp)(as:List Addr)(ps:List (Int×Int)):Prop:=as.length=ps.length/\∀(i:Nat) a q,as[i]? =some a->ps[i]? =some q->H a=some (.tup [.int q.1,.int q.2])
noncomputable def rSetP(K:af):List V->Hp->VK->Prop:=fun xs H Q=>∃p as ps,xs=[V.ref p]/\SqL K H p (as.map V.ref)/\Prs H as ps/\(∀q∈ps,q∈four)/\∀a (ks:List (Int×Int)),H a=none->ks.Nodup->(∀r,r∈ks↔r∈ps)->Q (.ref a) (upd H a (_root_.Q.AX a ks.length))
end D8
namespace L2
open PySem PySem.Spec PyProof.Rows
section
variable {X:Cx}
noncomputable def CDivB(_ j:Int):Prop:=0<j/\j.natAbs.log2<9000
noncomputable def rDivB:R2:=rI CDivB fun i j=>.int (i/j)
noncomputable def rInsert:V->List V->Hp->VK->Prop:=fun x vs H Q=>∃l xs k y,x=.ref l/\vs=[.int k,y]/\H l=some (.lst xs)/\xs.length<sizeLine/\0<=k/\k<=xs.length/\Q .non (upd H l (.lst (xs.take k.toNat++y::xs.drop k.toNat)))
end
section
variable {X:Cx}
noncomputable def rSplit:V->List V->Hp->VK->Prop:=fun x vs H Q=>∃z y:Str,x=.str z/\vs=[.str y]/\(y.length==0)=false/\z.length+2<=sizeLine/\∀p,H p=none->Q (.ref p) (upd H p (.lst ((Txt.split z y).map V.str)))
end
noncomputable def Itz(K:af)(a b:Addr):It:=
 ⟨fun i H=>∃xs ys x y,SqL K H a xs/\SqL K H b ys/\xs[i]? =some x/\ys[i]? =some y,
  fun i H v H'=>∃p x y,H p=none/\H'=upd H p (.tup [x,y])/\v=.ref p/\(∀xs,SqL K H a xs->xs[i]? =some x)/\∀ys,SqL K H b ys->ys[i]? =some y,
  fun i H=>∃xs ys,SqL K H a xs/\SqL K H b ys/\(xs.length<=i\/ys.length<=i)⟩
section
variable {X:Cx}{es:List Expr}{kk:Nat}{pp:Pos}
noncomputable def iZip(K:af)(t:TA):TI:=fun σ H R=>t σ H fun vs H1=>∃a b,vs=[.ref a,.ref b]/\(∃xs,SqL K H1 a xs)/\(∃ys,SqL K H1 b ys)/\R (Itz K a b) H1
end
noncomputable def DkIn(P:Program)(w:World)(K:af)(a:Addr)(kvs:List (Key×V)):Prop:=
 (a==gA)=false/\∃vs,KV kvs vs/\∀h,K.In h->h.DictOf (aZ P w) a vs
section
variable {X:Cx}{dic:Addr->Option (List (Key×V))}
noncomputable def rInG(dic:Addr->Option (List (Key×V))):R2:=fun x y H Q=>∃a kvs k,y=.ref a/\dic a=some kvs/\x=kV k/\Q (.bl (eI kvs k).isSome) H
noncomputable def rIxG(dic:Addr->Option (List (Key×V))):R2:=fun x y H Q=>∃a kvs k v,x=.ref a/\dic a=some kvs/\y=kV k/\eI kvs k=some v/\Q v H
end
noncomputable def fText(pre post:Str)(i:Int):Str:=Str.empty++pre++(toString i:Str)++post
noncomputable def tFst(pre post:Str)(t:TE):TE:=fun σ H Q=>(Str.empty++pre).length<=sizeLine/\t σ H fun x H1=>∃i,x=.int i/\i.natAbs.log2<1920/\(fText pre post i).length<=sizeLine/\Q (.str (fText pre post i)) H1
end L2
namespace PySem
section
variable {prog:Program}{w:World}{A:Around}{E:Value->Shared->Prop}{s:Shared}
theorem GH{j t:Addr}{k:Nat}{xs:Array Value}{v:Value}{Q:Value->Shared->Prop}(hj:s.heap.IsTupleIter j t k)(ht:s.heap.IsTuple t xs)(hv:xs[k]? =some v)
  (q:∀h',h'.IsTupleIter j t (k+1)->cO j s.heap h'->Q v {s with heap:=h'}):wpAny (model prog w) A (fR (.ref j)) Q E s:=by
 obtain⟨o,e1,e2,e3⟩:=id hj;obtain⟨p,f1,_,n,f3⟩:=ht;unfold fR;refine aa (dH (name:=cZ "__next__") hj.typeIs hV (cB hV hj.typeIs AD ?_ (An _)));show wpAny _ _ (field (.ref j) 0>>=_) _ _ s;refine aa (eW e1 e3 (x:=.ref t) rfl ?_);show wpAny _ _ (if(aV t==bL)=true then _ else _) _ _ s;rw[if_neg (fun z:(aV t==bL)=true=>absurd z aD)];show wpAny _ _ (field (.ref j) 1>>=_) _ _ s;refine aa (eW e1 e3 (x:=.int k 0) rfl ?_);show wpAny _ _ (iG (.ref t)>>=_) _ _ s;refine aa (du f1 f3 ?_);simp only[aP,hv];refine aa (rj e1 e3 (by simp) (aj ⟨v,rfl,aj (q _ ?_ (bC ..))⟩));exact⟨_,bK _ e1 (oq (iO e3 _)),(Obj.cls_mapFields ..).trans e2,by rw[iO e3];simp[rawInt]⟩
theorem Ck{j t:Addr}{k:Nat}{xs:Array Value}{Q:Value->Shared->Prop}(hh:A.handled=none)(hj:s.heap.IsTupleIter j t k)(ht:s.heap.IsTuple t xs)(hv:xs[k]? =none)
  (q:∀h' e,Heap.ExtBut j s.heap h'->(∃o,h'.get? e=some o/\o.cls=.type "StopIteration")->E (.ref e) {s with heap:=h'}):wpAny (model prog w) A (fR (.ref j)) Q E s:=by
 obtain⟨o,e1,e2,e3⟩:=id hj;obtain⟨p,f1,_,n,f3⟩:=ht;unfold fR;refine aa (dH (name:=cZ "__next__") hj.typeIs hV (cB hV hj.typeIs AD ?_ (An _)));show wpAny _ _ (field (.ref j) 0>>=_) _ _ s;refine aa (eW e1 e3 (x:=.ref t) rfl ?_);show wpAny _ _ (if(aV t==bL)=true then _ else _) _ _ s;rw[if_neg (fun z:(aV t==bL)=true=>absurd z aD)];show wpAny _ _ (field (.ref j) 1>>=_) _ _ s;refine aa (eW e1 e3 (x:=.int k 0) rfl ?_);show wpAny _ _ (iG (.ref t)>>=_) _ _ s;refine aa (du f1 f3 ?_);simp only[aP,hv];refine aa (gw (aa (rj e1 e3 (by simp) ?_)));show wpAny _ _ (newExc (.type "StopIteration") []>>=_) _ _ _;refine aa ?_;simp only[newExc,newTuple];refine aa (bx ?_ (by size_fits));refine aa (m:=rB _ _) (mQ (a:=bL) (by first |rfl| (simp only[rB];rfl)) ?_);refine bx ?_ (by size_fits);simp only[EG];refine aa (wpAny_handled ?_);first |rw[show A.in1.handled=none from hh] |rw[hh]
 refine aa (aj (wpAny_throw ?_));exact q _ _ (((bC ..).extBut.push _).push _) ⟨_,au _ rfl,rfl⟩
end
end PySem
namespace L2
open PySem PySem.Spec PyProof.Rows
noncomputable def Itzt(K:af)(a b:Addr):It:=
 ⟨fun i H=>∃xs ys x y,SqT K H a xs/\SqL K H b ys/\xs[i]? =some x/\ys[i]? =some y,
  fun i H v H'=>∃p x y,H p=none/\H'=upd H p (.tup [x,y])/\v=.ref p/\(∀xs,SqT K H a xs->xs[i]? =some x)/\∀ys,SqL K H b ys->ys[i]? =some y,
  fun i H=>∃xs,SqT K H a xs/\xs.length<=i⟩
theorem tup_ne{h:Heap}{a c:Addr}{its:Array Value}{o:Obj}(hl:h.IsTuple a its)(hc:h.get? c=some o)(hk:o.cls≠.type "tuple"):a≠c:=by
 obtain⟨o',e,k,_⟩:=hl;rintro rfl;rw[e]at hc;cases hc;exact hk k
section
variable {X:Cx}{es:List Expr}{kk:Nat}{pp:Pos}
noncomputable def iZipT(K:af)(t:TA):TI:=fun σ H R=>t σ H fun vs H1=>∃a b,vs=[.ref a,.ref b]/\(∃xs,SqT K H1 a xs)/\(∃ys,SqL K H1 b ys)/\R (Itzt K a b) H1
end
end L2
namespace PySem
open Sem (wp)
local macro_rules | `(term| «the numeral») => return Lean.mkIdent (cy (cy (cy (Lean.Name.num (cy (cy (cy (cy (cy AB "_private") "PySem") "Builtin") "Int") "W0All") 0) "PySem") "Builtin") "readNumeral")
local macro_rules | `(term| «a value») => return Lean.mkIdent (cy (cy (cy (cy (Lean.Name.num (cy (cy (cy (cy (cy AB "_private") "PySem") "Builtin") "Int") "W0All") 0) "PySem") "Builtin") "Numeral") "value")
end PySem
namespace L2
open PySem PySem.Spec PyProof.Rows
inductive Fig:Str->Int->Prop
 |one {a:Nat} (h:a<10):Fig ⟨#[48+a]⟩ (a:Nat)
 |two {a b:Nat} (ha:a<10) (hb:b<10):Fig ⟨#[48+a,48+b]⟩ (10*a+b:Nat)
section
variable {X:Cx}{dic:Addr->Option (List (Key×V))}
noncomputable def upS(z:Str):Str:=⟨placed z fun _ c=>Unicode.upperOf c⟩
noncomputable def rUpper:V->List V->Hp->VK->Prop:=fun x vs H Q=>∃z:Str,x=.str z/\vs=[]/\(upS z).length<=100/\Q (.str (upS z)) H
noncomputable def rNiG(dic:Addr->Option (List (Key×V))):R2:=fun x y H Q=>∃a kvs k,y=.ref a/\dic a=some kvs/\x=kV k/\Q (.bl (!(eI kvs k).isSome)) H
end
end L2
namespace Q
open PySem PySem.Spec PySem.W PyProof.Rows L2
noncomputable def llt:List Int->List Int->Bool
 | [],[]=>false
 | [],_::_=>true
 |_::_,[]=>false
 |a::x,b::y=>decide (a<b)||(decide (a=b)&&llt x y)
theorem qe:∀{x y z:List Int},llt x y=true->llt y z=true->llt x z=true
 | [],[],_,h,_=>nomatch h
 | [],_::_,[],_,h=>nomatch h
 | [],_::_,_::_,_,_=>rfl
 |_::_,[],_,h,_=>nomatch h
 |_::_,_::_,[],_,h=>nomatch h
 |a::x,b::y,c::z,h,k=>by
  simp only[llt,dj,aL,decide_eq_true_eq]at h k⊢;rcases h with h|⟨rfl,h⟩
  ·rcases k with k|⟨rfl,k⟩
   ·exact .inl (by omega)
   ·exact .inl h
  ·rcases k with k|⟨rfl,k⟩
   ·exact .inl k
   ·exact .inr ⟨rfl,qe h k⟩
theorem iT:∀{x y:List Int},x≠y->llt x y= !llt y x
 | [],[],h=>absurd rfl h
 | [],_::_,_=>rfl
 |_::_,[],_=>rfl
 |a::x,b::y,h=>by
  by_cases e:a=b
  ·subst e
   have :=iT (x:=x) (y:=y) fun z=>h (by rw[z])
   simp[llt,this]
  ·by_cases c:a<b
   ·have :¬b<a:=by omega
    simp[llt,c,this,e,cb e]
   ·have :b<a:=by omega
    simp[llt,c,this,e,cb e]
noncomputable def ltL(ps:List (List Int))(i j:Nat):Bool:=llt (ps.getD i []) (ps.getD j [])
noncomputable def DQ(ps:List (List Int)):List Nat:=if ps.length<2 then aq ps.length else(run (ltL ps) (cV ps.length)).toList
noncomputable def cF{α:Type}(d:α)(ps:List (List Int))(ys:List α):List α:=(DQ ps).map fun i=>ys.getD i d
theorem neL{ps:List (List Int)}(nd:ps.Nodup){i j:Nat}(hi:i<ps.length)(hj:j<ps.length)(h:i≠j):ps.getD i []≠ps.getD j []:=fun e=>by
 rw[ag,ag,ae hi,ae hj]at e;exact h ((dY nd).mp e)
theorem Dt{ps:List (List Int)}(nd:ps.Nodup):Tot (ltL ps) ps.length where
 tri:=fun i j hi hj h=>iT (neL nd hi hj h)
 tr:=fun i j k _ _ _ a b=>qe a b
theorem kP{ps:List (List Int)}(nd:ps.Nodup):(DQ ps).Perm (aq ps.length):=by
 unfold DQ;split
 ·exact dW _
 ·have P:=(fv (Dt nd) (by omega)).1
  have :=gI.mp P.perm
  simpa using this
theorem qa{ps:List (List Int)}{ys:List V}{vs:List Value}(nd:ps.Nodup)(hl:ps.length=ys.length)(r:bO ys vs):bO (cF .non ps ys) (fF (ltL ps) vs):=by
 have hlen:=r.length;have e:vs.length=ps.length:=by omega
 unfold fF cF DQ;rw[e];by_cases c:ps.length<2
 ·rw[if_pos c,if_pos c]
  have e2:(aq ps.length).map (fun i=>ys.getD i V.non)=ys:=by
   rw[hl];apply cK
   ·simp
   ·intro i h1 h2
    simp[h2]
  rw[e2];exact r
 ·rw[if_neg c,if_neg c]
  have P:=(fv (Dt nd) (by omega)).1;have all:∀l:List Nat,(∀i∈l,i<ps.length)->bO (l.map fun i=>ys.getD i V.non) (l.map fun i=>vs.getD i bL):=by
   intro l
   induction l with
   |nil=>exact fun _=>.nil
   |cons i l ih=>
    intro h;have hi:i<ys.length:=by have :=h i (.head _);omega
    obtain⟨u,hu,ru⟩:=r.get (ae hi);refine .cons ?_ (ih fun j hj=>h j (.tail _ hj));show L2.RelV (ys.getD i V.non) (vs.getD i bL);rw[ag,ae hi,ag,hu];exact ru
  refine all _ fun i hi=>?_;have m:i∈(aq ps.length).toArray:=P.perm.mem_iff.mp (jr.mp hi);simpa using m
noncomputable def jG(h:Heap)(vs:List Value)(ps:List (List Int)):Prop:=Paired (fun v k=>∃a o its n,v=.ref a/\h.get? a=some o/\o.cls=.type "tuple"/\o.data=.seq its n/\cf its.toList k) vs ps
theorem fV{h:Heap}{vs:List Value}{ps:List (List Int)}(r:jG h vs ps){i:Nat}(hi:i<vs.length):∃a o its n,vs.getD i .none=.ref a/\h.get? a=some o/\o.data=.seq its n/\cf its.toList (ps.getD i []):=by
 unfold jG at r
 induction r generalizing i with
 |nil=>exact absurd hi (gh _)
 |cons y t ih=>
  cases i with
  |zero=>
   obtain⟨a,o,its,n,e1,e2,e3,e4,e5⟩:=y;exact⟨a,o,its,n,e1,e2,e4,e5⟩
  |succ i=>exact ih (by simpa using hi)
theorem Hl{h h1:Heap}(kp:∀b o,h.get? b=some o->h1.get? b=some o){vs:List Value}{ps:List (List Int)}(r:jG h vs ps)(hp:∀k∈ps,k≠[]):∃fs,KatTups h1 vs fs/\fs.length=vs.length/\∀v∈fs,∃x t,v=eO x t:=by
 unfold jG at r
 induction r with
 |nil=>exact⟨[],.nil,rfl,fun v hv=>nomatch hv⟩
 | @cons v k vs ps y t ih=>
  obtain⟨fs,a1,a2,a3⟩:=ih fun k hk=>hp k (aH _ hk);obtain⟨a,o,its,n,rfl,e2,e3,e4,e5⟩:=y;have hk:=hp k aI;obtain⟨l⟩:=its;cases l with
  |nil=>
   cases e5;exact absurd rfl hk
  |cons u l=>
   cases e5 with
   |cons x t h=>
    refine⟨_::fs,.cons (kp _ _ e2) e3 e4 rfl a1,by simp[a2],fun v hv=>?_⟩;rcases aB.mp hv with rfl|hv
    ·exact⟨_,_,rfl⟩
    ·exact a3 v hv
theorem G0{prog:Program}{w:World}{A:Around}{b fin:Bool}{C:Bool->Shared->Prop}{s:Shared}{xs ys:List Value}{x y:List Int}(i:Nat)(hx:cf xs x)(hy:cf ys y)(hl:x.length=y.length)(h:x≠y)(q:C (llt x y) s):KatLex prog w A b fin C (xs.zip ys) (i+1) s:=by
 induction hx generalizing ys y i with
 |nil=>cases hy with
  |nil=>exact absurd rfl h
  |cons=>simp at hl
 |cons a t hx ih=>cases hy with
  |nil=>simp at hl
  |cons c u hy=>
   refine kat_cons (jM ?_);by_cases e:a=c
   ·subst e
    rw[show(a==a)=true by simp];refine kat_yes (ih (i+1) hy (by simpa using hl) (fun z=>h (by rw[z])) ?_);simp[llt]at q;exact q
   ·rw[show(a==c)=false by simpa using e]
    refine kat_no ?_;rw[show(b&&(i+1==0))=false by simp];refine kat_one _ _ (lt_int ?_);simp[llt,e]at q;exact q
theorem pC{prog:Program}{w:World}{A:Around}{ps:List (List Int)}{vs:List Value}{h0:Heap}{m:Nat}(nd:ps.Nodup)(hl:vs.length=ps.length)(r:jG h0 vs ps)(h2:2<=vs.length)(hm:∀k∈ps,k.length=m):ED prog w A (ltL ps) vs h0:=by
 have hm0:m≠0:=fun z=>by
  have e:∀i,i<ps.length->ps.getD i []=[]:=fun i hi=>by
   rw[ag,ae hi];exact aX.mp ((hm _ (bu hi)).trans z)
  exact neL nd (i:=0) (j:=1) (by omega) (by omega) (by decide) ((e 0 (by omega)).trans (e 1 (by omega)).symm)
 intro s1 kp;refine⟨tuples' true,fun Q' E' q=>?_,fun i j C hi hj hij q=>?_⟩
 ·obtain⟨fs,a1,a2,a3⟩:=Hl kp r fun k hk z=>hm0 (by rw[<-hm k hk,z];rfl)
  refine kat_kind (T:=.type "int") a1 (by omega) (fun v hv=>?_) rfl q;obtain⟨x,t,rfl⟩:=a3 v hv;exact Looks.of_pure rfl
 ·obtain⟨a,o,its,n,e1,e2,e3,e4⟩:=fV r hi
  obtain⟨b,o',its',n',f1,f2,f3,f4⟩:=fV r hj;have hne:=neL nd (hl▸hi) (hl▸hj) hij;have l1:(ps.getD i []).length=m:=by rw[ag,ae (hl▸hi)];exact hm _ (bu _)
  have l2:(ps.getD j []).length=m:=by rw[ag,ae (hl▸hj)];exact hm _ (bu _)
  unfold kas_ask;unfold ltL at q;rw[e1,f1];generalize ps.getD i []=x at *;generalize ps.getD j []=y at *;refine kat_lt (kp _ _ e2) e3 (kp _ _ f2) f3 ?_;generalize its.toList=xs at *;generalize its'.toList=ys at *;cases e4 with
  |nil=>exact absurd l1.symm hm0
  | @cons c t xs x hx=>
   cases f4 with
   |nil=>exact absurd l2.symm hm0
   | @cons d u ys y hy=>
    refine kat_cons (jM ?_);by_cases e:c=d
    ·subst e
     rw[show(c==c)=true by simp];refine kat_yes (G0 0 hx hy (by simp at l1 l2;omega) (fun z=>hne (by rw[z])) ?_);simp[llt]at q;exact q
    ·rw[show(c==d)=false by simpa using e]
     refine kat_no (oneLt_int ?_);simp[llt,e]at q;exact q
noncomputable def IntKeys(H:Hp)(ys:List V)(ps:List (List Int)):Prop:=Paired (fun v k=>∃a,v=V.ref a/\H a=some (.tup (k.map V.int))) ys ps
theorem zF{H:Hp}{ys:List V}{ps:List (List Int)}(h:IntKeys H ys ps):ps.length=ys.length:=by
 unfold IntKeys at h
 induction h with
 |nil=>rfl
 |cons _ _ ih=>simp[ih]
theorem oS{P:Program}{w:World}{H:Hp}{h:Heap}(ok:HOk P w H h){ys:List V}{ps:List (List Int)}{vs:List Value}(k:IntKeys H ys ps):bO ys vs->jG h vs ps:=by
 unfold IntKeys at k
 induction k generalizing vs with
 |nil=>intro z;cases z;exact .nil
 |cons y t ih=>
  intro z;cases z with
  |cons r q=>
   obtain⟨a,rfl,e⟩:=y;cases r;obtain⟨_,its,rv,o,e1,e2,n,e3⟩:=ok a _ e;exact .cons ⟨a,o,its.toArray,n,rfl,e1,e2,e3,by simpa using intsAre_of rv⟩ (ih q)
noncomputable def F0(K:af):List V->Hp->VK->Prop:=fun xs H Q=>∃p ys ps m,xs=[V.ref p]/\SqL K H p ys/\ps.length<64/\ps.Nodup/\(∀k∈ps,k.length=m)/\IntKeys H ys ps/\∀l,H l=none->Q (.ref l) (upd H l (.lst (cF .non ps ys)))
theorem xZ{X:Cx}:fO X (.builtin "sorted") (F0 X.K):=by
 intro pins s σ H xs us Q I r h;obtain⟨p,ys,ps,m,rfl,hq,h64,nd,hm,hk,q⟩:=h;obtain⟨u,rfl,rx⟩:=vals1 r;cases rx;obtain⟨its,r',pl,hz⟩:=I.list hq;have hl:ps.length=ys.length:=zF hk;have hlen:=r'.length;have hv:its.length=ps.length:=by omega
 refine pZ (lt:=ltL ps) (vs:=its) (by rw[hv];exact Dt nd) pl.isList (by omega) (fun h2=>pC nd hv (oS I.hok hk r') h2 hm) ?_;obtain⟨c,hc⟩:=sortedAll_at s.heap its (fF (ltL ps) its).toArray;have hz2:(cF V.non ps ys).length<=sizeLine:=by
  unfold cF;rw[ai,(kP nd).length_eq,bq];omega
 exact⟨.ref (s.heap.objs.size+1),_,I.laid (t':=s.toks) (fun b o e=>IA e) (d8 _) (show dQ X.prog X.w _ _ _ (.lst (cF .non ps ys))from⟨hz2,_,c,qa nd hl r',hc⟩),rfl,q _ (I.hok.fresh (d8 _))⟩
theorem zA:∀x:List Int,llt x x=false
 | []=>rfl
 |a::x=>by simp[llt,zA x]
theorem Cv{prog:Program}{w:World}{A:Around}{E:Value->Shared->Prop}{s:Shared}{p q:Addr}{us vs:List Value}{a b:List Int}{P:eA->Shared->Prop}(hx:IsTup s.heap p us.toArray)(hy:IsTup s.heap q vs.toArray)
  (ha:cf us a)(hb:cf vs b)(hl:a.length=b.length)
  (h:P (.done (.ret (.bool (llt a b)))) s):wpAny (model prog w) A (Builtin.«tuple.__lt__» ⟨[.ref p,.ref q],[]⟩) P E s:=by
 have hTb:=hy.typeIs;show wpAny _ _ (isInstance (.ref q) (.type "tuple")>>=_) _ _ s;refine aa (jK hTb isSubtype_tuple_tuple ?_);simp only[dJ,aE,if_false];refine aa (m5 hx ?_);refine aa (m5 hy ?_);refine aa ?_;show wpAny _ _ (forIn (us.zip vs) _ _) _ _ s;refine jL _ (fun rest r s'=>r.1=none/\s'=s/\∃us' vs' a' b',rest=List.zip us' vs'/\us'.length=vs'.length/\cf us' a'/\cf vs' b'/\llt a b=llt a' b') _ ?_ ?_ _ _ ⟨rfl,rfl,us,vs,a,b,rfl,by rw[ha.length,hb.length,hl],ha,hb,rfl⟩
 ·rintro x rest ⟨r,_⟩ s' ⟨hr,rfl,us',vs',a',b',e,hl',ia,ib,hll⟩
  obtain rfl:r=none:=hr;cases ia with
  |nil=>cases e
  |cons m t ia=>
   cases ib with
   |nil=>cases hl'
   |cons n u ib=>
    rw[kI]at e;cases e;dsimp only;refine aa (jM ?_);by_cases c:m=n
    ·rw[show(m==n)=true by simpa using c]
     simp only[dJ,aE,if_false];refine aj ⟨rfl,rfl,_,_,_,_,rfl,by simpa using hl',ia,ib,?_⟩;rw[hll];simp[llt,c]
    ·rw[show(m==n)=false by simpa using c]
     simp only[Bool.not_false,if_true];have e2:llt a b=decide (m<n):=by rw[hll];simp[llt,c]
     rw[e2]at h;refine aa (gw (aa (show wpAny _ _ (da .Lt (eO m t) (eO n u)) _ _ _ from lt_int (aa (aj (aj ?_))))));exact aj h
 ·rintro⟨r,_⟩ s' ⟨hr,rfl,us',vs',a',b',e,hl',ia,ib,hll⟩
  obtain rfl:r=none:=hr;dsimp only;have e2:llt a b=false:=by
   rw[hll];cases ia with
   |nil=>cases ib with
    |nil=>rfl
    |cons n u ib=>cases hl'
   |cons m t ia=>cases ib with
    |nil=>cases hl'
    |cons n u ib=>rw[kI]at e;cases e
  rw[e2]at h;have hz:us.toArray.size=vs.toArray.size:=by rw[ay,ay,ha.length,hb.length,hl]
  have e3:eS .Lt us.toArray.size vs.toArray.size=.bool false:=by rw[hz];simp[eS]
  rw[e3];exact aj h
theorem gt_tree{prog:Program}{w:World}{A:Around}{E:Value->Shared->Prop}{s:Shared}{p q:Addr}{us vs:List Value}{a b:List Int}{P:eA->Shared->Prop}(hx:IsTup s.heap p us.toArray)(hy:IsTup s.heap q vs.toArray)
  (ha:cf us a)(hb:cf vs b)(hl:a.length=b.length)
  (h:P (.done (.ret (.bool (llt b a)))) s):wpAny (model prog w) A (Builtin.«tuple.__gt__» ⟨[.ref p,.ref q],[]⟩) P E s:=by
 have hTb:=hy.typeIs;show wpAny _ _ (isInstance (.ref q) (.type "tuple")>>=_) _ _ s;refine aa (jK hTb isSubtype_tuple_tuple ?_);simp only[dJ,aE,if_false];refine aa (m5 hx ?_);refine aa (m5 hy ?_);refine aa ?_;show wpAny _ _ (forIn (us.zip vs) _ _) _ _ s;refine jL _ (fun rest r s'=>r.1=none/\s'=s/\∃us' vs' a' b',rest=List.zip us' vs'/\us'.length=vs'.length/\cf us' a'/\cf vs' b'/\llt b a=llt b' a') _ ?_ ?_ _ _ ⟨rfl,rfl,us,vs,a,b,rfl,by rw[ha.length,hb.length,hl],ha,hb,rfl⟩
 ·rintro x rest ⟨r,_⟩ s' ⟨hr,rfl,us',vs',a',b',e,hl',ia,ib,hll⟩
  obtain rfl:r=none:=hr;cases ia with
  |nil=>cases e
  |cons m t ia=>
   cases ib with
   |nil=>cases hl'
   |cons n u ib=>
    rw[kI]at e;cases e;dsimp only;refine aa (jM ?_);by_cases c:m=n
    ·rw[show(m==n)=true by simpa using c]
     simp only[dJ,aE,if_false];refine aj ⟨rfl,rfl,_,_,_,_,rfl,by simpa using hl',ia,ib,?_⟩;rw[hll];simp[llt,c]
    ·rw[show(m==n)=false by simpa using c]
     simp only[Bool.not_false,if_true];have e2:llt b a=decide (n<m):=by rw[hll];simp[llt,cb c]
     rw[e2]at h;refine aa (gw (aa (show wpAny _ _ (da .Gt (eO m t) (eO n u)) _ _ _ from PyProof.Rows.gt_int (aa (aj (aj ?_))))));exact aj h
 ·rintro⟨r,_⟩ s' ⟨hr,rfl,us',vs',a',b',e,hl',ia,ib,hll⟩
  obtain rfl:r=none:=hr;dsimp only;have e2:llt b a=false:=by
   rw[hll];cases ia with
   |nil=>cases ib with
    |nil=>rfl
    |cons n u ib=>cases hl'
   |cons m t ia=>cases ib with
    |nil=>cases hl'
    |cons n u ib=>rw[kI]at e;cases e
  rw[e2]at h;have hz:us.toArray.size=vs.toArray.size:=by rw[ay,ay,ha.length,hb.length,hl]
  have e3:eS .Gt us.toArray.size vs.toArray.size=.bool false:=by rw[hz];simp[eS]
  rw[e3];exact aj h
section
variable {prog:Program}{w:World}{A:Around}{I:Addr}{fp wr:List Addr}{G:Array kD->Array kD->Prop}{P:Nat->Value->Prop}{St:Nat->Shared->Prop}{R:Result->Shared->Prop}
theorem D4(W:WalksS prog w A.in1 I fp wr G 2 P St){S:Addr}(hSf:S∉fp){v0 v1:Value}(h0:∀v,P 0 v->v=v0)(h1:∀v,P 1 v->v=v1){s:Shared}{c:Nat}{bt:Bool}(hst:St 0 s)
  (hS:s.heap.get? S=some {cls:=.type "list",dict:=none,data:=.seq #[] c,slots:= #[]})
  (hcmp:∀(s':Shared)(Q:Value->Shared->Prop)(E:Value->Shared->Prop),Moved (S::wr) G s s'->Q (.bool bt) s'->wpAny (model prog w) A.in1 (Ap .Lt v1 v0) Q E s')
  (hR:∀s',Moved (S::wr) G s s'->R (.ok (.ret (if bt=true then v1 else v0))) s'):gT (model prog w) A (.builtin "min.loop" ⟨[.ref I,.none,.ref S],[]⟩) R s:=by
 have hSw:S∉wr:=fun h=>hSf (W.sub _ h);have up:∀b∈wr,b∈S::wr:=fun b hb=>aH _ hb;have nm:(toString "min"++toString ".loop":String)="min.loop":=by decide
 have ns:∀{b:Addr},b∉S::wr->S≠b:=fun hb h=>hb (by rw[h];exact aI)
 --the last turn
 have last:∀(s1:Shared)(x:Value)(d:Nat),St 2 s1->s1.heap.get? S=some {cls:=.type "list",dict:=none,data:=.seq #[x,x] d,slots:= #[]}->Moved (S::wr) G s s1->x=(if bt=true then v1 else v0)->
   gT (model prog w) A (.builtin "min.loop" ⟨[.ref I,.none,.ref S],[]⟩) R s1:=by
  intro s1 x d st g mv ex;refine cL yy ?_;rw[bN fT _];show wpAny _ A.in1 (iG (.ref S)>>=_) _ _ s1;refine aa (du g rfl ?_);show wpAny _ A.in1 (tryCatch (pyNext (.ref I)) _>>=_) _ _ s1;refine aa (fW (W.done s1 _ _ st fun s' hm=>?_));have g':=hm.heap S _ hSw g;show wpAny _ A.in1 (updateSeq S (fun _=> #[])>>=_) _ _ _;refine aa (iW g' rfl (aa (gu (aj ?_))));rw[ex];exact hR _ (k9 W.gtrans mv ((hm.mono up).then_heap (tk:=s'.toks) (ax _) fun b o hb e=>(aN _ _ (ns hb)).trans e))
 --the second
 have second:∀(s1:Shared)(d:Nat),St 1 s1->s1.heap.get? S=some {cls:=.type "list",dict:=none,data:=.seq #[v0,v0] d,slots:= #[]}->Moved (S::wr) G s s1->
   gT (model prog w) A (.builtin "min.loop" ⟨[.ref I,.none,.ref S],[]⟩) R s1:=by
  intro s1 d st g mv;refine cL yy ?_;rw[bN fT _];show wpAny _ A.in1 (iG (.ref S)>>=_) _ _ s1;refine aa (du g rfl ?_);show wpAny _ A.in1 (tryCatch (pyNext (.ref I)) _>>=_) _ _ s1;refine aa (fW (W.item 1 s1 _ _ (by decide) st fun v s' hP st' hm=>?_));obtain rfl:=h1 v hP;have g':=hm.heap S _ hSw g;have mv':=k9 W.gtrans mv (hm.mono up);show wpAny _ A.in1 (tryCatch (holding [v,v] (Ap .Lt v v0>>=_)) _>>=_) _ _ _;refine aa (fW (bf (aa (hcmp _ _ _ mv' ?_))));refine aa (bf (cU ?_));refine aa (gu (aj ?_));cases hb:bt with
  |true=>
   simp only[if_true];refine aa (iW g' rfl (aa (gu ?_)));rw[nm];refine aj ⟨dw fT _,last _ v _ (W.frame _ s' _ s'.toks st' (ax _) fun b hbf o e=>?_) (bK _ g' rfl) (mv'.then_heap (ax _) fun b o hb e=>(aN _ _ (ns hb)).trans e) (by rw[hb];rfl)⟩;exact(aN _ _ (fun h:S=b=>hSf (by rw[h];exact hbf))).trans e
  |false=>
   simp only[aE,if_false];refine aa (gu ?_);rw[nm];exact aj ⟨dw fT _,last _ v0 _ st' g' mv' (by rw[hb];rfl)⟩
 refine cL yy ?_;rw[bN fT _];show wpAny _ A.in1 (iG (.ref S)>>=_) _ _ s;refine aa (du hS rfl ?_);show wpAny _ A.in1 (tryCatch (pyNext (.ref I)) _>>=_) _ _ s;refine aa (fW (W.item 0 s _ _ (by decide) hst fun v s' hP st' hm=>?_));obtain rfl:=h0 v hP;have g':=hm.heap S _ hSw hS;show wpAny _ A.in1 (updateSeq S (fun _=> #[v,v])>>=_) _ _ _;refine aa (iW g' rfl ?_);rw[nm];refine aj ⟨dw fT _,second _ _ (W.frame _ s' _ s'.toks st' (ax _) fun b hbf o e=>?_) (bK _ g' rfl) ((hm.mono up).then_heap (ax _) fun b o hb e=>(aN _ _ (ns hb)).trans e)⟩;exact(aN _ _ (fun h:S=b=>hSf (by rw[h];exact hbf))).trans e
theorem D6(W:WalksS prog w A.in1 I fp wr G 2 P St){S:Addr}(hSf:S∉fp){v0 v1:Value}(h0:∀v,P 0 v->v=v0)(h1:∀v,P 1 v->v=v1){s:Shared}{c:Nat}{bt:Bool}(hst:St 0 s)
  (hS:s.heap.get? S=some {cls:=.type "list",dict:=none,data:=.seq #[] c,slots:= #[]})
  (hcmp:∀(s':Shared)(Q:Value->Shared->Prop)(E:Value->Shared->Prop),Moved (S::wr) G s s'->Q (.bool bt) s'->wpAny (model prog w) A.in1 (Ap .Gt v1 v0) Q E s')
  (hR:∀s',Moved (S::wr) G s s'->R (.ok (.ret (if bt=true then v1 else v0))) s'):gT (model prog w) A (.builtin "max.loop" ⟨[.ref I,.none,.ref S],[]⟩) R s:=by
 have hSw:S∉wr:=fun h=>hSf (W.sub _ h);have up:∀b∈wr,b∈S::wr:=fun b hb=>aH _ hb;have nm:(toString "max"++toString ".loop":String)="max.loop":=by decide
 have ns:∀{b:Addr},b∉S::wr->S≠b:=fun hb h=>hb (by rw[h];exact aI)
 --the last turn
 have last:∀(s1:Shared)(x:Value)(d:Nat),St 2 s1->s1.heap.get? S=some {cls:=.type "list",dict:=none,data:=.seq #[x,x] d,slots:= #[]}->Moved (S::wr) G s s1->x=(if bt=true then v1 else v0)->
   gT (model prog w) A (.builtin "max.loop" ⟨[.ref I,.none,.ref S],[]⟩) R s1:=by
  intro s1 x d st g mv ex;refine cL yz ?_;rw[bN fU _];show wpAny _ A.in1 (iG (.ref S)>>=_) _ _ s1;refine aa (du g rfl ?_);show wpAny _ A.in1 (tryCatch (pyNext (.ref I)) _>>=_) _ _ s1;refine aa (fW (W.done s1 _ _ st fun s' hm=>?_));have g':=hm.heap S _ hSw g;show wpAny _ A.in1 (updateSeq S (fun _=> #[])>>=_) _ _ _;refine aa (iW g' rfl (aa (gu (aj ?_))));rw[ex];exact hR _ (k9 W.gtrans mv ((hm.mono up).then_heap (tk:=s'.toks) (ax _) fun b o hb e=>(aN _ _ (ns hb)).trans e))
 --the second
 have second:∀(s1:Shared)(d:Nat),St 1 s1->s1.heap.get? S=some {cls:=.type "list",dict:=none,data:=.seq #[v0,v0] d,slots:= #[]}->Moved (S::wr) G s s1->
   gT (model prog w) A (.builtin "max.loop" ⟨[.ref I,.none,.ref S],[]⟩) R s1:=by
  intro s1 d st g mv;refine cL yz ?_;rw[bN fU _];show wpAny _ A.in1 (iG (.ref S)>>=_) _ _ s1;refine aa (du g rfl ?_);show wpAny _ A.in1 (tryCatch (pyNext (.ref I)) _>>=_) _ _ s1;refine aa (fW (W.item 1 s1 _ _ (by decide) st fun v s' hP st' hm=>?_));obtain rfl:=h1 v hP;have g':=hm.heap S _ hSw g;have mv':=k9 W.gtrans mv (hm.mono up);show wpAny _ A.in1 (tryCatch (holding [v,v] (Ap .Gt v v0>>=_)) _>>=_) _ _ _;refine aa (fW (bf (aa (hcmp _ _ _ mv' ?_))));refine aa (bf (cU ?_));refine aa (gu (aj ?_));cases hb:bt with
  |true=>
   simp only[if_true];refine aa (iW g' rfl (aa (gu ?_)));rw[nm];refine aj ⟨dw fU _,last _ v _ (W.frame _ s' _ s'.toks st' (ax _) fun b hbf o e=>?_) (bK _ g' rfl) (mv'.then_heap (ax _) fun b o hb e=>(aN _ _ (ns hb)).trans e) (by rw[hb];rfl)⟩;exact(aN _ _ (fun h:S=b=>hSf (by rw[h];exact hbf))).trans e
  |false=>
   simp only[aE,if_false];refine aa (gu ?_);rw[nm];exact aj ⟨dw fU _,last _ v0 _ st' g' mv' (by rw[hb];rfl)⟩
 refine cL yz ?_;rw[bN fU _];show wpAny _ A.in1 (iG (.ref S)>>=_) _ _ s;refine aa (du hS rfl ?_);show wpAny _ A.in1 (tryCatch (pyNext (.ref I)) _>>=_) _ _ s;refine aa (fW (W.item 0 s _ _ (by decide) hst fun v s' hP st' hm=>?_));obtain rfl:=h0 v hP;have g':=hm.heap S _ hSw hS;show wpAny _ A.in1 (updateSeq S (fun _=> #[v,v])>>=_) _ _ _;refine aa (iW g' rfl ?_);rw[nm];refine aj ⟨dw fU _,second _ _ (W.frame _ s' _ s'.toks st' (ax _) fun b hbf o e=>?_) (bK _ g' rfl) ((hm.mono up).then_heap (ax _) fun b o hb e=>(aN _ _ (ns hb)).trans e)⟩;exact(aN _ _ (fun h:S=b=>hSf (by rw[h];exact hbf))).trans e
theorem Eu{E:Value->Shared->Prop}{s:Shared}{p q:Addr}{us vs:List Value}{a b:List Int}{Q:Value->Shared->Prop}(hh:A.handled=none)(hu:A.units+1<cLine)(hx:IsTup s.heap p us.toArray)(hy:IsTup s.heap q vs.toArray)(ha:cf us a)(hb:cf vs b)(hl:a.length=b.length)
  (h:∀h' tk,(∀c o,s.heap.get? c=some o->h'.get? c=some o)->Q (if llt b a=true then .ref q else .ref p) {s with heap:=h',toks:=tk}):
  wpAny (model prog w) A (call (.builtin "min") [.ref p,.ref q]) Q E s:=by
 have hname:(toString "min"++toString ".loop":String)="min.loop":=by decide
 have hT:(s.heap.push {cls:=.type "tuple",data:=.seq #[.ref p,.ref q]}).IsTuple s.heap.objs.size #[.ref p,.ref q]:=⟨_,au _ rfl,rfl,0,rfl⟩;have hsz:(s.heap.push {cls:=.type "tuple",data:=.seq #[.ref p,.ref q]}).objs.size=s.heap.objs.size+1:=cg ..;refine call_function_tree F.kind_min F.plain_min F.entry_min (F.args_min2 _ _) ?_;show wpAny _ A.in1 (fE "min" ["key","default"] 0 ⟨[],[]⟩>>=_) _ _ s;refine aa (mQ (show fE "min" ["key","default"] 0 ⟨[],[]⟩=pure [none,none]from rfl) ?_);show wpAny _ A.in1 (newTuple [.ref p,.ref q]>>=_) _ _ s;refine aa (bx ?_);refine aa (gy hT ?_);refine aa (bx ?_);rw[hname];have hz2:∀o o':Obj,((s.heap.push o).push o').objs.size=s.heap.objs.size+2:=fun o o'=>by rw[cg,cg]
 refine aj ⟨dw fT _,D4 (v0:=.ref p) (v1:=.ref q) (bt:=llt b a) ((Walks.tuple (A:=A.in1) hh _ s.heap.objs.size (by rw[hsz];exact aJ (bT _)) #[.ref p,.ref q]).toS) ?_ (fun v e=>by simpa using e.symm) (fun v e=>by simpa using e.symm) ⟨⟨_,ah _ (au _ rfl),rfl,rfl⟩,(hT.push _).push _⟩ (au _ rfl) ?_ ?_⟩
 ·intro hm
  simp only[hz2,hsz]at hm;rcases aB.mp hm with e|hm
  ·exact absurd e (dq (bT _))
  ·exact absurd (aC.mp hm) (dq (a9 (bT _)))
 ·intro s' Q' E' mv q'
  have old:∀c o,s.heap.get? c=some o->s'.heap.get? c=some o:=fun c o e=>by
   have hlt:=av e;refine mv.heap c o (fun hm=>?_) (ah _ (ah _ (ah _ e)));rcases aB.mp hm with e|hm
   ·rw[e]at hlt;simp only[hz2]at hlt;exact absurd hlt (gQ.mpr (cQ _ _))
   ·rw[aC.mp hm,hsz]at hlt;exact absurd hlt (gQ.mpr (cQ _ _))
  have hx':IsTup s'.heap p us.toArray:=hx.keeps old;have hy':IsTup s'.heap q vs.toArray:=hy.keeps old;exact lB (op:=.Lt) hy'.typeIs hx'.typeIs oy (cB oy hy'.typeIs F.entry_tuple_lt (Cv hy' hx' hb ha hl.symm ⟨_,rfl,(fun e=>nomatch e),q'⟩) (F.args_tuple_lt_2 _ _)) hu
 ·intro s' mv
  have old:∀c o,s.heap.get? c=some o->s'.heap.get? c=some o:=fun c o e=>by
   have hlt:=av e;refine mv.heap c o (fun hm=>?_) (ah _ (ah _ (ah _ e)));rcases aB.mp hm with e|hm
   ·rw[e]at hlt;simp only[hz2]at hlt;exact absurd hlt (gQ.mpr (cQ _ _))
   ·rw[aC.mp hm,hsz]at hlt;exact absurd hlt (gQ.mpr (cQ _ _))
  obtain⟨h',g',d',tk',os'⟩:=s';obtain rfl:g'=s.gens:=mv.gens;obtain rfl:d'=s.drawn:=mv.drawn;obtain rfl:os'=s.os:=mv.os;exact h h' tk' old
theorem Ex{E:Value->Shared->Prop}{s:Shared}{p q:Addr}{us vs:List Value}{a b:List Int}{Q:Value->Shared->Prop}(hh:A.handled=none)(hu:A.units+1<cLine)(hx:IsTup s.heap p us.toArray)(hy:IsTup s.heap q vs.toArray)(ha:cf us a)(hb:cf vs b)(hl:a.length=b.length)
  (h:∀h' tk,(∀c o,s.heap.get? c=some o->h'.get? c=some o)->Q (if llt a b=true then .ref q else .ref p) {s with heap:=h',toks:=tk}):
  wpAny (model prog w) A (call (.builtin "max") [.ref p,.ref q]) Q E s:=by
 have hname:(toString "max"++toString ".loop":String)="max.loop":=by decide
 have hT:(s.heap.push {cls:=.type "tuple",data:=.seq #[.ref p,.ref q]}).IsTuple s.heap.objs.size #[.ref p,.ref q]:=⟨_,au _ rfl,rfl,0,rfl⟩;have hsz:(s.heap.push {cls:=.type "tuple",data:=.seq #[.ref p,.ref q]}).objs.size=s.heap.objs.size+1:=cg ..;refine call_function_tree F.kind_max F.plain_max F.entry_max (F.args_max2 _ _) ?_;show wpAny _ A.in1 (fE "max" ["key","default"] 0 ⟨[],[]⟩>>=_) _ _ s;refine aa (mQ (show fE "max" ["key","default"] 0 ⟨[],[]⟩=pure [none,none]from rfl) ?_);show wpAny _ A.in1 (newTuple [.ref p,.ref q]>>=_) _ _ s;refine aa (bx ?_);refine aa (gy hT ?_);refine aa (bx ?_);rw[hname];have hz2:∀o o':Obj,((s.heap.push o).push o').objs.size=s.heap.objs.size+2:=fun o o'=>by rw[cg,cg]
 refine aj ⟨dw fU _,D6 (v0:=.ref p) (v1:=.ref q) (bt:=llt a b) ((Walks.tuple (A:=A.in1) hh _ s.heap.objs.size (by rw[hsz];exact aJ (bT _)) #[.ref p,.ref q]).toS) ?_ (fun v e=>by simpa using e.symm) (fun v e=>by simpa using e.symm) ⟨⟨_,ah _ (au _ rfl),rfl,rfl⟩,(hT.push _).push _⟩ (au _ rfl) ?_ ?_⟩
 ·intro hm
  simp only[hz2,hsz]at hm;rcases aB.mp hm with e|hm
  ·exact absurd e (dq (bT _))
  ·exact absurd (aC.mp hm) (dq (a9 (bT _)))
 ·intro s' Q' E' mv q'
  have old:∀c o,s.heap.get? c=some o->s'.heap.get? c=some o:=fun c o e=>by
   have hlt:=av e;refine mv.heap c o (fun hm=>?_) (ah _ (ah _ (ah _ e)));rcases aB.mp hm with e|hm
   ·rw[e]at hlt;simp only[hz2]at hlt;exact absurd hlt (gQ.mpr (cQ _ _))
   ·rw[aC.mp hm,hsz]at hlt;exact absurd hlt (gQ.mpr (cQ _ _))
  have hx':IsTup s'.heap p us.toArray:=hx.keeps old;have hy':IsTup s'.heap q vs.toArray:=hy.keeps old;exact lB (op:=.Gt) hy'.typeIs hx'.typeIs F.slot_tuple_gt (cB F.slot_tuple_gt hy'.typeIs F.entry_tuple_gt (gt_tree hy' hx' hb ha hl.symm ⟨_,rfl,(fun e=>nomatch e),q'⟩) (F.args_tuple_gt_2 _ _)) hu
 ·intro s' mv
  have old:∀c o,s.heap.get? c=some o->s'.heap.get? c=some o:=fun c o e=>by
   have hlt:=av e;refine mv.heap c o (fun hm=>?_) (ah _ (ah _ (ah _ e)));rcases aB.mp hm with e|hm
   ·rw[e]at hlt;simp only[hz2]at hlt;exact absurd hlt (gQ.mpr (cQ _ _))
   ·rw[aC.mp hm,hsz]at hlt;exact absurd hlt (gQ.mpr (cQ _ _))
  obtain⟨h',g',d',tk',os'⟩:=s';obtain rfl:g'=s.gens:=mv.gens;obtain rfl:d'=s.drawn:=mv.drawn;obtain rfl:os'=s.os:=mv.os;exact h h' tk' old
end
noncomputable def rMinL(K:af):List V->Hp->VK->Prop:=fun xs H Q=>∃(p q:Addr)(a b:List Int),xs=[V.ref p,V.ref q]/\SqT K H p (a.map V.int)/\SqT K H q (b.map V.int)/\a.length=b.length/\Q (if llt b a=true then .ref q else .ref p) H
noncomputable def rMaxL(K:af):List V->Hp->VK->Prop:=fun xs H Q=>∃(p q:Addr)(a b:List Int),xs=[V.ref p,V.ref q]/\SqT K H p (a.map V.int)/\SqT K H q (b.map V.int)/\a.length=b.length/\Q (if llt a b=true then .ref q else .ref p) H
theorem Et{X:Cx}(hc:X.calm=true)(hu:X.A.units+1<cLine):fO X (.builtin "min") (rMinL X.K):=by
 intro pins s σ H xs us Q I r h;obtain⟨p,q,a,b,rfl,h1,h2,hl,hq⟩:=h;obtain⟨u,w',rfl,r1,r2⟩:=vals2 r;cases r1;cases r2;obtain⟨its,ra,pl,_⟩:=I.tuple h1;obtain⟨its',rb,pl',_⟩:=I.tuple h2;refine _root_.Q.Eu (I.ok.hd hc) hu pl pl' (intsAre_of ra) (intsAre_of rb) hl fun h' tk k=>⟨_,H,I.kept k,?_,hq⟩;split <;>rfl
theorem Ew{X:Cx}(hc:X.calm=true)(hu:X.A.units+1<cLine):fO X (.builtin "max") (rMaxL X.K):=by
 intro pins s σ H xs us Q I r h;obtain⟨p,q,a,b,rfl,h1,h2,hl,hq⟩:=h;obtain⟨u,w',rfl,r1,r2⟩:=vals2 r;cases r1;cases r2;obtain⟨its,ra,pl,_⟩:=I.tuple h1;obtain⟨its',rb,pl',_⟩:=I.tuple h2;refine _root_.Q.Ex (I.ok.hd hc) hu pl pl' (intsAre_of ra) (intsAre_of rb) hl fun h' tk k=>⟨_,H,I.kept k,?_,hq⟩;split <;>rfl
noncomputable def kW(k:List Int×List Int):List Int:=k.1++k.2
theorem Cz:∀{a c:List Int}(b d:List Int),a.length=c.length->llt (a++b) (c++d)=(llt a c||(decide (a=c)&&llt b d))
 | [],[],b,d,_=>by simp[llt]
 |x::a,y::c,b,d,h=>by
  have ih:=Cz (a:=a) (c:=c) b d (by simpa using h);simp only[uB,llt,ih];by_cases e1:x=y
  ·subst e1;simp
  ·simp[e1]
noncomputable def P2(h:Heap)(v:Value)(k:List Int×List Int):Prop:=∃a o its n x y rest us ws,v=.ref a/\h.get? a=some o/\o.cls=.type "tuple"/\o.data=.seq its n/\its.toList=.ref x::.ref y::rest/\IsTup h x (us:List Value).toArray/\IsTup h y (ws:List Value).toArray/\cf us k.1/\cf ws k.2
noncomputable def P2s(h:Heap)(vs:List Value)(ps:List (List Int×List Int)):Prop:=Paired (P2 h) vs ps
theorem p2_at{h:Heap}{vs:List Value}{ps:List (List Int×List Int)}(r:P2s h vs ps){i:Nat}(hi:i<vs.length):P2 h (vs.getD i .none) (ps.getD i ([],[])):=by
 unfold P2s at r
 induction r generalizing i with
 |nil=>exact absurd hi (gh _)
 |cons y t ih=>
  cases i with
  |zero=>exact y
  |succ i=>exact ih (by simpa using hi)
theorem p2_kat{h h1:Heap}(kp:∀b o,h.get? b=some o->h1.get? b=some o){vs:List Value}{ps:List (List Int×List Int)}(r:P2s h vs ps):∃fs,KatTups h1 vs fs/\fs.length=vs.length/\∀v∈fs,∃x o,v=aV x/\h1.get? x=some o/\o.cls=.type "tuple":=by
 unfold P2s at r
 induction r with
 |nil=>exact⟨[],.nil,rfl,fun v hv=>nomatch hv⟩
 | @cons v k vs ps y t ih=>
  obtain⟨fs,a1,a2,a3⟩:=ih;obtain⟨a,o,its,n,x,y,rest,us,ws,rfl,e2,e3,e4,e5,⟨ox,hx,cx,_⟩,_⟩:=y;refine⟨.ref x::fs,.cons (kp _ _ e2) e3 e4 (by rw[<-bA,e5];rfl) a1,by simp[a2],fun v hv=>?_⟩;rcases aB.mp hv with rfl|hv
  ·exact⟨x,ox,rfl,kp _ _ hx,cx⟩
  ·exact a3 v hv
section
variable {prog:Program}{w:World}{A:Around}{E:Value->Shared->Prop}{s:Shared}
theorem lj{us:List Value}{k:List Int}(r:cf us k):ItemsAre (aZ prog w) (k.map .inl) us:=by
 induction r with
 |nil=>exact .nil
 |cons n t r ih=>exact .cons (lX _ _ _ _) ih
theorem B3{h:Heap}{x:Addr}{us:List Value}{k:List Int}(t:IsTup h x us.toArray)(r:cf us k):cn (aZ prog w) h (k.map .inl) x:=by
 obtain⟨o,ho,hc,n,hd⟩:=t;exact⟨o,us.toArray,n,ho,hc,hd,lj r⟩
theorem inl_inj{a c:List Int}:decide (a.map (eX:Int->Key)=c.map eX)=decide (a=c):=by
 refine decide_eq_decide.mpr ⟨fun h=>?_,fun h=>by rw[h]⟩
 induction a generalizing c with
 |nil=>cases c with
  |nil=>rfl
  |cons=>cases h
 |cons x a ih=>cases c with
  |nil=>cases h
  |cons y c=>
   simp only[bp,rD,eX.injEq]at h;rw[h.1,ih h.2]
theorem CV{x y:Addr}{us ws:List Value}{a c:List Int}{Q:Bool->Shared->Prop}(hu:A.units<cLine)(hx:IsTup s.heap x us.toArray)(hy:IsTup s.heap y ws.toArray)(ha:cf us a)(hc:cf ws c)(h:Q (decide (a=c)) s):wpAny (model prog w) A (eqBool (.ref x) (.ref y)) Q E s:=by
 rw[<-inl_inj]at h;exact uX (knd:=aZ prog w) hu (B3 hx ha) (B3 hy hc) h
theorem Cu{x y:Addr}{us ws:List Value}{a c:List Int}{Q:Bool->Shared->Prop}(hu:A.units<cLine)(hx:IsTup s.heap x us.toArray)(hy:IsTup s.heap y ws.toArray)(ha:cf us a)(hc:cf ws c)(hl:a.length=c.length)(h:Q (llt a c) s):wpAny (model prog w) A (oneLt' false (.ref x) (.ref y)) Q E s:=
 kat_one _ _ (lB (op:=.Lt) hx.typeIs hy.typeIs oy (cB oy hx.typeIs F.entry_tuple_lt (Cv hx hy ha hc hl ⟨_,rfl,(fun e=>nomatch e),h⟩) (F.args_tuple_lt_2 _ _)) hu)
end
theorem zT{ps:List (List Int×List Int)}(i:Nat):(ps.map kW).getD i []=kW (ps.getD i ([],[])):=by
 rw[ag,ag,ak];cases ps[i]? <;>rfl
theorem asks_p2{prog:Program}{w:World}{A:Around}{ps:List (List Int×List Int)}{vs:List Value}{h0:Heap}{m:Nat}(hu:A.units<cLine)(nd:(ps.map kW).Nodup)(hl:vs.length=ps.length)(r:P2s h0 vs ps)(h2:2<=vs.length)(hm:∀k∈ps,k.1.length=m/\k.2.length=m):ED prog w A (ltL (ps.map kW)) vs h0:=by
 intro s1 kp;refine⟨tuples' false,fun Q' E' q=>?_,fun i j C hi hj hij q=>?_⟩
 ·obtain⟨fs,a1,a2,a3⟩:=p2_kat kp r
  refine kat_kind (T:=.type "tuple") a1 (by omega) (fun v hv=>?_) rfl q;obtain⟨x,o,rfl,e1,e2⟩:=a3 v hv;intro A Q E s k q;exact pH ⟨o,k _ _ e1,e2⟩ q
 ·obtain⟨a,o,its,n,x,y,rest,us,ws,e1,e2,e3,e4,e5,e6,e7,e8,e9⟩:=p2_at r hi
  obtain⟨a',o',its',n',x',y',rest',us',ws',f1,f2,f3,f4,f5,f6,f7,f8,f9⟩:=p2_at r hj;have hne:=neL nd (i:=i) (j:=j) (by rw[ai];omega) (by rw[ai];omega) hij;have l1:(ps.getD i ([],[])).1.length=m/\(ps.getD i ([],[])).2.length=m:=by rw[ag,ae (hl▸hi)];exact hm _ (bu _)
  have l2:(ps.getD j ([],[])).1.length=m/\(ps.getD j ([],[])).2.length=m:=by rw[ag,ae (hl▸hj)];exact hm _ (bu _)
  unfold kas_ask;unfold ltL at q;rw[zT,zT]at q hne;rw[e1,f1];generalize ps.getD i ([],[])=k at *;generalize ps.getD j ([],[])=k' at *;obtain⟨b,c⟩:=k;obtain⟨b',c'⟩:=k';unfold kW at q hne;rw[Cz _ _ (l1.1.trans l2.1.symm)]at q;refine kat_lt (kp _ _ e2) e4 (kp _ _ f2) f4 ?_;rw[e5,f5];refine kat_cons (CV hu (e6.keeps kp) (f6.keeps kp) e8 f8 ?_);by_cases e:b=b'
  ·subst e
   rw[show decide (b=b)=true by simp];have hc:c≠c':=fun z=>hne (by rw[z]);refine kat_yes (kat_cons (CV hu (e7.keeps kp) (f7.keeps kp) e9 f9 ?_));dsimp only;rw[show decide (c=c')=false by simpa using hc];refine kat_no (Cu hu (e7.keeps kp) (f7.keeps kp) e9 f9 (l1.2.trans l2.2.symm) ?_);simp[zA]at q;exact q
  ·rw[show decide (b=b')=false by simpa using e]
   refine kat_no (Cu hu (e6.keeps kp) (f6.keeps kp) e8 f8 (l1.1.trans l2.1.symm) ?_);simp[e]at q;exact q
noncomputable def jF(H:Hp)(ys:List V)(ps:List (List Int×List Int)):Prop:=Paired (fun v k=>∃a x y rest,v=V.ref a/\H a=some (.tup (.ref x::.ref y::rest))/\H x=some (.tup (k.1.map V.int))/\H y=some (.tup (k.2.map V.int))) ys ps
theorem wJ{H:Hp}{ys:List V}{ps:List (List Int×List Int)}(h:jF H ys ps):ps.length=ys.length:=by
 unfold jF at h
 induction h with
 |nil=>rfl
 |cons _ _ ih=>simp[ih]
theorem p2_of{P:Program}{w:World}{H:Hp}{h:Heap}(ok:HOk P w H h){ys:List V}{ps:List (List Int×List Int)}{vs:List Value}(k:jF H ys ps):bO ys vs->P2s h vs ps:=by
 unfold jF at k
 induction k generalizing vs with
 |nil=>intro z;cases z;exact .nil
 |cons y t ih=>
  intro z;cases z with
  |cons r q=>
   obtain⟨a,x,z,rest,rfl,e,ex,ez⟩:=y;cases r;obtain⟨_,its,rv,o,e1,e2,n,e3⟩:=ok a _ e;obtain⟨_,ux,rx,tx⟩:=ok x _ ex;obtain⟨_,uz,rz,tz⟩:=ok z _ ez;cases rv with
   |cons r1 rv=>cases rv with
    |cons r2 rv=>
     cases r1;cases r2;exact .cons ⟨a,o,_,n,x,z,_,ux,uz,rfl,e1,e2,e3,rfl,tx,tz,intsAre_of rx,intsAre_of rz⟩ (ih q)
noncomputable def FZ(K:af):List V->Hp->VK->Prop:=fun xs H Q=>∃(p:Addr)(ys:List V)(ps:List (List Int×List Int))(m:Nat),xs=[V.ref p]/\SqL K H p ys/\ps.length<64/\(ps.map kW).Nodup/\(∀k∈ps,k.1.length=m/\k.2.length=m)/\jF H ys ps/\∀l,H l=none->Q (.ref l) (upd H l (.lst (cF .non (ps.map kW) ys)))
theorem xY{X:Cx}(hu:X.A.units+2<cLine):fO X (.builtin "sorted") (FZ X.K):=by
 intro pins s σ H xs us Q I r h;obtain⟨p,ys,ps,m,rfl,hq,h64,nd,hm,hk,q⟩:=h;obtain⟨u,rfl,rx⟩:=vals1 r;cases rx;obtain⟨its,r',pl,hz⟩:=I.list hq;have hl0:ps.length=ys.length:=wJ hk;have hl:(ps.map kW).length=ys.length:=by rw[ai];exact hl0
 have hlen:=r'.length;have hv:its.length=(ps.map kW).length:=by omega
 refine pZ (lt:=ltL (ps.map kW)) (vs:=its) (by rw[hv];exact Dt nd) pl.isList (by omega) (fun h2=>asks_p2 hu nd (by omega) (p2_of I.hok hk r') h2 hm) ?_;obtain⟨c,hc⟩:=sortedAll_at s.heap its (fF (ltL (ps.map kW)) its).toArray;have hz2:(cF V.non (ps.map kW) ys).length<=sizeLine:=by
  unfold cF;rw[ai,(kP nd).length_eq,bq];omega
 exact⟨.ref (s.heap.objs.size+1),_,I.laid (t':=s.toks) (fun b o e=>IA e) (d8 _) (show dQ X.prog X.w _ _ _ (.lst (cF .non (ps.map kW) ys))from⟨hz2,_,c,qa nd hl r',hc⟩),rfl,q _ (I.hok.fresh (d8 _))⟩
end Q
namespace PySem
noncomputable abbrev eT1(h:Heap)(t:Addr):Heap:=h.push {cls:=.type "tuple_iterator",data:=.fields #[.ref t,.int 0 0]}
noncomputable abbrev eT2(h:Heap)(t:Addr):Heap:=(eT1 h t).push {cls:=.type "enumerate",data:=.fields #[.none,.bool false,.ref h.objs.size,rawInt 0,.none,.none]}
theorem zy(t:Addr)(xs:Array Value)(n:Nat)(dct:Option Addr)(sl:Array (Option Value)):
  Meets (Builtin.«enumerate.__new__» ⟨[.type "enumerate",.ref t],[]⟩) (fun _ R s=>s.heap.get? t=some {cls:=.type "tuple",dict:=dct,data:=.seq xs n,slots:=sl}/\R (.ok (.ret (.ref (eT1 s.heap t).objs.size))) {s with heap:=eT2 s.heap t}):=
 .of_wp fun prog w A R s h=>by
  obtain⟨hp,g,d,tk,os⟩:=s;obtain⟨h0,h⟩:=h;have hsub:=sub_enumerate;have e1:Heap.IsTuple (Shared.heap ⟨hp,g,d,tk,os⟩) t xs:=⟨_,h0,rfl,n,rfl⟩
  wp_walk using kN h0
  refine wpAny_stack_any fun st=>aj ?_;split
  ·rename_i cc _ _ _ _ _
   generalize(cc==kC "enumerate")=bb;cases bb<;>(wp_walk using kN h0,gy e1;exact⟨_,rfl,h⟩)
  ·wp_walk using kN h0,gy e1
   exact⟨_,rfl,h⟩
section
variable {prog:Program}{w:World}{A:Around}{E:Value->Shared->Prop}{s:Shared}
theorem BL{t:Addr}{xs:Array Value}{Q:Value->Shared->Prop}(ht:s.heap.IsTuple t xs)
  (q:∀h',IsEnum h' (s.heap.objs.size+1) s.heap.objs.size 0 .none->h'.IsTupleIter s.heap.objs.size t 0->(∀c o,s.heap.get? c=some o->h'.get? c=some o)->Q (.ref (s.heap.objs.size+1)) {s with heap:=h'}):
  wpAny (model prog w) A (call (.type "enumerate") [.ref t]) Q E s:=by
 obtain⟨⟨c,dct,dt,sl⟩,e1,e2,n,e3⟩:=ht;obtain rfl:c=kC "tuple":=e2;obtain rfl:dt=Data.seq xs n:=e3;have z1:(eT1 s.heap t).objs.size=s.heap.objs.size+1:=cg ..;have g2:(eT2 s.heap t).get? (eT1 s.heap t).objs.size=some _:=au _ rfl;have g1:(eT2 s.heap t).get? s.heap.objs.size=some _:=ah _ (au _ rfl);refine callType_new F.called_enumerate (by decide) (F.typeCall_enumerate_1 _) (F.newCall_enumerate_1 _) (fun obj=>F.args_object_init_2 obj _) F.entry_enumerate_new (zy t xs n dct sl) ⟨e1,?_⟩;show _/\_;rw[z1]at g2⊢;exact⟨⟨_,g2,rfl⟩,q _ g2 ⟨_,g1,rfl,rfl⟩ fun c o x=>ah _ (ah _ x)⟩
end
theorem drawsT{prog:Program}{w:World}{A:Around}(hh:A.handled=none)(j t:Addr)(hne:t≠j)(xs:Array Value):
  Draws prog w A j [j,t] xs.size (fun i v=>xs[i]? =some v) (fun i h=>h.IsTupleIter j t i/\h.IsTuple t xs) where
 live:=fun _ _ st=>by obtain⟨⟨o,ho,_⟩,_⟩:=st;exact⟨o,ho⟩
 frame:=fun _ _ _ st hk=>by
  obtain⟨⟨o,ho,r⟩,⟨o',ho',r'⟩⟩:=st;exact⟨⟨o,hk j (by simp) o ho,r⟩,⟨o',hk t (by simp) o' ho',r'⟩⟩
 item:=fun i s Q E hi st hQ=>GH st.1 st.2 (v:=xs[i]) (by simp[hi]) fun h' hj hs=>hQ _ h' s.toks (by simp[hi]) ⟨hj,st.2.extBut hs.extBut hne⟩ hs
 done:=fun s Q E st hE=>Ck hh st.1 st.2 (by simp) hE
end PySem
namespace L2
open PySem PySem.Spec PyProof.Rows
noncomputable def Itet(K:af)(a:Addr):It:=
 ⟨fun i H=>∃xs x,SqT K H a xs/\xs[i]? =some x,fun i H v H'=>∃p x,H p=none/\H'=upd H p (.tup [.int i,x])/\v=.ref p/\∀xs,SqT K H a xs->xs[i]? =some x,fun i H=>∃xs,SqT K H a xs/\xs.length<=i⟩
theorem AL{P:Program}{w:World}{K:af}{es:List Expr}{kk:Nat}{pp:Pos}(a it e:Addr)(hne:e≠it):Turn P w K (.Tuple es kk pp) (Itet K a) [e,it] e (fun i h=>(∃old,IsEnum h e it i old)/\h.IsTupleIter it a i) where
 mem:=by simp
 obj:=fun i h st b hb=>by
  obtain⟨⟨old,he⟩,o,e1,c,d⟩:=st;have hb':b=e\/b=it:=by simpa using hb
  rcases hb' with rfl|rfl
  ·exact⟨_,he,fun v z=>by cases z⟩
  ·exact⟨o,e1,fun v z=>by rw[d]at z;cases z⟩
 keep:=fun i h h' st k=>by
  obtain⟨⟨old,he⟩,o,ho,r⟩:=st;exact⟨⟨old,k e (by simp) _ he⟩,o,k it (by simp) o ho,r⟩
 item:=by
  intro X hP hw hK hc i pins s σ H E I hf st hg;subst hP hw hK;obtain⟨xs,x,hq,hx⟩:=hg;obtain⟨its,rv,pl,hz⟩:=I.tuple hq;have pl:s.heap.IsTuple a its.toArray:=pl;obtain⟨u,hu,ru⟩:=rv.get hx;obtain⟨⟨old,he⟩,hl⟩:=st;obtain⟨f0,f1,f2,f3,f4,f5⟩:=hf e (by simp);obtain⟨g0,g1,g2,g3,g4,g5⟩:=hf it (by simp);have hilt:i<its.toArray.size:=by
   have :=(aF.mp hu).1
   simpa using this
  have hit:it<s.heap.objs.size:=by obtain⟨o,q,_⟩:=hl;exact av q
  have haI:a≠it:=by
   obtain⟨o',q',qc',_⟩:=id hl;exact tup_ne pl q' (by rw[qc'];decide+kernel)
  have haE:e≠a:=cb (tup_ne pl he (by show kC "enumerate"≠kC "tuple";decide+kernel));have D:=drawsT (prog:=X.prog) (w:=X.w) (A:=X.A.in1) (I.ok.hd hc) it a haI its.toArray;refine wpAny_pyNext_enum_itemD D he ⟨hl,pl⟩ hilt hne (by simp[hne,haE]) fun y h' tk hy ho hst ht hsz kp=>?_;have eyu:y=u:=by
   have :its[i]? =some y:=by simpa using hy
   rw[hu]at this;exact(aT this).symm
  subst eyu;have hp:H s.heap.objs.size=none:=I.hok.fresh (ax _);have nE:∀b v,H b=some v->b≠e:=fun b v q z=>by rw[z,f0]at q;cases q
  have nI:∀b v,H b=some v->b≠it:=fun b v q z=>by rw[z,g0]at q;cases q
  have kp':∀c o,c∉[e,it]->s.heap.get? c=some o->h'.get? c=some o:=fun c o hc q=>kp c o (fun z=>hc (by simp[z])) (fun z=>hc (by simp[z])) q;have I1:Inv X pins σ (upd H s.heap.objs.size (.tup [.int i,x])) {s with heap:=h',toks:=tk+1}:=by
   refine I.step (g':=s.gens) (d':=s.drawn) (ch:=[e,it]) (fun b hb=>?_) (fun b o _ _ hc' q _=>kp' b o hc' q)
    (fun b o _ _ hc' q _=>⟨o.slots,kp' b o hc' q⟩) (fun b o _ q n=>by rw[bh (aJ (av q))];exact n)
    (fun b o hc' q=>⟨o,kp' b o hc' q⟩) (fun b ys q=>by rw[bh (ck q hp)];exact q) (fun b o v q=>by rw[bh (ck q hp)];exact q)
    (fun b ps q=>⟨#[],by rw[bh (ck q hp),q];simp⟩) (fun m hm=>?_) (fun b v q=>?_) I.bare
   ·have hb':b=e\/b=it:=by simpa using hb
    rcases hb' with rfl|rfl
    ·exact⟨f3,f1,f4,f5⟩
    ·exact⟨g3,g1,g4,g5⟩
   ·obtain⟨o,es',ep,q,r⟩:=hm
    exact⟨o,es',ep,kp _ o (cb f1) (cb g1) q,r⟩
   ·by_cases hb:b=s.heap.objs.size
    ·subst hb
     rw[aw]at q;cases q;exact⟨by show 2<=sizeLine;decide,[.int i tk,y],.cons ⟨tk,rfl⟩ (.cons ru .nil),⟨_,ht,rfl,_,rfl⟩⟩
    ·rw[bh hb]at q
     refine(I.hok b v q).mY (fun c o hc' q'=>kp c o ?_ ?_ q') (fun c q'=>by rw[bh (ck q' hp)];exact q') fun c ys q'=>by rw[bh (ck q' hp)];exact q'
     ·rcases hc' with z|z
      ·rw[z];exact nE b v q
      ·exact nE c _ z
     ·rcases hc' with z|z
      ·rw[z];exact nI b v q
      ·exact nI c _ z
  have fe:(upd H s.heap.objs.size (.tup [.int i,x])) e=none:=by rw[bh (aJ (av he))];exact f0
  refine⟨_,rfl,wpAny_letOwnedTupleGo_enum (s:={s with heap:=h',toks:=tk+1}) ho fun h'' he'' hs''=>?_⟩;have I2:Inv X pins σ (upd H s.heap.objs.size (.tup [.int i,x])) {s with heap:=h'',toks:=tk+1}:=I1.turned (t':=tk+1) (fun b o hb q=>hs''.extBut b o hb q) fe f1 f3 f4 f5;refine⟨.ref s.heap.objs.size,_,I2,rfl,⟨_,x,hp,rfl,rfl,fun ys hy'=>by rw[I.pS hy' hq];exact hx⟩,⟨⟨y,?_⟩,hst.1.extBut hs''.extBut (cb hne)⟩,fun b hb=>?_⟩
  ·have :((i:Int)+1)=((i+1:Nat):Int):=by push_cast;rfl
   rw[<-this];exact he''
  ·have hb':b=e\/b=it:=by simpa using hb
   rcases hb' with rfl|rfl
   ·exact fe
   ·rw[bh (aJ hit)];exact g0
 done:=by
  intro X hP hw hK hc i pins s σ H E I hf st hg;subst hP hw hK;obtain⟨xs,hq,hx⟩:=hg;obtain⟨its,rv,pl,hz⟩:=I.tuple hq;have pl:s.heap.IsTuple a its.toArray:=pl;obtain⟨⟨old,he⟩,hl⟩:=st;obtain⟨g0,g1,g2,g3,g4,g5⟩:=hf it (by simp);have hT:s.TypeIs (.ref e) "enumerate":=⟨_,he,rfl⟩;have hlen:=rv.length;unfold pyNext;refine aa (uw (dH (name:=cZ "__next__") hT F.slot_enumerate_next (cB F.slot_enumerate_next hT F.entry_enumerate_next ?_ (F.args_enumerate_next_1 _))));show wpAny _ _ (field (.ref e) 2>>=_) _ _ _;refine aa (eW he rfl (x:=.ref it) rfl ?_);refine aa (Ck (A:=X.A.in1) (I.ok.hd hc) hl pl (by simp;omega) fun h' z he' hx'=>?_);obtain⟨o,ho,hcl⟩:=hx';refine aa (jK (T:="StopIteration") (b:=true) ⟨o,ho,hcl⟩ isSubtype_stop ?_);exact aj ⟨rfl,I.turned (t':=s.toks) (fun b o hb q=>he' b o hb q) g0 g1 g3 g4 g5⟩
 self:=fun _ _ _ _ _ st h=>by
  obtain⟨⟨old,he⟩,_⟩:=st;exact wpAny_pyIter_enum he h
section
variable {X:Cx}{es:List Expr}{kk:Nat}{pp:Pos}
noncomputable def Hs(K:af)(t:TA):TI:=fun σ H R=>t σ H fun vs H1=>∃a,vs=[.ref a]/\(∃xs,SqT K H1 a xs)/\R (Itet K a) H1
theorem Gf{l:Expr}{t:TA}{p pos:Pos}(hg:Gl X "enumerate")(hm:X.mg "enumerate"=none)(ha:PA X [l] t)(hs:bP [l] X.env=[(false,eval l X.env)]:=by rfl):
  PI X (.Tuple es kk pp) (.Call (.Name "enumerate" p) [l] [] pos) (Hs X.K t):=by
 intro pins s σ H R I h;refine Call_ (iR I hg hm boot_enumerate (cu (thn (ha pos pins s σ H _ I h) fun us s1 ⟨vs,H1,I1,r1,q1⟩=>?_) hs rfl));obtain⟨a,rfl,⟨xs,hq⟩,q⟩:=q1;obtain⟨u,rfl,ru⟩:=r1.one;cases ru;obtain⟨its,rv,pl,hz⟩:=I1.tuple hq;have pl:s1.heap.IsTuple a its.toArray:=pl;refine BL pl fun h' he hl' kp=>?_;refine wpAny_pyIter_enum (s:={s1 with heap:=h'}) he ?_;have I2:Inv X pins σ H1 {s1 with heap:=h',toks:=s1.toks}:=I1.kept kp;refine⟨_,[s1.heap.objs.size+1,s1.heap.objs.size],_,_,H1,rfl,I2,AL a s1.heap.objs.size (s1.heap.objs.size+1) (Nat.succ_ne_self _),⟨⟨_,he⟩,hl'⟩,fun b hb=>?_,q⟩;have hbs:s1.heap.objs.size<=b:=by
  simp only[aB,dy,or_false]at hb;rcases hb with rfl|rfl
  ·exact d8 _
  ·exact ax _
 exact I1.xT hbs (I1.hok.fresh hbs)
end
end L2
namespace L2
open PySem PySem.Spec PySem.W PyProof.Rows
noncomputable def exO(e C:Addr)(d:Option Addr):HO:=.ext fun h=>∃x0,h.get? e=some {cls:=.ref C,dict:=d,data:=.fields #[.ref x0,.none,.none,.none,.bool false,.none]}
noncomputable def xdO(d:Addr)(fs:List (Str×V)):HO:=.ext fun h=>∃mA,h.Ns1 d mA/\(∀f,ui (fs.lookup f) (mA f))/\B0 mA (fs.map (·.1))
noncomputable def HF(K:af)(C f:Addr)(bmB:List Value)(newId:String):Bool:=match K.lookup C with
 |some ⟨.type "type",_,.cls cd,sl⟩=>(match cd.mro,sl.toList with
  |.ref C'::bm,[_,_,_,_,some (.builtin n),_]=>C'==C&&n==newId&& !cd.hasDel&&tailIn K bmB bm&&nsOkIn K cd.ns&&nsIn K cd.ns "__init__"==some (some (.ref f))
  |_,_=>false)
 |_=>false
structure MkX(K:af)(C f:Addr):Prop where
 ex:HF K C f bmV "ValueError.__new__"=true
 fn:∃o,K.lookup f=some o/\o.cls=.type "function"
 kp:keepIn K (.ref C)=true
end L2
namespace L2
open PySem PySem.Spec PySem.W PyProof.Rows PySem.Builtin PySem.Builtin.ObjectAttr
noncomputable def overX:List Value->Bool
 |.ref _::r=>overX r
 |l=>l==bmV
section
variable {prog:Program}{w:World}{K:af}{A:Around}{E:Value->Shared->Prop}{s:Shared}{e C:Addr}{name:Str}{v:Value}{vs:Array Value}{Q:Unit->Shared->Prop}
structure StX(K:af)(C:Addr)(name:Str):Prop where
 hs:findIn K (.ref C) "__setattr__"=some (some (.builtin "object.__setattr__"))
 hp:(clsIn K C).any (fun cd=>overX cd.mro)=true
 ht:takerIn K C name=some none
 hd:(clsIn K C).any (·.hasDict)=true
noncomputable abbrev exObj(C:Addr)(d:Option Addr)(vs:Array Value):Obj:={cls:=.ref C,dict:=d,data:=.fields vs}
end
end L2
namespace L2
open PySem PySem.Spec PySem.W PyProof.Rows
noncomputable def sFldX(K:af)(ta tv:TE)(f:Str):TS:=fun D σ H=>tv σ H fun y H1=>ta σ H1 fun x H2=>∃a C,x=.ref a/\StX K C f/\
 ((H2 a=some (exO a C none)/\∀dd,H2 dd=none->D.nx σ (upd (upd H2 dd (xdO dd [(f,y)])) a (exO a C (some dd))))\/
  ∃dd fs,H2 a=some (exO a C (some dd))/\H2 dd=some (xdO dd fs)/\fs.length<1000/\D.nx σ (upd H2 dd (xdO dd (putF f y fs))))
structure BsX(K:af)(B:Addr):Prop where
 ga:specialIn K (.ref B) "__getattribute__"=some (some (.builtin "type.__getattribute__"))
 rd:readsIn K B (.type "type")=true
 fd:findCls K (.ref B) (.type "type") "__init__"=some (.val (.builtin "ValueError.__init__"))
noncomputable def tBase(K:af)(B:Addr)(t:TA):TE:=fun σ H Q=>BsX K B/\t σ H fun vs H1=>∃a C f us,vs=.ref a::us/\H1 a=some (exO a C none)/\us.length<=sizeLine/\HF K C f bmV "ValueError.__new__"=true/\Q .non H1
noncomputable def del(H:Hp)(a:Addr):Hp:=fun b=>if b=a then none else H b
section
variable {X:Cx}{pins:List (Addr×Obj)}{σ:St}{H:Hp}{s:Shared}
structure NewX(X:Cx)(pins:List (Addr×Obj))(H:Hp)(s:Shared)(a C:Addr)(d:Option Addr):Prop where
 at_:∃x0,s.heap.get? a=some (exObj C d #[.ref x0,.none,.none,.none,.bool false,.none])
 new:X.s₀.heap.get? a=none
 un:H a=none
 pins:∀p∈X.pn++pins,p.1≠a
theorem DU{M:Model}{E:Value->Shared->Prop}{Q:Unit->Shared->Prop}{a C:Addr}{d:Option Addr}(I:Inv X pins σ H s)(stk:X.stack=X.env::X.outer)(hf:X.env.frame=some X.env.locals)(n:NewX X pins H s a C d)
  (h:∀s2,Inv X pins σ H s2->Fly X.s₀.heap s2.heap H (X.pn++pins) a (.ref C) d->Q () s2):
  wpAny M X.A (lK (.ref a) X.env) (fun _ s'=>wpAny M X.A (Af (.ref a) none) Q E s') E s:=by
 obtain⟨x0,ht⟩:=n.at_;unfold lK;simp only[hf];refine aa (eW (x:=.none) ht rfl (by rfl) ?_);rw[if_neg (show ¬(bL != bL)=true by simp)];exact enter I stk hf ht rfl (by simp) n.new n.un n.pins h
noncomputable def Iv(X:Cx)(E:XS):Prop:=∀(pins:List (Addr×Obj))(σ:St)(H:Hp)(s:Shared)(a C:Addr)(d:Option Addr),Inv X pins σ H s->NewX X pins H s a C d->E σ (.ref C) d H->X.xe (.ref a) s
theorem ue{P:Program}{w:World}{K:af}{mg:Str->Option Value}{base:Heap}{N:List Str}{qual:Str}{scope:Scope}{f:Addr}{cd:Value}{A:Around}{outer:List Env}{s:Shared}{H:Hp}{E:XK}:
  Iv (uR (CXx P w) P w K mg base N qual scope f cd A outer s H E) (fun _=>E):=by
 intro pins σ H1 s1 a C d I n q;show wpAny _ _ (leaving _ _) _ _ _;unfold leaving;refine aa (DU I rfl rfl n fun s2 I2 F2=>?_);obtain⟨⟨T,oe,vs,oT,ts,h1,h2,h3,h4,h5,h6,h7,h8,h9,h10,h11,_⟩,b1,b2,_⟩:=F2;exact⟨a,.ref C,d,H1,rfl,I2.os,I2.bare,I2.base,I2.hok,⟨⟨T,oe,vs,oT,ts,h1,h2,h3,h4,h5,h6,h7,h8,h9,h10,h11,fun _ z=>nomatch z⟩,b1,b2,fun _ z=>nomatch z⟩,q⟩
noncomputable def sRaisX(C:Addr)(sp:Sp)(dvs:List V)(E:XS)(t:TA):TS:=fun _ σ H=>t σ H fun vs H1=>vs.length<=sizeLine/\∀a,H1 a=none->
 sp (.ref a::(vs++dvs)) (upd H1 a (exO a C none)) (fun v H2=>v=.non/\∃d,H2 a=some (exO a C d)/\E σ (.ref C) d (del H2 a)) (E σ)
end
noncomputable def fldOk(K:af)(C:Addr)(f:Str):Bool:=
 excOk K C&&findIn K (.ref C) f==some none&&(match clsIn K C with |some cd=>cd.hasDict|none=>false)
noncomputable def rFld(K:af)(f:Str):V->Hp->VK->Prop:=fun x H Q=>∃a C dd fs v,x=.ref a/\H a=some (HE a (.ref C) (some dd))/\H dd=some (xdO dd fs)/\fldOk K C f=true/\fs.lookup f=some v/\Q v H
noncomputable def tRepl(ta tb:TE)(i:Nat)(c d:Str)(tr:TA):TA:=fun σ H Q=>ta σ H fun x H1=>tb σ H1 fun y H2=>∃u v z:Str,x=.str u/\y=.str v/\(1<=u.length/\1<=v.length/\u.length+v.length<=sizeLine/\z.length<=1000)/\σ[i]? =some (some (.str z))/\
 tr σ H2 fun xs H3=>Q (.str (u++v)::.str (Txt.replace z c d)::xs) H3
section
variable {X:Cx}{a b:Expr}{es:List Expr}{ta tb:TE}{tr:TA}{i:Nat}{x c d:Str}{p1 np apos cpos p2 p3:Pos}{j1 j2:Nat}
noncomputable def tMkf(K:af)(C:Addr)(sp:Sp)(dvs:List V)(E:XS)(fl:Str)(t:TA):TE:=fun σ H Q=>t σ H fun vs H1=>vs.length<=sizeLine/\∀a,H1 a=none->
 sp (.ref a::(vs++dvs)) (upd H1 a (exO a C none)) (fun v H2=>v=.non/\∃b dd fs w,V.ref a=.ref b/\H2 b=some (exO b C (some dd))/\H2 dd=some (xdO dd fs)/\fldOk K C fl=true/\fs.lookup fl=some w/\Q w H2) (E σ)
end
noncomputable def rSlW(K:af):V->Option Int->Option Int->Hp->VK->Prop:=fun x lo hi H Q=>∃a xs,x=.ref a/\SqT K H a xs/\HT.sIx xs.length 0 lo=0/\HT.sIx xs.length xs.length hi=xs.length/\Q (.ref a) H
noncomputable def tMakeS(C:Addr)(sp:Sp)(dvs:List V)(E:XS)(t:TA):TE:=fun σ H Q=>tMake C sp dvs (E σ) t σ H Q
noncomputable def tMethS(C:Addr)(m:Str)(sp:Sp)(dvs:List V)(E:XS)(ta:TE)(t:TA):TE:=fun σ H Q=>tMeth C m sp dvs (E σ) ta t σ H Q
end L2
namespace L2
open PySem PySem.Spec PyProof.Rows
section
variable {X:Cx}{pins:List (Addr×Obj)}{σ:St}{H N:Hp}{s:Shared}{h':Heap}
noncomputable def tLZip(K:af)(t:TA):TE:=fun σ H Q=>t σ H fun vs H1=>∃a b xs ys,vs=[.ref a,.ref b]/\SqL K H1 a xs/\SqL K H1 b ys/\xs.length<=1000/\∀H' p ws,aS H1 H'->H1 p=none->H' p=some (.lst ws)->ws.length=min xs.length ys.length->
 (∀(j:Nat)(x y:V),xs[j]? =some x->ys[j]? =some y->∃q,ws[j]? =some (.ref q)/\H1 q=none/\H' q=some (.tup [x,y]))->Q (.ref p) H'
end
end L2
namespace Q
open PySem
noncomputable def qm(xs:Array Nat):Prop:=xs.toList.Pairwise (·<·)
structure Parts(xs:Array Nat)(j p:Nat):Prop where
 le:p<=xs.size
 lo:∀i x,i<p->xs[i]? =some x->x<j
 hi:∀i x,p<=i->xs[i]? =some x->j<=x
theorem rG{xs:Array Nat}(h:qm xs){i k x y:Nat}(hik:i<k)(hx:xs[i]? =some x)(hy:xs[k]? =some y):x<y:=by
 have hx':xs.toList[i]? =some x:=by simpa using hx
 have hy':xs.toList[k]? =some y:=by simpa using hy
 obtain⟨h1,e1⟩:=aF.mp hx';obtain⟨h2,e2⟩:=aF.mp hy';have :=eY.mp h i k h1 h2 hik;rw[e1,e2]at this;exact this
theorem tF{xs:Array Nat}(h:qm xs)(j:Nat):∀(fuel lo hi:Nat),hi-lo<=fuel->lo<=hi->hi<=xs.size->(∀i x,i<lo->xs[i]? =some x->x<j)->(∀i x,hi<=i->xs[i]? =some x->j<=x)->Parts xs j (yv xs j fuel lo hi)
 | 0,lo,hi,hf,hl,hs,a,b=>by
  have e:lo=hi:=by omega
  subst e;exact⟨hs,a,b⟩
 |fuel+1,lo,hi,hf,hl,hs,a,b=>by
  unfold yv;by_cases c:lo<hi
  ·rw[if_pos c]
   have hm:(lo+hi)/2<xs.size:=by omega
   have em:xs[(lo+hi)/2]? =some xs[(lo+hi)/2]:=by simp[hm]
   have eg:xs.getD ((lo+hi)/2) j=xs[(lo+hi)/2]:=by simp[hm]
   simp only[eg];by_cases d:xs[(lo+hi)/2]<j
   ·rw[if_pos d]
    refine tF h j fuel _ hi (by omega) (by omega) hs (fun i x hi' e=>?_) b;by_cases k:i=(lo+hi)/2
    ·subst k
     rw[em]at e;cases e;exact d
    ·exact fY (rG h (by omega) e em) d
   ·rw[if_neg d]
    refine tF h j fuel lo _ (by omega) (by omega) (by omega) a fun i x hi' e=>?_;by_cases k:i=(lo+hi)/2
    ·subst k
     rw[em]at e;cases e;omega
    ·have :=rG h (by omega:(lo+hi)/2<i) em e
     omega
  ·rw[if_neg c]
   have e:lo=hi:=by omega
   subst e;exact⟨hs,a,b⟩
theorem i5{xs:Array Nat}(h:qm xs)(j:Nat):Parts xs j (cq xs j):=
 tF h j xs.size 0 xs.size (by omega) (a7 _) (ax _) (fun i x hi _=>absurd hi (gh _)) fun i x hi e=>by
  have :=(cI.mp e).1
  omega
theorem i3{α:Type}(xs:Array α)(p:Nat)(x:α):(bD xs p x).toList=xs.toList.take p++x::xs.toList.drop p:=by
 unfold bD;simp;exact eN (by simp)
theorem zc{xs:Array Nat}{j:Nat}(h:qm xs)(hj:∀i:Nat,xs[i]? ≠some j):qm (bD xs (cq xs j) j):=by
 have P:=i5 h j;unfold qm;rw[i3];have sub:=h;unfold qm at sub;rw[List.pairwise_append];refine⟨sub.sublist (rR _ _),List.pairwise_cons.mpr ⟨fun y hy=>?_,sub.sublist (List.drop_sublist _ _)⟩,fun x hx y hy=>?_⟩
 ·obtain⟨i,hi⟩:=bJ.mp hy
  rw[iM]at hi;have e:xs[cq xs j+i]? =some y:=by simpa using hi
  have :=P.hi _ _ (cQ _ _) e
  have ne:y≠j:=fun z=>hj _ (z▸e);omega
 ·obtain⟨i,hi⟩:=bJ.mp hx
  have hip:i<cq xs j:=by
   have :=(aF.mp hi).1
   rw[bR]at this;omega
  rw[fA hip]at hi;have e:xs[i]? =some x:=by simpa using hi
  have lx:=P.lo _ _ hip e;rcases aB.mp hy with rfl|hy
  ·exact lx
  ·obtain⟨k,hk⟩:=bJ.mp hy
   rw[iM]at hk;have e2:xs[cq xs j+k]? =some y:=by simpa using hk
   have :=P.hi _ _ (cQ _ _) e2
   omega
theorem BP{xs:Array Nat}(h:qm xs){i x:Nat}(e:xs[i]? =some x):cq xs (x+1)=i+1:=by
 have P:=i5 h (x+1);have hi:=(cI.mp e).1;apply yx
 ·apply hO
  intro c;have hs:i+1<xs.size:=bc c P.le;have e2:xs[i+1]? =some xs[i+1]:=by simp[hs]
  have a:=P.lo _ _ c e2;have b:=rG h (bT i) e e2;omega
 ·apply hO
  intro c;have :=P.hi i x (by omega) e;omega
theorem BO{xs:Array Nat}(h:qm xs):cq xs 0=0:=by
 have P:=i5 h 0;apply yx _ (a7 _);apply hO;intro c;have hs:0<xs.size:=bc c P.le;have :=P.lo 0 xs[0] c (by simp[hs]);omega
theorem qk{xs:Array Nat}(h:qm xs){i x:Nat}(e:xs[i]? =some x):cq xs x=i:=by
 have P:=i5 h x;apply yx
 ·apply hO
  intro c;exact dM _ (P.lo i x c e)
 ·apply hO
  intro c;have hs:cq xs x<xs.size:=fY c (cI.mp e).1;have e2:xs[cq xs x]? =some xs[cq xs x]:=by simp[hs]
  have a:=P.hi _ _ (ax _) e2;have b:=rG h c e2 e;omega
theorem A0(n:Nat):qm (Array.range n):=by
 unfold qm;rw[Array.toList_range];exact mU
structure hJ(t:aM):Prop where
 up:qm t.place
 no:t.dummies= #[]
theorem B6{t:aM}(T:hJ t)(j:Nat):t.slot j≠.dummy:=by
 unfold wy;simp only[T.no];split
 ·simp
 ·split
  ·rename_i h
   exact absurd h (by simp[yC])
  ·simp
theorem js{t:aM}(T:hJ t){j:Nat}(h:t.slot j=.empty):∀i:Nat,t.place[i]? ≠some j:=fun i e=>by
 have :=qk T.up e
 unfold wy at h;simp only[this,e,beq_self_eq_true,if_true]at h;cases h
theorem nO(t:aM)(p:uA):(t.advance p).dummy=p.dummy:=by
 unfold gF;split <;>rfl
theorem sF{t:aM}(T:hJ t){f:Nat->Int}{h:Int}{j:Nat}{d:Option Nat}:∀(fuel:Nat)(p:uA),p.dummy=none->cW t f h fuel p=some (.empty j d)->t.slot j=.empty/\d=none
 | 0,p,_,e=>by simp[cW]at e
 |fuel+1,p,hp,e=>by
  unfold cW at e;cases hs:t.slot p.j with
  |empty=>
   rw[hs]at e;simp only[jJ,aM.Met.empty.injEq]at e;exact⟨by rw[<-e.1];exact hs,by rw[<-e.2];exact hp⟩
  |dummy=>exact absurd hs (B6 T _)
  |live i=>
   rw[hs]at e;simp only at e;split at e
   ·cases e
   ·exact sF T fuel _ (by rw[nO];exact hp) e
theorem uP{t:aM}(T:hJ t){h:Int}{j:Nat}{b:Bool}(e:t.freeSlot h=some (j,b)):(∀i:Nat,t.place[i]? ≠some j)/\b=false:=by
 unfold aM.freeSlot at e;split at e
 ·rename_i j' d hm
  unfold aM.probe at hm;obtain⟨h1,h2⟩:=sF T _ _ (by rfl) hm;subst h2;simp only[rQ,EW,jJ,Prod.mk.injEq]at e;obtain⟨rfl,rfl⟩:=e;exact⟨js T h1,rfl⟩
 ·cases e
theorem jg(t:aM)(n:Nat):hJ (t.standIn n):=⟨A0 n,rfl⟩
theorem sD{t:aM}(T:hJ t){j:Nat}(hj:∀i:Nat,t.place[i]? ≠some j):hJ (t.put j).1:=by
 refine⟨zc T.up hj,?_⟩;show(if yC t.dummies j=true then _ else t.dummies)= #[];rw[T.no];simp[yC]
theorem sI{t:aM}(T:hJ t)(n:Nat):hJ (t.orStandIn n):=by
 unfold Di;split
 ·exact T
 ·exact jg t n
theorem zD{t:aM}(T:hJ t)(es:Array (Int×Value))(h:Int)(x:Value):hJ (layNew t es h x).2.1/\(layNew t es h x).2.2.1=false:=by
 unfold layNew;split
 ·rename_i j b e
  obtain⟨h1,h2⟩:=uP T e;subst h2;exact⟨sI (sD T h1) _,rfl⟩
 ·exact⟨jg t _,rfl⟩
theorem mI{mask finger moves:Nat}{led plain:Bool}{hashes:Array Int}{t:aM}{order:Array Nat}(h:aM.laid mask finger moves led plain hashes=some (t,order)):hJ t/\t.led=led/\t.plain=plain:=by
 unfold aM.laid at h;cases e:aM.layClean mask hashes with
 |none=>rw[e]at h;cases h
 |some owner=>
  rw[e]at h;have h':some (({mask,place:=(((aq (mask+1)).filterMap fun j=>(owner.getD j none).map (j,·)).map (·.1)).toArray,dummies:= #[],finger,led,moves,plain}:aM),(((aq (mask+1)).filterMap fun j=>(owner.getD j none).map (j,·)).map (·.2)).toArray)=some (t,order):=h;have h2:=(Prod.mk.inj (aT h')).1;subst h2;refine⟨⟨?_,rfl⟩,rfl,rfl⟩;show((((aq (mask+1)).filterMap fun j=>(owner.getD j none).map (j,·)).map (·.1)).toArray).toList.Pairwise (·<·);rw[pO,bQ,List.pairwise_filterMap];refine mU.imp fun{a b} hab x hx y hy=>?_;cases ha:owner.getD a none with
  |none=>rw[ha]at hx;cases hx
  |some u=>
   cases hb:owner.getD b none with
   |none=>rw[hb]at hy;cases hy
   |some v=>
    rw[ha]at hx;rw[hb]at hy;cases hx;cases hy;exact hab
theorem uL(t:aM)(es:Array (Int×Value))(wanted:Nat):hJ (og t es wanted).2.1:=by
 unfold og;split
 ·rename_i t' order e
  simp only;split
  ·unfold IE at e
   exact(mI e).1
  ·exact jg t _
 ·exact jg t _
theorem put_led(t:aM)(j:Nat):(t.put j).1.led=t.led:=rfl
theorem uO(t:aM)(n:Nat):(t.orStandIn n).led=t.led:=by
 unfold Di;split <;>rfl
theorem Bq(t:aM)(es:Array (Int×Value))(h:Int)(x:Value):(layNew t es h x).2.1.led=t.led:=by
 unfold layNew;split
 ·exact(uO _ _).trans (put_led _ _)
 ·rfl
theorem xu(t:aM)(es:Array (Int×Value))(wanted:Nat):(og t es wanted).2.1.led=t.led:=by
 unfold og;split
 ·rename_i t' order e
  simp only;split
  ·unfold IE at e
   exact(mI e).2.1
  ·rfl
 ·rfl
section
variable {prog:Program}{w:World}{K:Type}[DecidableEq K]{knd:KeyKind prog w K}{A:Around}{E:Value->Shared->Prop}{s:Shared}
noncomputable def pF(knd:KeyKind prog w K)(h:Heap)(a:Addr)(S:K->Bool)(n:Nat)(led:Bool):Prop:=
 ∃o es ep t,h.get? a=some o/\o.ExactSet/\o.data=.set es ep t/\ElemsOf knd es.toList/\(∀k,S k=true↔∃e∈es.toList,knd.is k e.2=true)/\es.size<fX/\t.fits es.size=true/\es.size=n/\hJ t/\t.led=led
theorem pF.of{h:Heap}{a:Addr}{S:K->Bool}{n:Nat}{led:Bool}(x:pF knd h a S n led):h.SetOf knd a S n:=by
 obtain⟨o,es,ep,t,e1,e2,e3,e4,e5,e6,e7,e8,_⟩:=x;exact⟨o,es,ep,t,e1,e2,e3,e4,e5,e6,e7,e8⟩
theorem sy{h:Heap}{a:Addr}{o:Obj}{es:Array (Int×Value)}{ep:Nat}{t:aM}(ho:h.get? a=some o)(hx:o.ExactSet)(hd:o.data=.set es ep t){es':Array (Int×Value)}{t':aM}{S':K->Bool}(hl:ElemsOf knd es'.toList)(hm:∀k,S' k=true↔∃e∈es'.toList,knd.is k e.2=true)(hb:es'.size<fX)(hf:t'.fits es'.size=true)(ht:hJ t'):
  pF knd (h.update a (gP es' t')) a S' es'.size t'.led:=by
 have g:=(SetOf_store (knd:=knd) ho hx hd hl hm hb hf).1;exact⟨_,es',ep+1,t',g,hx,rfl,hl,hm,hb,hf,rfl,ht,rfl⟩
theorem Ad{g:Bool->Sem Unit}(hg:∀(b:Bool)(s₁:Shared)(Q':Unit->Shared->Prop),Q' () s₁->wpAny (model prog w) A (g b) Q' E s₁){a:Addr}{o:Obj}{es:Array (Int×Value)}{ep:Nat}{t:aM}(ho:s.heap.get? a=some o)(hx:o.ExactSet)(hd:o.data=.set es ep t)
  {es1:Array (Int×Value)}{t2:aM}{S':K->Bool}(hl:ElemsOf knd es1.toList)(hm:∀k',S' k'=true↔∃e∈es1.toList,knd.is k' e.2=true)(hb:es1.size<fX)(hf:t2.fits es1.size=true)(ht:hJ t2){wasDummy:Bool}{R:Option Bool->Shared->Prop}
  (h:∀h',cO a s.heap h'->pF knd h' a S' es1.size t2.led->R (some true) {s with heap:=h'}):
  wpAny (model prog w) A (do
    storeSet a es1 t2
    if(!wasDummy&&t2.tooFull)=true then do
      g (og t2 es1 (eM es1.size)).2.2
      storeSet a (og t2 es1 (eM es1.size)).1 (og t2 es1 (eM es1.size)).2.1
      pure (some true)
     else pure (some true)) R E s:=by
 refine aa (mO ho hd ?_ (mS hb));have ho1:=(SetOf_store (knd:=knd) ho hx hd hl hm hb hf).1;have x1:=sy (knd:=knd) ho hx hd hl hm hb hf ht;have sb:=bC s.heap a (gP es1 t2);split
 ·have hp:=relayAll_perm t2 es1 (eM es1.size)
  have hr:=relayAll_fits t2 es1 (eM es1.size);have hT:=uL t2 es1 (eM es1.size);have hL:=xu t2 es1 (eM es1.size);generalize og t2 es1 (eM es1.size)=Rl at hp hr hT hL⊢;obtain⟨es2,t3,gave⟩:=Rl;dsimp only at hp hr hT hL⊢;have hz:es2.size=es1.size:=by rw[<-aO,hp.length_eq,aO]
  refine aa (hg _ _ _ (aa (mO ho1 rfl ?_ (mS (by rw[hz];exact hb)))));have x2:=sy (knd:=knd) ho1 hx rfl (hl.perm hp) (fun k'=>(hm k').trans ⟨fun⟨e,he,q⟩=>⟨e,hp.mem_iff.mpr he,q⟩,fun⟨e,he,q⟩=>⟨e,hp.mem_iff.mp he,q⟩⟩) (by rw[hz];exact hb) hr hT;rw[hz,hL]at x2;exact aj (h _ (sb.trans (bC _ a _)) x2)
 ·exact aj (h _ sb x1)
theorem A5{t:aM}(T:hJ t):hJ {t with plain:=false}:=⟨T.up,T.no⟩
theorem addX{a:Addr}{S:K->Bool}{n:Nat}{led:Bool}{k:K}{x:Value}{Q:Bool->Shared->Prop}(hk:knd.is k x=true)(hsc:x.scannable=true)(hS:pF knd s.heap a S n led)(hroom:n+1<fX)
  (h:∀h',cO a s.heap h'->pF knd h' a (fun k'=>S k'||decide (k'=k)) (if S k then n else n+1) led->Q (!S k) {s with heap:=h'}):
  wpAny (model prog w) A (yn a x (knd.hash k)) Q E s:=by
 obtain⟨o,es,ep,t,ho,hx,hd,hl,hm,hb,hf,hn,ht,he⟩:=hS;have hb1:es.size+1<fX:=by rw[hn];exact hroom
 unfold yn setAddHashedIn;refine bf (aa (bX ho hd hf ?_));dsimp only;rw[byScan_of hsc hb hl];simp only[↓reduceIte];unfold setAddByScan;refine aa ?_;refine aa (gw (aa (wpAny_setScan_of hk ho hd hf hl ?_)));cases hr:List.findIdx? (fun e=>knd.is k e.2) es.toList with
 |some j=>
  dsimp only;obtain⟨hj,hp,_⟩:=List.findIdx?_eq_some_iff_getElem.mp hr;have hSk:S k=true:=(hm k).mpr ⟨es.toList[j],bu hj,hp⟩;refine aj (aj ?_);have :=h s.heap (Am a s.heap) ⟨o,es,ep,t,ho,hx,hd,hl,fun k'=>by
   rw[dj,decide_eq_true_eq,<-hm k'];exact⟨fun q=>q.elim id (fun e=>e▸hSk),.inl⟩,hb,hf,by rw[hSk];exact hn,ht,he⟩
  rw[hSk]at this;exact this
 |none=>
  dsimp only;have hSk:S k=false:=by
   cases q:S k with
   |false=>rfl
   |true=>
    obtain⟨e,m1,m2⟩:=(hm k).mp q;have :=List.findIdx?_eq_none_iff.mp hr e m1;rw[m2]at this;cases this
  have hw:∀(b:Bool){s₁:Shared}{Q':Unit->Shared->Prop},Q' () s₁->wpAny (model prog w) A (match b with |true=>rule "set.scan.the-table-gave-way" |false=>pure ()) Q' E s₁:=fun b s₁ Q' q=>by cases b<;>first |exact aj q|exact gw q
  have hp:=layNew_perm t es (knd.hash k) x;have hfit:=layNew_fits t es (knd.hash k) x;have hT:=(zD ht es (knd.hash k) x).1;have hL:=Bq t es (knd.hash k) x;generalize layNew t es (knd.hash k) x=L at hp hfit hT hL⊢;obtain⟨es1,t1,wd,gave⟩:=L;dsimp only at hp hfit hT hL⊢;rw[Array.toList_push]at hp;have l1:ElemsOf knd es1.toList:=(hl.push hk hsc).perm hp;have m1:∀k',(S k'||decide (k'=k))=true↔∃e∈es1.toList,knd.is k' e.2=true:=mem_push_iff hk hm hp;have z1:es1.size=n+1:=by rw[<-aO,hp.length_eq,cC,aO,hn];rfl
  have b1:es1.size<fX:=by rw[z1];exact hroom
  refine aa (hw _ ?_);have fin:∀h',cO a s.heap h'->pF knd h' a (fun k'=>S k'||decide (k'=k)) es1.size led->Q true {s with heap:=h'}:=fun h' sb x=>by
   have :=h h' sb
   rw[hSk]at this;rw[z1]at x;exact this x
  split
  ·refine aa ?_
   rw[hashByValue_scannable 8 hsc];refine aj (Ad ?_ ho hx hd l1 m1 b1 ?_ ?_ ?_)
   ·intro b s₁ Q' q;cases b<;>first |exact aj q|exact gw q
   ·split
    ·exact hfit
    ·exact aM.fits_plain_off hfit
   ·split
    ·exact hT
    ·exact A5 hT
   ·intro h' sb x
    refine aj (fin h' sb ?_);split at x
    ·rw[hL,he]at x;exact x
    ·have e2:({t1 with plain:=false}:aM).led=led:=hL.trans he
     rw[e2]at x;exact x
  ·refine aa (aj ?_)
   simp only[↓reduceIte];refine Ad ?_ ho hx hd l1 m1 b1 hfit hT ?_
   ·intro b s₁ Q' q;cases b<;>first |exact aj q|exact gw q
   ·intro h' sb x
    rw[hL,he]at x;exact aj (fin h' sb x)
end
end Q
namespace TB
open PySem PySem.SetTable Q
noncomputable def sq(t:aM)(h:Int):Nat->Probe
 | 0=>t.probeStart h
 |k+1=>t.advance (sq t h k)
theorem yY(t:aM)(h:Int):∀k,(sq t h k).dummy=none
 | 0=>rfl
 |k+1=>(nO t _).trans (yY t h k)
theorem Io{t t':aM}(e:t.mask=t'.mask)(p:Probe):t.advance p=t'.advance p:=by unfold gF;rw[e]
theorem jU{t t':aM}(e:t.mask=t'.mask)(h:Int):∀k,sq t h k=sq t' h k
 | 0=>by show t.probeStart h=t'.probeStart h;unfold aM.probeStart;rw[e]
 |k+1=>by show t.advance _=t'.advance _;rw[jU e h k,Io e]
noncomputable def lp(mask:Nat)(h:Int):Nat->Nat×Nat
 | 0=>(bits h%(mask+1),bits h)
 |k+1=>leap mask (lp mask h k).1 (lp mask h k).2
noncomputable def head(mask:Nat)(x:Nat×Nat):Probe:={j:=x.1,more:=runEnd mask x.1-x.1,i:=x.1,perturb:=x.2,dummy:=none}
noncomputable def iter(t:aM):Nat->Probe->Probe
 | 0,p=>p
 |k+1,p=>iter t k (t.advance p)
theorem tj(t:aM):∀(m:Nat)(p:Probe),p.more=m->p.dummy=none->iter t (m+1) p=head t.mask (leap t.mask p.i p.perturb)
 | 0,p,hm,hd=>by
  show t.advance p=_;unfold gF;rw[hm];simp only[dM,gt_iff_lt,if_false];obtain⟨j,more,i,pe,d⟩:=p;cases hd;rfl
 |m+1,p,hm,hd=>by
  show iter t (m+1) (t.advance p)=_;have e:t.advance p={p with j:=p.j+1,more:=m}:=by
   unfold gF;rw[hm,if_pos (by omega)];rfl
  rw[e];exact tj t m {p with j:=p.j+1,more:=m} rfl hd
theorem wO(t:aM)(h:Int)(k:Nat):∀m,sq t h (k+m)=iter t m (sq t h k):=by
 intro m
 induction m generalizing k with
 |zero=>rfl
 |succ m ih=>rw[show k+(m+1)=(k+1)+m from by omega,ih (k+1)];rfl
theorem run_le(mask i:Nat):runEnd mask i-i<=9:=by unfold runEnd;split <;>omega
theorem heads(t:aM)(h:Int):∀L,∃k,k<=10*L/\sq t h k=head t.mask (lp t.mask h L)
 | 0=>⟨0,ax _,rfl⟩
 |L+1=>by
  obtain⟨k,hk,e⟩:=heads t h L;have hr:=run_le t.mask (lp t.mask h L).1;refine⟨k+((runEnd t.mask (lp t.mask h L).1-(lp t.mask h L).1)+1),by omega,?_⟩;rw[wO,e];exact tj t _ _ rfl rfl
theorem Cw(mask:Nat)(h:Int):∀L,(lp mask h L).2=bits h/32^L
 | 0=>by simp[lp]
 |L+1=>by
  show(lp mask h L).2/32=_;rw[Cw mask h L,Nat.div_div_eq_div_mul,Nat.pow_succ]
theorem bits_lt(h:Int):bits h<2^64:=by
 unfold bits;have h1:=bG h (show(2^64:Int)≠0 by decide);have h2:=bV h (show(0:Int)<2^64 by decide);omega
theorem pert0(mask:Nat)(h:Int){L:Nat}(hL:13<=L):(lp mask h L).2=0:=by
 rw[Cw];apply Nat.div_eq_of_lt;have :=bits_lt h;have h2:32^13<=32^L:=Nat.pow_le_pow_right (by decide) hL;have h3:(2:Nat)^64<=32^13:=by decide
 omega
noncomputable def orb(mask:Nat):Nat->Nat->Nat
 | 0,i=>i
 |r+1,i=>(orb mask r i*5+1)%(mask+1)
theorem Bk(mask:Nat)(h:Int):∀r,(lp mask h (13+r)).1=orb mask r (lp mask h 13).1
 | 0=>rfl
 |r+1=>by
  show((lp mask h (13+r)).1*5+1+(lp mask h (13+r)).2/32)%(mask+1)=_;rw[Bk mask h r,pert0 mask h (by omega)];rfl
theorem orb7:∀i<8,∀j<8,∃r,r<=7/\orb 7 r i=j:=by decide+kernel
theorem orb31:((aq 32).all fun i=>(aq 32).all fun j=>(aq 32).any fun r=>orb 31 r i==j)=true:=by decide+kernel
theorem lp_lt(mask:Nat)(h:Int):∀L,(lp mask h L).1<mask+1
 | 0=>k6 _ (by omega)
 |_+1=>k6 _ (by omega)
theorem cover{t:aM}(hm:t.mask=7\/t.mask=31)(h:Int){j:Nat}(hj:j<=t.mask):∃k,k<=10*(13+t.mask)/\(sq t h k).j=j:=by
 have hl:=lp_lt t.mask h 13;obtain⟨r,hr,e⟩:∃r,r<=t.mask/\orb t.mask r (lp t.mask h 13).1=j:=by
  rcases hm with hm|hm
  ·rw[hm]at hl hj⊢
   exact orb7 _ hl _ (by omega)
  ·rw[hm]at hl hj⊢
   have :=bE.mp (bE.mp orb31 _ (aK.mpr hl)) j (aK.mpr (by omega))
   obtain⟨r,hr,e⟩:=cw.mp this;have :=aK.mp hr;exact⟨r,by omega,eq_of_beq e⟩
 obtain⟨k,hk,es⟩:=heads t h (13+r);refine⟨k,by omega,?_⟩;rw[es];show(lp t.mask h (13+r)).1=j;rw[Bk,e]
theorem jD{t:aM}(T:hJ t)(j:Nat):(t.slot j=.empty/\∀i:Nat,t.place[i]? ≠some j)\/∃i,t.slot j=.live i/\t.place[i]? =some j:=by
 cases e:t.slot j with
 |empty=>exact .inl ⟨rfl,js T e⟩
 |dummy=>exact absurd e (B6 T j)
 |live i=>
  refine .inr ⟨i,rfl,?_⟩;unfold wy at e;simp only at e;split at e
  ·rename_i h
   cases e;exact eq_of_beq h
  ·split at e<;>cases e
theorem Dz{t:aM}(T:hJ t){i j:Nat}(h:t.place[i]? =some j):t.slot j=.live i:=by
 rcases jD T j with⟨_,n⟩ |⟨i',e,h'⟩
 ·exact absurd h (n i)
 ·rw[e]
  have a:=qk T.1 h;have b:=qk T.1 h';rw[<-a,<-b]
theorem sL{α:Type}[DecidableEq α]:∀{xs ys:List α},xs.Nodup->(∀x∈xs,x∈ys)->xs.length<=ys.length
 | [],_,_,_=>a7 _
 |x::xs,ys,nd,h=>by
  have hx:=h x aI;have :=sL (xs:=xs) (ys:=ys.erase x) (bU.mp nd).2 fun y hy=>by
   have hne:y≠x:=fun z=>(bU.mp nd).1 (by rw[<-z];exact hy);exact(ou hne).mpr (h y (aH _ hy))
  rw[Ay hx]at this;have :=Dl hx;rw[bS];omega
theorem Ej{t:aM}(T:hJ t)(h:t.place.size<=t.mask):∃j,j<=t.mask/\t.slot j=.empty:=by
 apply aR
 intro hn;have :(aq (t.mask+1)).length<=t.place.toList.length:=sL gU fun j hj=>by
  rcases jD T j with⟨e,_⟩ |⟨i,_,e⟩
  ·exact absurd ⟨j,by have :=aK.mp hj;omega,e⟩ hn
  ·exact aG (by rw[bA];exact e)
 rw[bq,aO]at this;omega
theorem BA{t:aM}(T:hJ t)(hm:t.mask=7\/t.mask=31)(hs:t.place.size<=t.mask)(h:Int):∃N,N<=10*(13+t.mask)/\t.slot (sq t h N).j=.empty/\∀k,k<N->t.slot (sq t h k).j≠.empty:=by
 obtain⟨j,hj,e⟩:=Ej T hs;obtain⟨k,hk,ek⟩:=cover hm h hj;rw[<-ek]at e;clear ek hj
 induction k using yw with
 |_ k ih=>
  by_cases hc:∃k',k'<k/\t.slot (sq t h k').j=.empty
  ·obtain⟨k',h1,h2⟩:=hc
   exact ih k' h1 h2 (by omega)
  ·exact⟨k,hk,e,fun k' h1 h2=>hc ⟨k',h1,h2⟩⟩
theorem zK{t:aM}(T:hJ t){f:Nat->Int}{h:Int}{N:Nat}(hN:t.slot (sq t h N).j=.empty)(hb:∀k,k<N->t.slot (sq t h k).j≠.empty):∀(fuel k:Nat),k<=N->N-k<fuel->
  ∃k1,k<=k1/\k1<=N/\(∀k',k<=k'->k'<k1->∃i,t.slot (sq t h k').j=.live i/\f i≠h)/\((k1=N/\cW t f h fuel (sq t h k)=some (.empty (sq t h N).j none))\/∃i,t.slot (sq t h k1).j=.live i/\f i=h/\k1<N/\cW t f h fuel (sq t h k)=some (.candidate (sq t h k1).j i (sq t h (k1+1))))
 | 0,k,_,hf=>by omega
 |fuel+1,k,hk,hf=>by
  rcases jD T (sq t h k).j with⟨e,_⟩ |⟨i,e,_⟩
  ·have :k=N:=by
    apply aR
    intro z;exact hb k (by omega) e
   subst this;refine⟨k,ax _,ax _,fun k' a b=>by omega,.inl ⟨rfl,?_⟩⟩;unfold cW;rw[e];show some (Met.empty (sq t h k).j (sq t h k).dummy)=_;rw[yY]
  ·have hkN:k<N:=by
    rcases Nat.lt_or_eq_of_le hk with z|z
    ·exact z
    ·rw[z,hN]at e;cases e
   by_cases hfi:f i=h
   ·refine⟨k,ax _,hk,fun k' a b=>by omega,.inr ⟨i,e,hfi,hkN,?_⟩⟩
    unfold cW;rw[e];show(if(f i==h)=true then _ else _)=_;rw[if_pos (beq_iff_eq.mpr hfi)];rfl
   ·obtain⟨k1,a1,a2,a3,a4⟩:=zK T hN hb fuel (k+1) (by omega) (by omega)
    have step:cW t f h (fuel+1) (sq t h k)=cW t f h fuel (sq t h (k+1)):=by
     conv =>lhs;unfold cW
     rw[e];show(if(f i==h)=true then _ else _)=_;rw[if_neg (fun z=>hfi (beq_iff_eq.mp z))];rfl
    refine⟨k1,by omega,a2,fun k' b1 b2=>?_,?_⟩
    ·by_cases z:k'=k
     ·rw[z];exact⟨i,e,hfi⟩
     ·exact a3 k' (by omega) b2
    ·rw[step];exact a4
structure Tb(t:aM)(hs:Array Int):Prop where
 ti:hJ t
 sz:t.place.size=hs.size
 mm:t.mask=7\/t.mask=31
 fl:t.place.size<=t.mask
 rc:∀(i:Nat) h,hs[i]? =some h->∃k,t.place[i]? =some (sq t h k).j/\∀k',k'<k->t.slot (sq t h k').j≠.empty
theorem ll{α:Type}(xs:Array α){p:Nat}(hp:p<=xs.size)(x:α)(i:Nat):(insertAt xs p x)[i]? =if i<p then xs[i]? else if i=p then some x else xs[i-1]? :=by
 rw[<-bA,i3,List.getElem?_append];have hl:(xs.toList.take p).length=p:=by rw[bR,aO];omega
 rw[hl];by_cases c1:i<p
 ·rw[if_pos c1,if_pos c1,fA c1,bA]
 ·rw[if_neg c1,if_neg c1]
  by_cases c2:i=p
  ·rw[if_pos c2,c2,uu];rfl
  ·rw[if_neg c2,show i-p=(i-p-1)+1 from by omega,B1,iM,bA,show p+(i-p-1)=i-1 from by omega]
theorem mz{t:aM}(T:hJ t)(j:Nat):(t.put j).1.place=insertAt t.place (below t.place j) j/\(t.put j).1.mask=t.mask:=⟨rfl,rfl⟩
theorem Ik{t:aM}(T:hJ t)(j:Nat):below t.place j<=t.place.size:=(i5 T.1 j).1
theorem Tb.put{t:aM}{hs:Array Int}(b:Tb t hs){h:Int}{N:Nat}(hN:t.slot (sq t h N).j=.empty)(hb:∀k,k<N->t.slot (sq t h k).j≠.empty)(hf:t.place.size+1<=t.mask):
  Tb (t.put (sq t h N).j).1 (insertAt hs (below t.place (sq t h N).j) h):=by
 have nj:=js b.ti hN;have T':=sD b.ti nj;have hp:=Ik b.ti (sq t h N).j;have e:(t.put (sq t h N).j).1.mask=t.mask:=rfl;have sz1:(t.put (sq t h N).j).1.place.size=t.place.size+1:=by
  show(insertAt t.place _ _).size=_;rw[<-aO,i3];simp;omega
 have full:∀j',t.slot j'≠.empty\/j'=(sq t h N).j->(t.put (sq t h N).j).1.slot j'≠.empty:=fun j' hc z=>by
  have fr:=js T' z;rcases hc with hc|rfl
  ·rcases jD b.ti j' with⟨w,_⟩ |⟨i,_,w⟩
   ·exact hc w
   ·by_cases hi:i<below t.place (sq t h N).j
    ·exact fr i (by rw[(mz b.ti _).1,ll _ hp,if_pos hi];exact w)
    ·exact fr (i+1) (by rw[(mz b.ti _).1,ll _ hp,if_neg (by omega),if_neg (by omega)];exact w)
  ·exact fr _ (by rw[(mz b.ti _).1,ll _ hp,if_neg (dM _),if_pos rfl])
 have hsp:below t.place (sq t h N).j<=hs.size:=by rw[<-b.sz];exact hp
 refine⟨T',?_,b.mm,by rw[sz1];exact hf,fun i h' hi=>?_⟩
 ·rw[sz1,b.sz,<-aO,<-aO,i3]
  simp;omega
 ·rw[ll _ hsp]at hi
  rw[(mz b.ti _).1,ll _ hp];by_cases c1:i<below t.place (sq t h N).j
  ·rw[if_pos c1]at hi⊢
   obtain⟨k,e1,e2⟩:=b.rc i h' hi;refine⟨k,by rw[jU e];exact e1,fun k' hk=>?_⟩;rw[jU e];exact full _ (.inl (e2 k' hk))
  ·rw[if_neg c1]at hi⊢
   by_cases c2:i=below t.place (sq t h N).j
   ·rw[if_pos c2]at hi⊢
    cases hi;refine⟨N,by rw[jU e],fun k' hk=>?_⟩;rw[jU e];exact full _ (.inl (hb k' hk))
   ·rw[if_neg c2]at hi⊢
    obtain⟨k,e1,e2⟩:=b.rc _ h' hi;refine⟨k,by rw[jU e];exact e1,fun k' hk=>?_⟩;rw[jU e];exact full _ (.inl (e2 k' hk))
theorem CC(t:aM):∀(m:Nat)(p:Probe),m<=p.more->iter t m p={p with j:=p.j+m,more:=p.more-m}
 | 0,p,_=>rfl
 |m+1,p,h=>by
  show iter t m (t.advance p)=_;have e:t.advance p={p with j:=p.j+1,more:=p.more-1}:=by
   unfold gF;rw[if_pos (by omega)]
  rw[e,CC t m _ (by show m<=p.more-1;omega)];show({p with j:=p.j+1+m,more:=p.more-1-m}:Probe)=_;congr 1<;>omega
noncomputable def tk(owner:Array (Option Nat))(j:Nat):Prop:=(owner.getD j (some 0)).isSome=true
theorem not_tk{owner:Array (Option Nat)}{j:Nat}(h:¬tk owner j):owner[j]? =some none:=by
 unfold tk at h;rw[bZ]at h;cases e:owner[j]? with
 |none=>rw[e]at h;exact absurd rfl h
 |some x=>
  cases x with
  |none=>rfl
  |some y=>rw[e]at h;exact absurd rfl h
theorem vK{t:aM}{owner:Array (Option Nat)}{h:Int}{Ls:Nat}(hfree:¬tk owner (lp t.mask h Ls).1):∀(d fuel L kL:Nat),L+d=Ls->d<fuel->sq t h kL=head t.mask (lp t.mask h L)->(∀k',k'<kL->tk owner (sq t h k').j)->
  ∃k,layClean.free t.mask owner fuel (lp t.mask h L).1 (lp t.mask h L).2=some (sq t h k).j/\¬tk owner (sq t h k).j/\∀k',k'<k->tk owner (sq t h k').j
 |d,0,_,_,_,hf,_,_=>by omega
 |d,fuel+1,L,kL,hd,hf,hk,hb=>by
  have pos:∀m,m<=runEnd t.mask (lp t.mask h L).1-(lp t.mask h L).1->(sq t h (kL+m)).j=(lp t.mask h L).1+m:=fun m hm=>by
   rw[wO,hk,CC t m _ hm];rfl
  unfold layClean.free;cases e:(aq (runEnd t.mask (lp t.mask h L).1+1-(lp t.mask h L).1)).find? fun k=>(owner.getD ((lp t.mask h L).1+k) (some 0)).isNone with
  |some m=>
   have hm:=aK.mp (Aj e);have hre:(lp t.mask h L).1<=runEnd t.mask (lp t.mask h L).1:=by unfold runEnd;split <;>omega
   have p1:=pos m (by omega);refine⟨kL+m,by rw[p1],?_,fun k' hk'=>?_⟩
   ·rw[p1]
    unfold tk;have :=List.find?_some e;cases z:owner.getD ((lp t.mask h L).1+m) (some 0)with
    |none=>simp
    |some y=>rw[z]at this;cases this
   ·by_cases c:k'<kL
    ·exact hb k' c
    ·obtain⟨q,rfl⟩:∃q,k'=kL+q:=⟨k'-kL,by omega⟩
     rw[pos q (by omega)];unfold tk;cases z:(owner.getD ((lp t.mask h L).1+q) (some 0)).isSome with
     |true=>rfl
     |false=>
      exfalso
      have hs:=List.find?_eq_some_iff_append.mp e;obtain⟨_,as,bs,eq,hno⟩:=hs;have hqm:q∈as:=by
       have hr:(aq (runEnd t.mask (lp t.mask h L).1+1-(lp t.mask h L).1))[q]? =some q:=a6 (by omega);have hr2:(aq (runEnd t.mask (lp t.mask h L).1+1-(lp t.mask h L).1))[m]? =some m:=a6 hm;rw[eq]at hr hr2;have hal:as.length=m:=by
        have h3:(as++m::bs)[as.length]? =some m:=by rw[cX (ax _),uu];rfl
        rw[<-eq]at h3;have h4:as.length<(aq (runEnd t.mask (lp t.mask h L).1+1-(lp t.mask h L).1)).length:=by rw[eq];simp
        rw[bq]at h4;rw[a6 h4]at h3;cases h3;rfl
       rw[eZ (by omega)]at hr;exact aG hr
      have :=hno q hqm
      cases z2:owner.getD ((lp t.mask h L).1+q) (some 0)with
      |none=>rw[z2]at this;cases this
      |some y=>rw[z2]at z;cases z
  |none=>
   have all:∀m,m<=runEnd t.mask (lp t.mask h L).1-(lp t.mask h L).1->tk owner ((lp t.mask h L).1+m):=fun m hm=>by
    have hre:(lp t.mask h L).1<=runEnd t.mask (lp t.mask h L).1:=by unfold runEnd;split <;>omega
    have :=kJ.mp e m (aK.mpr (by omega))
    unfold tk;cases z:owner.getD ((lp t.mask h L).1+m) (some 0)with
    |none=>rw[z]at this;exact absurd rfl this
    |some y=>rfl
   cases d with
   |zero=>
    exfalso
    have :=all 0 (a7 _)
    rw[Nat.add_zero]at this hd;rw[hd]at this;exact hfree this
   |succ d=>
    refine vK hfree d fuel (L+1) (kL+((runEnd t.mask (lp t.mask h L).1-(lp t.mask h L).1)+1)) (by omega) (by omega) ?_ fun k' hk'=>?_
    ·rw[wO,hk]
     exact tj t _ _ rfl rfl
    ·by_cases c:k'<kL
     ·exact hb k' c
     ·obtain⟨q,rfl⟩:∃q,k'=kL+q:=⟨k'-kL,by omega⟩
      rw[pos q (by omega)];exact all q (by omega)
structure Ow(t:aM)(hs:List Int)(owner:Array (Option Nat))(m:Nat):Prop where
 sz:owner.size=t.mask+1
 lt:∀(j i:Nat),owner[j]? =some (some i)->i<m
 one:∀(j j' i:Nat),owner[j]? =some (some i)->owner[j']? =some (some i)->j=j'
 rc:∀(i:Nat) h,i<m->hs[i]? =some h->∃k,owner[(sq t h k).j]? =some (some i)/\∀k',k'<k->tk owner (sq t h k').j
theorem sq_le(t:aM)(h:Int)(k:Nat):(sq t h k).j+(sq t h k).more<=t.mask:=by
 induction k with
 |zero=>
  show bits h%(t.mask+1)+(runEnd t.mask (bits h%(t.mask+1))-bits h%(t.mask+1))<=t.mask;have :=k6 (bits h) (show t.mask+1>0 by omega);unfold runEnd;split <;>omega
 |succ k ih=>
  show(t.advance (sq t h k)).j+(t.advance (sq t h k)).more<=t.mask;unfold gF;split
  ·show(sq t h k).j+1+((sq t h k).more-1)<=t.mask
   omega
  ·show(leap t.mask (sq t h k).i (sq t h k).perturb).1+(runEnd t.mask (leap t.mask (sq t h k).i (sq t h k).perturb).1-(leap t.mask (sq t h k).i (sq t h k).perturb).1)<=t.mask
   have :(leap t.mask (sq t h k).i (sq t h k).perturb).1<t.mask+1:=k6 _ (by omega);unfold runEnd;split <;>omega
theorem Hx{t:aM}(hm:t.mask=7\/t.mask=31){hs:List Int}{owner:Array (Option Nat)}{m:Nat}(o:Ow t hs owner m)(hlt:m<=t.mask)(h:Int):
  ∃k,layClean.free t.mask owner (turns t.mask) (bits h%(t.mask+1)) (bits h)=some (sq t h k).j/\¬tk owner (sq t h k).j/\∀k',k'<k->tk owner (sq t h k').j:=by
 obtain⟨j,hj,hf⟩:∃j,j<=t.mask/\¬tk owner j:=by
  apply aR
  intro hn;have all:∀j,j<=t.mask->∃i,owner[j]? =some (some i):=fun j hj=>by
   have :tk owner j:=by
    apply aR
    intro z;exact hn ⟨j,hj,z⟩
   have hsz:j<owner.size:=by rw[o.sz];omega
   unfold tk at this;rw[bZ,bH hsz]at this;rw[bH hsz];cases e:owner[j]with
   |none=>rw[e]at this;cases this
   |some i=>exact⟨i,rfl⟩
  have g:∀j:Nat,∃i,j<=t.mask->owner[j]? =some (some i):=fun j=>by
   by_cases hj:j<=t.mask
   ·obtain⟨i,h⟩:=all j hj
    exact⟨i,fun _=>h⟩
   ·exact⟨0,fun z=>absurd z hj⟩
  obtain⟨f,hf⟩:=Classical.axiomOfChoice g;have nd:((aq (t.mask+1)).map f).Nodup:=by
   refine bQ.mpr ?_;refine(eG.mp (show(aq (t.mask+1)).Pairwise (fun a b=>a≠b)from gU)).imp ?_;rintro a b ⟨ha,hb,hab⟩ e;have ha:=hf a (by have :=aK.mp ha;omega);have hb:=hf b (by have :=aK.mp hb;omega);rw[<-e]at hb;exact hab (o.one a b _ ha hb)
  have :=sL nd (ys:=aq m) fun x hx=>by
   obtain⟨j,hj,rfl⟩:=ao.mp hx;exact aK.mpr (o.lt j _ (hf j (by have :=aK.mp hj;omega)))
  rw[ai,bq,bq]at this;omega
 obtain⟨r,hr,e⟩:∃r,r<=t.mask/\orb t.mask r (lp t.mask h 13).1=j:=by
  have hl:=lp_lt t.mask h 13;rcases hm with hm|hm
  ·rw[hm]at hl hj⊢
   exact orb7 _ hl _ (by omega)
  ·rw[hm]at hl hj⊢
   have :=bE.mp (bE.mp orb31 _ (aK.mpr hl)) j (aK.mpr (by omega))
   obtain⟨r,hr,e⟩:=cw.mp this;have :=aK.mp hr;exact⟨r,by omega,eq_of_beq e⟩
 have hfree:¬tk owner (lp t.mask h (13+r)).1:=by rw[Bk,e];exact hf
 exact vK hfree (13+r) (turns t.mask) 0 0 (by omega) (by unfold turns;omega) rfl fun k' hk=>by omega
theorem Fh{owner:Array (Option Nat)}{j m x:Nat}(h:tk owner x):tk (owner.setIfInBounds j (some m)) x:=by
 unfold tk at h⊢;rw[bZ]at h⊢;rw[fZ];split
 ·split <;>rfl
 ·exact h
theorem Ow.step{t:aM}{hs:List Int}{owner:Array (Option Nat)}{m:Nat}(o:Ow t hs owner m){h:Int}(hm:hs[m]? =some h){k:Nat}(hf:¬tk owner (sq t h k).j)(hb:∀k',k'<k->tk owner (sq t h k').j):Ow t hs (owner.setIfInBounds (sq t h k).j (some m)) (m+1):=by
 have hj:(sq t h k).j<owner.size:=by rw[o.sz];have :=sq_le t h k;omega
 have hn:=not_tk hf;have at':∀(x i:Nat),(owner.setIfInBounds (sq t h k).j (some m))[x]? =some (some i)->(x=(sq t h k).j/\i=m)\/owner[x]? =some (some i):=fun x i e=>by
  rw[fZ]at e;split at e
  ·rename_i hx
   cases e;exact .inl ⟨hx.symm,rfl⟩
  ·exact .inr e
 have old:∀(x i:Nat),owner[x]? =some (some i)->(owner.setIfInBounds (sq t h k).j (some m))[x]? =some (some i):=fun x i e=>by
  rw[fZ,if_neg (fun z=>by rw[<-z,hn]at e;cases e)];exact e
 refine⟨by rw[Array.size_setIfInBounds];exact o.sz,fun x i e=>?_,fun x x' i e e'=>?_,fun i h' hi hh=>?_⟩
 ·rcases at' x i e with⟨_,rfl⟩ |e
  ·exact bT _
  ·exact a9 (o.lt x i e)
 ·rcases at' x i e with⟨a,b⟩ |e
  ·rcases at' x' i e' with⟨a',_⟩ |e'
   ·rw[a,a']
   ·have :=o.lt _ _ e';omega
  ·rcases at' x' i e' with⟨_,b'⟩ |e'
   ·have :=o.lt _ _ e;omega
   ·exact o.one x x' i e e'
 ·by_cases c:i=m
  ·subst c
   rw[hm]at hh;cases hh;refine⟨k,?_,fun k' hk'=>Fh (hb k' hk')⟩;rw[fZ,if_pos rfl,if_pos hj]
  ·obtain⟨q,e1,e2⟩:=o.rc i h' (by omega) hh
   exact⟨q,old _ _ e1,fun k' hk'=>Fh (e2 k' hk')⟩
theorem zR{t:aM}(hmk:t.mask=7\/t.mask=31){hs:List Int}(hl:hs.length<=t.mask):∀(l pre:List Int)(owner:Array (Option Nat)),pre++l=hs->Ow t hs owner pre.length->
  ∃owner',l.foldl (fun acc h=>(do let(owner,k)<-acc;let j<-layClean.free t.mask owner (turns t.mask) (bits h%(t.mask+1)) (bits h);pure (owner.setIfInBounds j (some k),k+1):Option (Array (Option Nat)×Nat))) (some (owner,pre.length))=some (owner',hs.length)/\Ow t hs owner' hs.length
 | [],pre,owner,e,o=>by
  rw[m8]at e;subst e;exact⟨owner,rfl,o⟩
 |h::l,pre,owner,e,o=>by
  have hm:hs[pre.length]? =some h:=by rw[<-e,cX (ax _),uu];rfl
  have hlt:pre.length<hs.length:=by rw[<-e];simp
  obtain⟨k,e1,e2,e3⟩:=Hx hmk o (by omega) h;have o':=o.step hm e2 e3;obtain⟨owner',e4,o4⟩:=zR hmk hl l (pre++[h]) (owner.setIfInBounds (sq t h k).j (some pre.length)) (by rw[iY];exact e) (by rw[cC];exact o');refine⟨owner',?_,o4⟩;rw[eF];have :(do let(owner,k)<-(some (owner,pre.length):Option (Array (Option Nat)×Nat));let j<-layClean.free t.mask owner (turns t.mask) (bits h%(t.mask+1)) (bits h);pure (owner.setIfInBounds j (some k),k+1):Option (Array (Option Nat)×Nat))=some (owner.setIfInBounds (sq t h k).j (some pre.length),(pre++[h]).length):=by
   show(do let j<-layClean.free t.mask owner (turns t.mask) (bits h%(t.mask+1)) (bits h);pure (owner.setIfInBounds j (some pre.length),pre.length+1):Option (Array (Option Nat)×Nat))=_;rw[e1,cC];rfl
  rw[this];exact e4
theorem HZ{t:aM}(hmk:t.mask=7\/t.mask=31){hs:Array Int}(hl:hs.size<=t.mask):∃owner,layClean t.mask hs=some owner/\Ow t hs.toList owner hs.size:=by
 have o0:Ow t hs.toList (mW (t.mask+1) none) 0:=by
  have no:∀(j i:Nat),(mW (t.mask+1) (none:Option Nat))[j]? ≠some (some i):=fun j i e=>by
   rw[Array.getElem?_replicate]at e;split at e<;>cases e
  exact⟨by simp,fun j i e=>absurd e (no j i),fun j j' i e=>absurd e (no j i),fun i h hi=>by omega⟩
 obtain⟨owner,e,o⟩:=zR hmk (hs:=hs.toList) (by rw[aO];exact hl) hs.toList [] _ rfl o0;refine⟨owner,?_,by rw[aO]at o;exact o⟩;unfold layClean;rw[<-Array.foldl_toList];rw[show((some (mW (t.mask+1) none,0)):Option (Array (Option Nat)×Nat))=some (mW (t.mask+1) none,([]:List Int).length)from rfl]
 erw [e]
 rfl
noncomputable def liv(mask:Nat)(owner:Array (Option Nat)):List (Nat×Nat):=(aq (mask+1)).filterMap fun j=>(owner.getD j none).map (j,·)
theorem mH{mask:Nat}{owner:Array (Option Nat)}(hsz:owner.size=mask+1){j i:Nat}:(j,i)∈liv mask owner↔owner[j]? =some (some i):=by
 unfold liv;rw[qS];constructor
 ·rintro⟨x,hx,e⟩
  have hx:=aK.mp hx;rw[bZ,bH (by omega)]at e;cases c:owner[x]with
  |none=>rw[c]at e;cases e
  |some y=>
   rw[c]at e;cases e;rw[bH (by omega),c]
 ·intro e
  have hj:j<owner.size:=(cI.mp e).1;refine⟨j,aK.mpr (by omega),?_⟩;rw[bZ,e];rfl
theorem laid_ok{mask:Nat}(hmk:mask=7\/mask=31){finger moves:Nat}{led plain:Bool}{hs:Array Int}(hl:hs.size<=mask):
  ∃t' order,laid mask finger moves led plain hs=some (t',order)/\t'.mask=mask/\Tb t' (order.map fun i=>hs.getD i 0)/\order.toList.Perm (aq hs.size):=by
 obtain⟨owner,e,o⟩:=HZ (t:={mask,place:= #[],dummies:= #[],finger,led,moves,plain}) hmk hl;have e:layClean mask hs=some owner:=e;have osz:owner.size=mask+1:=o.sz;have el:laid mask finger moves led plain hs=some ({mask,place:=((liv mask owner).map (·.1)).toArray,dummies:= #[],finger,led,moves,plain},((liv mask owner).map (·.2)).toArray):=by
  unfold laid;rw[e];rfl
 have T:=(mI el).1;have pw:((liv mask owner).map (·.1)).Pairwise (·<·):=T.1;have pw2:=bQ.mp pw;have ndo:((liv mask owner).map (·.2)).Nodup:=by
  refine bQ.mpr ?_;refine(eG.mp pw2).imp ?_;rintro⟨j,i⟩ ⟨j',i'⟩ ⟨ha,hb,hlt⟩ (hi:i=i');subst hi;have :=o.one j j' i ((mH osz).mp ha) ((mH osz).mp hb);exact absurd this (aJ hlt)
 have pm:((liv mask owner).map (·.2)).Perm (aq hs.size):=by
  refine(List.perm_ext_iff_of_nodup ndo gU).mpr fun i=>?_;rw[ao,aK];constructor
  ·rintro⟨⟨j,i⟩,h,rfl⟩
   exact o.lt j i ((mH osz).mp h)
  ·intro hi
   obtain⟨k,e1,_⟩:=o.rc i hs[i] hi (by rw[bA,bH hi]);exact⟨(_,i),(mH osz).mpr e1,rfl⟩
 have sm:∀h k,sq {mask,place:=((liv mask owner).map (·.1)).toArray,dummies:= #[],finger,led,moves,plain} h k=sq {mask,place:= #[],dummies:= #[],finger,led,moves,plain} h k:=fun h k=>jU (t:={mask,place:=((liv mask owner).map (·.1)).toArray,dummies:= #[],finger,led,moves,plain}) (t':={mask,place:= #[],dummies:= #[],finger,led,moves,plain}) rfl h k;refine⟨_,_,el,rfl,⟨T,?_,hmk,?_,fun q h hq=>?_⟩,pm⟩
 ·simp
 ·have :=pm.length_eq
  rw[ai,bq]at this;show(((liv mask owner).map (·.1)).toArray).size<=mask;simp[this];exact hl
 ·rw[qw,nQ,ak]at hq
  cases c:(liv mask owner)[q]? with
  |none=>rw[c]at hq;cases hq
  |some x=>
   obtain⟨j,i⟩:=x;rw[c]at hq;have ho:=(mH osz).mp (aG c);have hi:=o.lt j i ho;have eh:hs.getD i 0=h:=by cases hq;rfl
   obtain⟨k,e1,e2⟩:=o.rc i h hi (by rw[bA,bH hi,<-eh,bZ,bH hi];rfl);have ej:=o.one _ _ _ ho e1;refine⟨k,?_,fun k' hk' z=>?_⟩
   ·show(((liv mask owner).map (·.1)).toArray)[q]? =_
    rw[nQ,ak,c,sm];show some j=_;rw[ej]
   ·have t1:=e2 k' hk'
    have hjl:(sq {mask,place:= #[],dummies:= #[],finger,led,moves,plain} h k').j<owner.size:=by
     rw[osz];have :=sq_le {mask,place:= #[],dummies:= #[],finger,led,moves,plain} h k';have :(sq {mask,place:= #[],dummies:= #[],finger,led,moves,plain} h k').j+(sq {mask,place:= #[],dummies:= #[],finger,led,moves,plain} h k').more<=mask:=this;omega
    unfold tk at t1;rw[bZ,bH hjl]at t1;cases c2:owner[(sq {mask,place:= #[],dummies:= #[],finger,led,moves,plain} h k').j]with
    |none=>rw[c2]at t1;cases t1
    |some y=>
     have hm:=(mH osz).mpr (show owner[(sq {mask,place:= #[],dummies:= #[],finger,led,moves,plain} h k').j]? =some (some y) by rw[bH hjl,c2]);obtain⟨r,hr⟩:=bJ.mp hm;refine js T z r ?_;show(((liv mask owner).map (·.1)).toArray)[r]? =_;rw[nQ,ak,hr,sm];rfl
end TB
namespace TB
open PySem PySem.Spec PySem.W PyProof.Rows L2 Q
noncomputable abbrev ky(q:List Int):List Key:=q.map eX
section
variable {prog:Program}{w:World}{A:Around}{E:Value->Shared->Prop}{s:Shared}
noncomputable def hq(prog:Program)(w:World)(q:List Int):Int:=tupleKeyHash (aZ prog w) (ky q)
theorem lj{q:List Int}{vs:List Value}(h:ItemsAre (aZ prog w) (ky q) vs):∀v∈vs,∃i t,v=eO i t:=by
 induction q generalizing vs with
 |nil=>cases h;intro v hv;cases hv
 |cons k q ih=>
  cases h with
  |cons a h=>
   intro v hv;rcases aB.mp hv with rfl|hv
   ·rw[sW]at a
    obtain⟨t,e⟩:=rC (k:=k) a;exact⟨k,t,e⟩
   ·exact ih h v hv
theorem byVal{q:List Int}{a:Addr}{Q:Bool->Shared->Prop}(hk:cn (aZ prog w) s.heap (ky q) a)(h:Q true s):wpAny (model prog w) A (hashByValue 8 (.ref a)) Q E s:=by
 have hT:=hk.typeIs;obtain⟨o,items,n,ho,_,hd,hi⟩:=hk;have hv:=lj hi;unfold hashByValue;refine aa (BY hT F.slot_tuple_hash.lookup ?_);show wpAny _ _ (iG (.ref a)>>=_) _ _ s;refine aa (du ho hd ?_);show wpAny _ _ (forIn items _ _>>=_) _ _ s;rw[<-kG];refine aa ?_;refine jL _ (fun rest r s'=>r.1=none/\s'=s/\∀v∈rest,∃i t,v=eO i t) _ ?_ ?_ _ _ ⟨rfl,rfl,hv⟩
 ·rintro v rest r s' ⟨hr,rfl,hall⟩
  obtain⟨i,t,rfl⟩:=hall v aI;exact aa (aj (aj ⟨rfl,rfl,fun u hu=>hall u (aH _ hu)⟩))
 ·rintro⟨r1,r2⟩ s' ⟨hr,rfl,_⟩
  simp only at hr;subst hr;exact aj h
theorem GB{q:List Int}{a:Addr}{Q:Bool->Shared->Prop}(hk:cn (aZ prog w) s.heap (ky q) a)(h:Q false s):wpAny (model prog w) A (ofAClassStatement 8 (.ref a)) Q E s:=by
 have hT:=hk.typeIs;obtain⟨o,items,n,ho,_,hd,hi⟩:=hk;have hv:=lj hi;unfold ofAClassStatement;refine aa (pH hT ?_);show wpAny _ _ (pure true>>=_) _ _ s;refine aa (aj ?_);show wpAny _ _ (iG (.ref a)>>=_) _ _ s;refine aa (du ho hd ?_);show wpAny _ _ (forIn items _ _>>=_) _ _ s;rw[<-kG];refine aa ?_;refine jL _ (fun rest r s'=>r.1=none/\s'=s/\∀v∈rest,∃i t,v=eO i t) _ ?_ ?_ _ _ ⟨rfl,rfl,hv⟩
 ·rintro v rest r s' ⟨hr,rfl,hall⟩
  obtain⟨i,t,rfl⟩:=hall v aI;exact aa (aj (aj ⟨rfl,rfl,fun u hu=>hall u (aH _ hu)⟩))
 ·rintro⟨r1,r2⟩ s' ⟨hr,rfl,_⟩
  simp only at hr;subst hr;exact aj h
theorem unseen{q:List Int}{a:Addr}{Q:Bool->Shared->Prop}(hk:cn (aZ prog w) s.heap (ky q) a)(l:List Value)(hl:∀v∈l,∃r b,v=.ref b/\cn (aZ prog w) s.heap (ky r) b)(h:Q false s):
  wpAny (model prog w) A (searchCouldBeSeen (.ref a) l) Q E s:=by
 unfold searchCouldBeSeen;refine aa ?_;refine jL _ (fun rest r s'=>r.1=none/\s'=s/\∀v∈rest,∃r b,v=.ref b/\cn (aZ prog w) s.heap (ky r) b) _ ?_ ?_ _ _ ⟨rfl,rfl,hl⟩
 ·rintro v rest r s' ⟨hr,rfl,hall⟩
  obtain⟨k,b,rfl,kb⟩:=hall v aI;have tl:∀u∈rest,∃r b,u=.ref b/\cn (aZ prog w) s'.heap (ky r) b:=fun u hu=>hall u (aH _ hu);dsimp only;split
  ·exact aj ⟨rfl,rfl,tl⟩
  ·refine aa (wpAny_eqIsQuiet_tuple hk ?_)
   simp only[dJ,aE,if_false];refine aa (wpAny_eqIsQuiet_tuple kb ?_);simp only[dJ,aE,if_false];refine aa (GB hk ?_);simp only[aE,if_false];refine aa (GB kb ?_);simp only[aE,if_false];exact aj ⟨rfl,rfl,tl⟩
 ·rintro⟨r1,r2⟩ s' ⟨hr,rfl,_⟩
  simp only at hr;subst hr;exact aj h
structure mr(prog:Program)(w:World)(T:Addr->Prop)(h:Heap)(S:Addr)(kb:List (List Int×Addr))(o:Obj)(es:Array (Int×Value))(ep:Nat)(t:aM):Prop where
 ho:h.get? S=some o
 ex:o.ExactSet
 hd:o.data=.set es ep t
 tb:Tb t (es.map (·.1))
 pl:t.plain=true
 dm:t.dummies= #[]
 es_:es.toList=kb.map fun x=>(hq prog w x.1,aV x.2)
 nd:(kb.map (·.1)).Nodup
 tu:∀x∈kb,cn (aZ prog w) h (ky x.1) x.2/\T x.2
 lo:t.mask=7->kb.length<=4
theorem mr.fits{T:Addr->Prop}{h:Heap}{S:Addr}{kb:List (List Int×Addr)}{o:Obj}{es:Array (Int×Value)}{ep:Nat}{t:aM}(x:mr prog w T h S kb o es ep t):t.fits es.size=true:=by
 have a:=x.tb.sz;have b:=x.tb.fl;rw[eR]at a;unfold oj wz;rw[x.dm,a];simp;omega
theorem mr.at{T:Addr->Prop}{h:Heap}{S:Addr}{kb:List (List Int×Addr)}{o:Obj}{es:Array (Int×Value)}{ep:Nat}{t:aM}(x:mr prog w T h S kb o es ep t){i:Nat}{e:Int×Value}(he:es[i]? =some e):∃y,kb[i]? =some y/\e=(hq prog w y.1,.ref y.2):=by
 rw[<-bA,x.es_,ak]at he;cases c:kb[i]? with
 |none=>rw[c]at he;cases he
 |some y=>rw[c]at he;cases he;exact⟨y,rfl,rfl⟩
theorem G6{p q:List Int}(h:ky p=ky q):p=q:=by
 induction p generalizing q with
 |nil=>cases q with
  |nil=>rfl
  |cons=>cases h
 |cons a p ih=>cases q with
  |nil=>cases h
  |cons b q=>
   injection h with h1 h2;injection h1 with h1;rw[h1,ih h2]
noncomputable def sh(es:Array (Int×Value))(i:Nat):Int:=(es[i]?.map fun e:Int×Value=>e.1).getD 0
theorem search{T:Addr->Prop}{S a:Addr}{kb:List (List Int×Addr)}{o:Obj}{es:Array (Int×Value)}{ep:Nat}{t:aM}{q:List Int}{Q:SetFound->Shared->Prop}(hu:A.units<cLine)(x:mr prog w T s.heap S kb o es ep t)(hk:cn (aZ prog w) s.heap (ky q) a){N:Nat}(hN:t.slot (sq t (hq prog w q) N).j=.empty)(hb:∀k,k<N->t.slot (sq t (hq prog w q) k).j≠.empty)(hNb:N<=10*(13+t.mask))
  (h1:q∈kb.map (·.1)->Q (.there none) s)(h2:q∉kb.map (·.1)->Q (.free (sq t (hq prog w q) N).j false) s):
  ∀(m k fuel:Nat)(st:Option uA),N-k=m->k<=N->m<fuel->st.getD (t.probeStart (hq prog w q))=sq t (hq prog w q) k->(∀k',k'<k->∀i y,t.slot (sq t (hq prog w q) k').j=.live i->kb[i]? =some y->y.1≠q)->
   wpAny (model prog w) A (setSearchFrom S (.ref a) (hq prog w q) true fuel st) Q E s:=by
 intro m
 induction m using yw with
 |_ m ih=>
  intro k fuel st hm hkN hf hst hprev;obtain⟨fuel,rfl⟩:∃f,fuel=f+1:=⟨fuel-1,by omega⟩;unfold setSearchFrom;refine aa (bX x.ho x.hd x.fits ?_);dsimp only;have hgw:t.gaveWay=false:=by
   unfold aM.gaveWay;rcases x.tb.mm with e|e<;>rw[e]<;>rfl
  rw[hgw];simp only[aE,if_false];rw[hst];generalize hpp:aM.probe t _ (hq prog w q) _=mt;have hp2:t.probe (sh es) (hq prog w q) (sq t (hq prog w q) k)=mt:=hpp;have hturns:N-k<10*uy t.mask:=by unfold uy;omega
  obtain⟨k1,a1,a2,a3,a4⟩:=zK x.tb.ti (f:=sh es) hN hb (10*uy t.mask) k hkN hturns;have liveAt:∀{j i:Nat},t.slot j=.live i->∃y,kb[i]? =some y/\es[i]? =some (hq prog w y.1,.ref y.2):=fun{j i} e=>by
   rcases jD x.tb.ti j with⟨z,_⟩ |⟨i',z,hp⟩
   ·rw[z]at e;cases e
   ·rw[z]at e
    cases e;have hi:i<es.size:=by
     have :=(cI.mp hp).1
     rw[x.tb.sz,eR]at this;exact this
    obtain⟨y,hy,e⟩:=x.at (bH hi);exact⟨y,hy,by rw[bH hi,e]⟩
  have hashAt:∀{i:Nat}{y:List Int×Addr},es[i]? =some (hq prog w y.1,aV y.2)->sh es i=hq prog w y.1:=fun{i y} e=>by unfold sh;rw[e];rfl
  have seen:∀k',k'<k1->∀i y,t.slot (sq t (hq prog w q) k').j=.live i->kb[i]? =some y->y.1≠q:=fun k' hk' i y e hy z=>by
   by_cases c:k'<k
   ·exact hprev k' c i y e hy z
   ·obtain⟨i',e',ne⟩:=a3 k' (by omega) hk'
    rw[e]at e';cases e';obtain⟨y',hy',he⟩:=liveAt e;rw[hy]at hy';cases hy';exact ne (by rw[hashAt he,z])
  rcases a4 with⟨rfl,ep1⟩ |⟨i,e,hfi,hlt,ep1⟩
  ·have ep2:t.probe (sh es) (hq prog w q) (sq t (hq prog w q) k)=some (.empty (sq t (hq prog w q) k1).j none):=ep1
   rw[ep2]at hp2;subst hp2;dsimp only;refine aj (h2 fun hq'=>?_);obtain⟨y,hy,rfl⟩:=ao.mp hq';obtain⟨i,hi⟩:=bJ.mp hy;have hes:(es.map (·.1))[i]? =some (hq prog w y.1):=by
    rw[qw,<-bA,x.es_,ak,hi];rfl
   obtain⟨kk,p1,p2⟩:=x.tb.rc i _ hes;have hl:=Dz x.tb.ti p1;rcases Nat.lt_or_ge kk k1 with c|c
   ·exact seen kk c i y hl hi rfl
   ·rcases Nat.lt_or_eq_of_le c with c|c
    ·exact p2 k1 c hN
    ·rw[<-c,hN]at hl;cases hl
  ·have ep2:t.probe (sh es) (hq prog w q) (sq t (hq prog w q) k)=some (.candidate (sq t (hq prog w q) k1).j i (sq t (hq prog w q) (k1+1))):=ep1
   rw[ep2]at hp2;subst hp2;dsimp only;obtain⟨y,hy,he⟩:=liveAt e;have hym:y∈kb:=aG hy;have ty:=(x.tu y hym).1;have hout:∀v∈(Array.filter (fun z:Int×Value=>z.fst==hq prog w q) es).toList.map (fun z:Int×Value=>z.snd),∃r b,v=.ref b/\cn (aZ prog w) s.heap (ky r) b:=fun v hv=>by
    obtain⟨z,hz,rfl⟩:=ao.mp hv;have hz2:z∈es.toList:=by
     rw[Array.toList_filter]at hz;exact(eE.mp hz).1
    rw[x.es_]at hz2;obtain⟨u,hu,rfl⟩:=ao.mp hz2;exact⟨u.1,u.2,rfl,(x.tu u hu).1⟩
   have nxt:∀k',k'<k1+1->∀i' y',t.slot (sq t (hq prog w q) k').j=.live i'->kb[i']? =some y'->y.1≠q->y'.1≠q:=fun k' hk' i' y' e' hy' hne=>by
    by_cases c:k'=k1
    ·rw[c,e]at e'
     cases e';rw[hy]at hy';cases hy';exact hne
    ·exact seen k' (by omega) i' y' e' hy'
   rw[he];dsimp only;by_cases hl:(!t.led)=true
   ·rw[if_pos hl]
    refine aa (unseen hk _ hout ?_);simp only[aE,if_false];refine aa (bf (uX hu ty hk (aa (bX x.ho x.hd x.fits ?_))));by_cases hyq:y.1=q
    ·rw[decide_eq_true (show ky y.1=ky q by rw[hyq])]
     exact aj (h1 (ao.mpr ⟨y,hym,hyq⟩))
    ·rw[decide_eq_false (fun z:ky y.1=ky q=>hyq (G6 z))]
     simp only[fM,aE,if_false];rw[show t.sameMemory t.moves t.mask=some true from by unfold BZ;simp];dsimp only;simp only[if_true];rw[e];dsimp only;rw[he];dsimp only;refine aa (wpAny_isSame_ref_self (aa (aj ?_)));simp only[if_true];exact ih (N-(k1+1)) (by omega) (k1+1) fuel (some _) rfl (by omega) (by omega) rfl fun k' hk' i' y' e' hy'=>nxt k' hk' i' y' e' hy' hyq
   ·rw[if_neg hl]
    refine aa (bf (uX hu ty hk (aa (bX x.ho x.hd x.fits ?_))));by_cases hyq:y.1=q
    ·rw[decide_eq_true (show ky y.1=ky q by rw[hyq])]
     exact aj (h1 (ao.mpr ⟨y,hym,hyq⟩))
    ·rw[decide_eq_false (fun z:ky y.1=ky q=>hyq (G6 z))]
     simp only[fM,aE,if_false];rw[show t.sameMemory t.moves t.mask=some true from by unfold BZ;simp];dsimp only;simp only[if_true];rw[e];dsimp only;rw[he];dsimp only;refine aa (wpAny_isSame_ref_self (aa (aj ?_)));simp only[if_true];exact ih (N-(k1+1)) (by omega) (k1+1) fuel (some _) rfl (by omega) (by omega) rfl fun k' hk' i' y' e' hy'=>nxt k' hk' i' y' e' hy' hyq
theorem mr.size{T:Addr->Prop}{h:Heap}{S:Addr}{kb:List (List Int×Addr)}{o:Obj}{es:Array (Int×Value)}{ep:Nat}{t:aM}(x:mr prog w T h S kb o es ep t):es.size=kb.length/\t.place.size=kb.length:=by
 have a:es.size=kb.length:=by rw[<-aO,x.es_,ai]
 exact⟨a,by rw[x.tb.sz,eR,a]⟩
theorem ze{α:Type}(d:α)(ys:List α):(aq ys.length).map (fun i=>ys.getD i d)=ys:=by
 apply cK
 ·simp
 ·intro i h1 h2
  simp[h2]
theorem l5{h h':Heap}{S a:Addr}{o:Obj}{es ep t}{ks:List Key}(x:cn (aZ prog w) h ks a)(ho:h.get? S=some o)(hd:o.data=.set es ep t)(hs:cO S h h'):cn (aZ prog w) h' ks a:=D8.l5 x ho hd hs
theorem relay{T:Addr->Prop}{S:Addr}{kb:List (List Int×Addr)}{o:Obj}{es:Array (Int×Value)}{ep:Nat}{t:aM}{Q:Unit->Shared->Prop}(ho:s.heap.get? S=some o)(ex:o.ExactSet)(hd:o.data=.set es ep t)(tb:Tb t (es.map (·.1)))(pl:t.plain=true)(dm:t.dummies= #[])(he:es.toList=kb.map fun x=>(hq prog w x.1,aV x.2))(nd:(kb.map (·.1)).Nodup)(tu:∀x∈kb,cn (aZ prog w) s.heap (ky x.1) x.2/\T x.2)(h5:kb.length=5)
  (h:∀h' kb' o' es' ep' t',kb'.Perm kb->t'.led=t.led->cO S s.heap h'->mr prog w T h' S kb' o' es' ep' t'->Q () {s with heap:=h'}):wpAny (model prog w) A (setRelay S 20) Q E s:=by
 have hsz:es.size=5:=by rw[<-aO,he,ai,h5]
 have hf:t.fits es.size=true:=by
  have a:=tb.sz;have b:=tb.fl;rw[eR]at a;unfold oj wz;rw[dm,a];simp;omega
 unfold setRelay;refine aa (bX ho hd hf ?_);dsimp only;rw[if_neg (by decide+kernel)];obtain⟨t',order,el,em,tb',pm⟩:=laid_ok (mask:=31) (.inr rfl) (finger:=t.finger) (moves:=t.movedTo 31) (led:=t.led) (plain:=t.plain) (hs:=es.map (·.1)) (by rw[eR,hsz];decide);have hr:t.relaid (es.map (·.1)) 20=some (t',order):=el;rw[hr];have td:=mI el;rw[eR,hsz]at pm;have hin:∀i∈order.toList,i<5:=fun i hi=>aK.mp (pm.mem_iff.mp hi);have eg:(order.filterMap (es[·]?)).toList=order.toList.map fun i=>(hq prog w (kb.getD i ([],0)).1,aV (kb.getD i ([],0)).2):=by
  rw[Array.toList_filterMap];have :∀l:List Nat,(∀i∈l,i<5)->l.filterMap (es[·]?)=l.map fun i=>(hq prog w (kb.getD i ([],0)).1,aV (kb.getD i ([],0)).2):=fun l hl=>by
   induction l with
   |nil=>rfl
   |cons i l ih=>
    have hi:=hl i aI;have e1:es[i]? =some (hq prog w (kb.getD i ([],0)).1,aV (kb.getD i ([],0)).2):=by
     rw[<-bA,he,ak,ag,ae (by omega)];rfl
    rw[jP,e1,bp,ih fun j hj=>hl j (aH _ hj)]
  exact this _ hin
 have gsz:(order.filterMap (es[·]?)).size=es.size:=by rw[<-aO,eg,ai,pm.length_eq,hsz];rfl
 have kp:(order.toList.map fun i=>kb.getD i ([],0)).Perm kb:=by
  have :=pm.map fun i=>kb.getD i ([],0)
  rw[<-h5,ze]at this;exact this
 refine aa (mQ (a:=(order.filterMap (es[·]?),t')) ?_ ?_)
 ·show(ite ((_ != _)=true) _ _)=_
  rw[if_neg (by rw[gsz];simp)]
 dsimp only;refine mO ho hd ?_ (by rw[gsz,hsz];decide);have hg:(s.heap.update S (gP (order.filterMap (es[·]?)) t')).get? S=some {o with data:=.set (order.filterMap (es[·]?)) (ep+1) t'}:=by
  have :=bK (gP (order.filterMap (es[·]?)) t') ho (by rw[putSet_of _ _ hd];rfl)
  rw[putSet_of _ _ hd]at this;exact this
 have hsb:=bC s.heap S (gP (order.filterMap (es[·]?)) t');refine h _ (order.toList.map fun i=>kb.getD i ([],0)) _ _ (ep+1) t' kp td.2.1 hsb ⟨hg,ex,rfl,?_,by rw[td.2.2];exact pl,td.1.2,by rw[eg,bg];rfl,(kp.map _).nodup_iff.mpr nd,fun x hx=>?_,fun z=>by rw[em]at z;cases z⟩
 ·have e2:(order.filterMap (es[·]?)).map (·.1)=order.map fun i=>(es.map (·.1)).getD i 0:=by
   apply Array.toList_inj.mp
   rw[Array.toList_map,eg,Array.toList_map,bg];refine cm fun i hi=>?_;have hi:=hin i hi;show hq prog w (kb.getD i ([],0)).1=_;rw[bZ,qw,<-bA,he,ak,ag,ae (by omega)];rfl
  rw[e2];exact tb'
 ·have :=tu x (kp.mem_iff.mp hx)
  exact⟨l5 this.1 ho hd hsb,this.2⟩
theorem addT{T:Addr->Prop}{S a:Addr}{kb:List (List Int×Addr)}{o:Obj}{es:Array (Int×Value)}{ep:Nat}{t:aM}{q:List Int}{Q:Bool->Shared->Prop}(hu:A.units<cLine)(x:mr prog w T s.heap S kb o es ep t)(hk:cn (aZ prog w) s.heap (ky q) a)(hTa:T a)(h18:kb.length+1<=18)
  (h:∀b h' kb' o' es' ep' t',(∀r,r∈kb'.map (·.1)↔r∈kb.map (·.1)\/r=q)->kb'.length<=kb.length+1->t'.led=t.led->cO S s.heap h'->mr prog w T h' S kb' o' es' ep' t'->Q b {s with heap:=h'}):wpAny (model prog w) A (yn S (.ref a) (hq prog w q)) Q E s:=by
 obtain⟨z1,z2⟩:=x.size;obtain⟨N,n1,n2,n3⟩:=BA x.tb.ti x.tb.mm x.tb.fl (hq prog w q);unfold yn setAddHashedIn;refine bf (aa (bX x.ho x.hd x.fits ?_));dsimp only;rw[show byScan (.ref a) es=false from rfl];simp only[aE,if_false];refine aa ?_;unfold setSearch;have hmax:10*(13+t.mask)<=440:=by rcases x.tb.mm with e|e<;>rw[e]<;>decide
 refine search hu x hk n2 n3 n1 (fun hm=>?_) (fun hm=>?_) N 0 100000 none (by omega) (a7 _) (by omega) rfl (fun k' hk'=>by omega)
 ·dsimp only
  exact aj (h false s.heap kb o es ep t (fun r=>⟨.inl,fun z=>z.elim id fun e=>by rw[e];exact hm⟩) (by omega) rfl (Am _ _) x)
 ·dsimp only
  refine aa (bX x.ho x.hd x.fits ?_);dsimp only;have nj:=js x.tb.ti n2;have T':=sD x.tb.ti nj;have hroom:t.place.size+1<=t.mask:=by
   rw[z2];rcases x.tb.mm with e|e
   ·have :=x.lo e;omega
   ·omega
  have tb':=x.tb.put n2 n3 hroom;have hpl:(t.put (sq t (hq prog w q) N).j).1.plain=true:=x.pl;rw[hpl];simp only[if_true];refine aa (byVal hk ?_);simp only[if_true];have hp:(t.put (sq t (hq prog w q) N).j).2=cq t.place (sq t (hq prog w q) N).j:=rfl;rw[hp];generalize hpp:cq t.place (sq t (hq prog w q) N).j=p at *;generalize htt:(t.put (sq t (hq prog w q) N).j).1=t1 at *;have hmask:t1.mask=t.mask:=by rw[<-htt];rfl
  have hled:t1.led=t.led:=by rw[<-htt];rfl
  have hsz2:(bD es p (hq prog w q,aV a)).size=kb.length+1:=by rw[D8.FG,z1]
  refine aa (mO x.ho x.hd ?_ (by rw[hsz2];exact ba h18 (by decide)));have hg:(s.heap.update S (gP (bD es p (hq prog w q,aV a)) t1)).get? S=some {o with data:=.set (bD es p (hq prog w q,aV a)) (ep+1) t1}:=by
   have :=bK (gP (bD es p (hq prog w q,aV a)) t1) x.ho (by rw[putSet_of _ _ x.hd];rfl)
   rw[putSet_of _ _ x.hd]at this;exact this
  have hsb:=bC s.heap S (gP (bD es p (hq prog w q,aV a)) t1);have he':(bD es p (hq prog w q,aV a)).toList=(kb.take p++(q,a)::kb.drop p).map fun x=>(hq prog w x.1,aV x.2):=by
   rw[i3,x.es_,cH,bp,qr,Ax]
  have hpm:(kb.take p++(q,a)::kb.drop p).Perm ((q,a)::kb):=by
   have :=List.perm_middle (a:=(q,a)) (l₁:=kb.take p) (l₂:=kb.drop p)
   rw[List.take_append_drop]at this;exact this
  have hnd:((kb.take p++(q,a)::kb.drop p).map (·.1)).Nodup:=(hpm.map _).nodup_iff.mpr (bU.mpr ⟨hm,x.nd⟩);have htu:∀y∈kb.take p++(q,a)::kb.drop p,cn (aZ prog w) (s.heap.update S (gP (bD es p (hq prog w q,aV a)) t1)) (ky y.1) y.2/\T y.2:=fun y hy=>by
   rcases aB.mp (hpm.mem_iff.mp hy)with rfl|hy
   ·exact⟨l5 hk x.ho x.hd hsb,hTa⟩
   ·exact⟨l5 (x.tu y hy).1 x.ho x.hd hsb,(x.tu y hy).2⟩
  have hmem:∀{kb':List (List Int×Addr)},kb'.Perm (kb.take p++(q,a)::kb.drop p)->∀r,r∈kb'.map (·.1)↔r∈kb.map (·.1)\/r=q:=fun{kb'} pm r=>by
   rw[((pm.trans hpm).map (·.1)).mem_iff,bp,aB];exact⟨fun z=>z.elim .inr .inl,fun z=>z.elim .inr .inl⟩
  have tb2:Tb t1 ((bD es p (hq prog w q,aV a)).map (·.1)):=by rw[D8.map_ins];exact tb'
  have hfill:t1.fill=kb.length+1:=by
   unfold wz;rw[T'.2,tb2.sz,eR,hsz2];rfl
  have hlen:(kb.take p++(q,a)::kb.drop p).length=kb.length+1:=hpm.length_eq;by_cases full:t1.tooFull=true
  ·have f2:(kb.length+1)*5≥ t.mask*3:=by
    unfold ET at full;rw[hfill,hmask]at full;exact of_decide_eq_true full
   have h7:t.mask=7:=by
    rcases x.tb.mm with e|e
    ·exact e
    ·rw[e]at f2;omega
   have h5:kb.length+1=5:=by have :=x.lo h7;rw[h7]at f2;omega
   rw[full];simp only[Bool.not_false,eP,if_true];rw[show eM (es.size+1)=20 from by rw[z1,h5];rfl];refine aa (relay (T:=T) (s:={s with heap:=s.heap.update S (gP (bD es p (hq prog w q,aV a)) t1)}) hg x.ex rfl tb2 (by rw[<-htt];exact x.pl) T'.2 he' hnd htu (by rw[hlen,h5]) fun h' kb' o' es' ep' t' pm hl' hs' x'=>?_);refine aj (h true h' kb' o' es' ep' t' (hmem pm) (m6 (pm.length_eq.trans hlen)) (by rw[hl',hled]) (hsb.trans hs') x')
  ·rw[gE.mpr full]
   simp only[Bool.not_false,fM,aE,if_false];refine aj (h true _ (kb.take p++(q,a)::kb.drop p) _ _ (ep+1) t1 (hmem (.refl _)) (m6 hlen) hled hsb ⟨hg,x.ex,rfl,tb2,by rw[<-htt];exact x.pl,T'.2,he',hnd,htu,fun e=>?_⟩);rw[hlen];apply aR;intro z;apply full;unfold ET;rw[hfill,e];exact decide_eq_true (by omega)
end
end TB
set_option maxHeartbeats 3200000
namespace Q
open PySem PySem.Spec PySem.W PyProof.Rows L2
section
variable {prog:Program}{w:World}{A:Around}{R:Result->Shared->Prop}{I:Addr}{fp wr:List Addr}{G:Array kD->Array kD->Prop}{n:Nat}{P:Nat->Value->Prop}{St:Nat->Shared->Prop}
theorem vk{led:Bool}(W:WalksS prog w A.in1 I fp wr G n P St)(S:Addr)(hSf:S∉fp)(ks:List Key)(hn:ks.length=n)(hv:∀i v,P i v->∃k,ks[i]? =some k/\RelV (kV k) v)(hb:n+1<fX):
  ∀(m i:Nat)(s:Shared),n-i=m->i<=n->St i s->pF (aZ prog w) s.heap S (has (met (ks.take i))) (met (ks.take i)).length led->
   (∀s',Moved (S::wr) G s s'->pF (aZ prog w) s'.heap S (has (met ks)) (met ks).length led->R (.ok (.ret .none)) s')->
   gT (model prog w) A (.builtin "set.update.loop" ⟨[.ref S,.ref I],[]⟩) R s
 | 0,i,s,hm,hi,st,hS,hR=>by
  obtain rfl:i=n:=by omega
  rw[<-hn,eQ]at hS;refine cL dX ?_;rw[bN cz _];show wpAny _ A.in1 (pyNext (.ref I)>>=_) _ _ s;refine aa (W.done s _ _ st fun s' mv=>?_);obtain⟨o,es,ep,t,ho,rest⟩:=hS;exact aj (hR s' (mv.mono fun b hb=>aH _ hb) ⟨o,es,ep,t,mv.heap S _ (fun z=>hSf (W.sub _ z)) ho,rest⟩)
 |m+1,i,s,hm,hi,st,hS,hR=>by
  have hlt:i<n:=by omega
  refine cL dX ?_;rw[bN cz _];show wpAny _ A.in1 (pyNext (.ref I)>>=_) _ _ s;refine aa (W.item i s _ _ hlt st fun v s' hP st' mv=>?_);obtain⟨k,hk,rv⟩:=hv i v hP;have hS1:pF (aZ prog w) s'.heap S (has (met (ks.take i))) (met (ks.take i)).length led:=by
   obtain⟨o,es,ep,t,ho,rest⟩:=hS;exact⟨o,es,ep,t,mv.heap S _ (fun z=>hSf (W.sub _ z)) ho,rest⟩
  have hsc:v.scannable=true:=by
   cases k with
   |inl j=>obtain⟨t,rfl⟩:=rv;rfl
   |inr x=>obtain⟨t,rfl⟩:=rv;rfl
  show wpAny _ A.in1 (holding [v] (setAdd S v)>>=_) _ _ s';refine aa (bf ?_);unfold setAdd;refine bf (aa ((aZ prog w).pyHash (k:=k) (Hd rv) ?_));have hle:=GW (ks.take i);rw[bR]at hle;refine addX (knd:=aZ prog w) (led:=led) (s:={s' with toks:=s'.toks+1}) (Hd rv) hsc hS1 (by omega) fun h' hsb hS2=>?_;have et:ks.take (i+1)=ks.take i++[k]:=by rw[dc,hk];rfl
  have hS3:pF (aZ prog w) h' S (has (met (ks.take (i+1)))) (met (ks.take (i+1))).length led:=by
   rw[et,GU];obtain⟨o,es,ep,t,ho,hex,hd,hel,hmem,hbb,hf,hnn,htt⟩:=hS2;refine⟨o,es,ep,t,ho,hex,hd,hel,fun j=>?_,hbb,hf,by rw[oO];exact hnn,htt⟩;rw[<-hmem j,jj,zw,dj,jj,decide_eq_true_eq]
  refine aj ⟨dw cz _,vk W S hSf ks hn hv hb m (i+1) _ (by omega) hlt (W.frame _ s' _ _ st' (d8 _) fun b hq o e=>?_) hS3 fun s'' mv2 hS4=>?_⟩
  ·rw[hsb.2 b (fun z:b=S=>hSf (by rw[<-z];exact hq))]
   exact e
  ·refine hR s'' (k9 W.gtrans ((mv.mono fun b hb=>aH _ hb).then_heap (d8 _) fun b o hq e=>?_) mv2) hS4
   rw[hsb.2 b (fun z:b=S=>hq (by rw[z];exact aI))];exact e
end
section
variable {prog:Program}{w:World}{A:Around}{E:Value->Shared->Prop}{s:Shared}
theorem Eo(a:Value){Q₁:Value->Shared->Prop}(h:Q₁ (.ref s.heap.objs.size) {s with heap:=s.heap.push (i8 (!w.params.followText "set-order"))}):gT (model prog w) A (.call (.builtin "set.__new__") ⟨[.type "set",a],[]⟩) (wants Q₁ E) s:=by
 refine codeAny_of_tree ?_;show wpAny _ A.in1 (do checkBuiltinCall "set.__new__" ⟨[.type "set",a],[]⟩;again (.builtin "set.__new__" ⟨[.type "set",a],[]⟩)) _ _ s;refine aa (mQ (F.newCall_set_1 a) (aj ⟨dw F.plain_set_new _,cL F.entry_set_new ?_⟩));rw[bN F.plain_set_new _];unfold Builtin.«set.__new__» Builtin.Frozenset.newClass;have hsub:=sub_set_self;obtain⟨hp,g,d,tk,os⟩:=s;dsimp only;wp_walk;refine dI (aj ?_);dsimp only;simp only[newObj];exact aa (wpAny_alloc (aj (aj h)))
theorem vo{l:Addr}{items:Array Value}{P:Bool->Heap->Prop}{Q:Value->Shared->Prop}(hl:s.heap.IsList l items)
  (hloop:∀(led:Bool)(R:Result->Shared->Prop),(∀s',Moved (s.heap.objs.size::[(s.heap.push (i8 led)).objs.size]) (fun a b=>b=a) {s with heap:=(s.heap.push (i8 led)).push {cls:=.type "list_iterator",data:=.fields #[.ref l,.int 0 0]}} s'->P led s'.heap->R (.ok (.ret .none)) s')->gT (model prog w) A.in1.in1 (.builtin "set.update.loop" ⟨[.ref s.heap.objs.size,.ref (s.heap.push (i8 led)).objs.size],[]⟩) R {s with heap:=(s.heap.push (i8 led)).push {cls:=.type "list_iterator",data:=.fields #[.ref l,.int 0 0]}})
  (h:∀(h':Heap)(tk:Nat),P (!w.params.followText "set-order") h'->(∀b o,b<s.heap.objs.size->s.heap.get? b=some o->h'.get? b=some o)->Q (.ref s.heap.objs.size) {s with heap:=h',toks:=tk}):
  wpAny (model prog w) A (call (.type "set") [.ref l]) Q E s:=by
 have c0:=F.called_set;obtain⟨c,tl,hmro⟩:=c0.mro;have f1:=c0.made;have f2:=c0.sub;have f3:=c0.notType;have f4:=c0.canCreate;have f5:=F.typeCall_set_1 (.ref l);refine wpAny_call (codeAny_of_tree ?_);show wpAny _ _ (callAny (.type "set") _) _ _ _;refine aj ⟨Code.quiet_builtin _ (by decide+kernel),cL F.entry_type_call ?_⟩;rw[Around.under_plain (weight_type_call_type "set" [.ref l] []) rfl];repeat(any_goals (first |assumption|wp_step))
 refine lC (Eo (.ref l) (E:=E) (Q₁:=fun obj s1=>∃led:Bool,led=(!w.params.followText "set-order")/\obj=.ref s.heap.objs.size/\s1={s with heap:=s.heap.push (i8 led)}) ⟨_,rfl,rfl,rfl⟩) fun r s1 hr=>?_;rcases r with e|fl
 ·exact hr
 rcases fl with _|_|_|obj
 ·exact hr.elim
 ·exact hr.elim
 ·exact hr.elim
 obtain⟨led,hled,rfl,rfl⟩:=hr;rw[<-hled]at h;have hS:(s.heap.push (i8 led)).get? s.heap.objs.size=some (i8 led):=au _ rfl;have hT:Shared.TypeIs {s with heap:=s.heap.push (i8 led)} (.ref s.heap.objs.size) "set":=⟨_,hS,rfl⟩;have f6:=c0.init.lookup;have f7:=c0.init.bind (.ref s.heap.objs.size);repeat(any_goals (first |assumption|wp_step))
 refine lC (codeAny_call_builtin (R:=wants (fun r s2=>r=.none/\∃h' tk,s2={s with heap:=h',toks:=tk}/\P led h'/\
  (∀b o,b<s.heap.objs.size->s.heap.get? b=some o->h'.get? b=some o)) E) c0.init.plain F.entry_set_init (check_set_init_1 hT ?_)) fun r2 s2 hr2=>?_
 ·obtain⟨ol,hol,hcl,nl,hdl⟩:=hl
  obtain⟨oc,od,odt,osl⟩:=ol;obtain rfl:oc=.type "list":=hcl;obtain rfl:odt=.seq items nl:=hdl;have hol':(s.heap.push (i8 led)).get? l=some {cls:=.type "list",dict:=od,data:=.seq items nl,slots:=osl}:=ah _ hol;have g1:=F.sub_list_set;have g2:=F.sub_list_frozenset;have g3:(kC "list"==kC "dict")=false:=by decide
  have hl1:(s.heap.push (i8 led)).IsList l items:=⟨_,hol',rfl,nl,rfl⟩;unfold Builtin.«set.__init__» noKeywords Builtin.Frozenset.updateFrom;generalize hPI:pyIter=PI
  wp_walk
  subst hPI;refine mP hl1 (aa (wpAny_runValue ?_));have hlt:l<s.heap.objs.size:=av hol;have hz:(s.heap.push (i8 led)).objs.size=s.heap.objs.size+1:=cg _ _;refine hloop led _ fun s' mv hS'=>?_
  ·obtain⟨h',g',d',tk',os'⟩:=s'
   obtain rfl:g'=s.gens:=mv.gens;obtain rfl:d'=s.drawn:=mv.drawn;obtain rfl:os'=s.os:=mv.os;show wpAny _ _ _ _ _ _;refine aj ?_;show wpAny _ _ (ret bL) _ _ _;refine aj ⟨rfl,h',tk',rfl,hS',fun b o hq e=>mv.heap b o (fun z=>?_) (ah _ (ah _ e))⟩;rcases aB.mp z with z|z
   ·exact aJ hq z
   ·exact aJ (a9 hq) ((aC.mp z).trans hz)
 ·rcases r2 with e|fl2
  ·exact hr2
  rcases fl2 with _|_|_|v
  ·exact hr2.elim
  ·exact hr2.elim
  ·exact hr2.elim
  obtain⟨rfl,h',tk,rfl,hS',hk'⟩:=hr2;repeat(any_goals (first |assumption|wp_step))
  exact h _ _ hS' hk'
theorem vm{l:Addr}{items:Array Value}{ks:List Key}{Q:Value->Shared->Prop}(hh:A.handled=none)(hl:s.heap.IsList l items)(hk:ks.length=items.size)
  (hv:∀(i:Nat)(v:Value),items[i]? =some v->∃k,ks[i]? =some k/\RelV (kV k) v)(hb:items.size+1<fX)
  (h:∀(h':Heap)(tk:Nat),pF (aZ prog w) h' s.heap.objs.size (has (met ks)) (met ks).length (!w.params.followText "set-order")->(∀b o,b<s.heap.objs.size->s.heap.get? b=some o->h'.get? b=some o)->Q (.ref s.heap.objs.size) {s with heap:=h',toks:=tk}):
  wpAny (model prog w) A (call (.type "set") [.ref l]) Q E s:=by
 have hlt:l<s.heap.objs.size:=let⟨_,e,_⟩:=hl;av e;refine vo (P:=fun led h=>pF (aZ prog w) h s.heap.objs.size (has (met ks)) (met ks).length led) hl (fun led R hR=>?_) h;have h3:A.in1.in1.in1.handled=none:=by simp[hh]
 have hz:(s.heap.push (i8 led)).objs.size=s.heap.objs.size+1:=cg _ _;have hne:l≠(s.heap.push (i8 led)).objs.size:=by rw[hz];exact aJ (a9 hlt)
 have hnf:s.heap.objs.size∉[(s.heap.push (i8 led)).objs.size,l]:=by
  rw[hz];intro z;rcases aB.mp z with z|z
  ·exact aJ (bT _) z
  ·exact dq hlt (aC.mp z)
 have hS:(s.heap.push (i8 led)).get? s.heap.objs.size=some (i8 led):=au _ rfl;refine vk (led:=led) ((ID h3 _ l hne items).toS) s.heap.objs.size hnf ks hk hv hb (items.size-0) 0 _ (by omega) (a7 _) ⟨⟨_,au _ rfl,rfl,rfl⟩,(hl.push _).push _⟩ ?_ hR;exact⟨i8 led,#[],0,_,ah _ hS,⟨rfl,rfl,rfl⟩,rfl,fun e he=>by simp at he,fun k=>by simp[met,has],by decide,by rfl,rfl,⟨jz,rfl⟩,rfl⟩
end
theorem Es{X:Cx}(hc:X.calm=true):fO X (.type "set") (rSet X.K):=by
 intro pins s σ H xs us Q I r h;obtain⟨p,ks,rfl,hq,hz,q⟩:=h;obtain⟨u,rfl,rx⟩:=vals1 r;cases rx;obtain⟨its,r',pl,_⟩:=I.list hq;have hlen:=r'.length;rw[ai]at hlen;refine vm (ks:=ks) (I.ok.hd hc) pl.isList (by rw[ay];exact hlen) (fun i v e=>xP r' i v (by simpa using e)) (by rw[ay,<-hlen];unfold fX;omega) fun h' tk hS kp=>?_;refine⟨.ref s.heap.objs.size,_,I.laid (t':=tk) (fun b o e=>kp b o (av e) e) (ax _) (show dQ X.prog X.w _ _ _ (AX _ (met ks).length)from ?_),rfl,q _ (I.hok.fresh (ax _))⟩;obtain⟨o,es,ep,t,ho,hex,hd,hel,hmem,hbb,hf,hn⟩:=hS.of;refine⟨⟨o,es,ep,t,ho,hex,hd,hbb,hf,hn⟩,⟨o,ho⟩,fun h1 h2 z k=>?_⟩;obtain⟨o,es,ep,t,ho,rest⟩:=z;exact⟨o,es,ep,t,k o ho,rest⟩
end Q
set_option maxHeartbeats 1000000
namespace Q
open PySem
theorem gY{α:Type}:∀{l:List α}{i:Nat}(h:i<l.length),(l[i]::l.eraseIdx i).Perm l
 |a::l,0,_=>dW _
 |a::l,i+1,h=>by
  have hi:i<l.length:=by simpa using h
  have ih:=gY hi;show(l[i]::a::l.eraseIdx i).Perm (a::l);exact(jI _ _ _).trans (ih.cons a)
theorem Cg{α:Type}(next :Nat->Nat):∀(fuel k:Nat)(left:List α)(out:Array α),left.length<=fuel->(yp next fuel k left out).toList.Perm (out.toList++left)
 | 0,k,left,out,h=>by
  have e:left=[]:=aX.mp (by omega);subst e;simp[yp]
 |fuel+1,k,left,out,h=>by
  unfold yp;cases left with
  |nil=>simp
  |cons a l=>
   have hi:next k%(a::l).length<(a::l).length:=k6 _ (by simp)
   rw[ae hi];dsimp only;refine(Cg next fuel (k+1) _ _ (by rw[yF hi];simp at h⊢;omega)).trans ?_;rw[Array.toList_push,iY];exact List.Perm.append_left _ (gY hi)
theorem mC{α:Type}(next :Nat->Nat)(xs:Array α):(iH next xs).toList.Perm xs.toList:=by
 unfold iH;exact(Cg next xs.size 0 xs.toList #[] (by simp)).trans (by simp)
section
variable {M:Model}{A:Around}{E:Value->Shared->Prop}
theorem uG{s:Shared}{src:Source}{n:Nat}{Q:Nat->Shared->Prop}(h:n≠0)(q:∀i d,i<n->Q i {s with drawn:=d}):wpAny M A (choose src n) Q E s:=fun Γ p hΓ=>by
 unfold choose;rw[Sem.wp_choose];exact⟨h,q _ _ (k6 _ (Nat.pos_of_ne_zero h))⟩
theorem vO{α:Type}:∀(n:Nat)(xs:List α)(s:Shared)(Q:List α->Shared->Prop),xs.length<=n->(∀ys d,ys.Perm xs->Q ys {s with drawn:=d})->wpAny M A (drawOrder n xs) Q E s
 | 0,xs,s,Q,h,q=>by
  have e:xs=[]:=aX.mp (by omega);subst e;unfold drawOrder;exact aj (q [] s.drawn (dW _))
 |n+1,[],s,Q,h,q=>by
  unfold drawOrder;exact aj (q [] s.drawn (dW _))
 |n+1,a::l,s,Q,h,q=>by
  unfold drawOrder;refine aa (uG (by simp) fun i d hi=>?_);rw[ae hi];dsimp only;refine aa (vO n _ _ _ (by rw[yF hi];simp at h⊢;omega) fun ys d' hy=>aj ?_);exact q _ d' ((hy.cons _).trans (gY hi))
end
end Q
set_option maxHeartbeats 3200000
namespace Q
open PySem PySem.Spec PySem.W PyProof.Rows L2
theorem fI:Slot "set_iterator" "__next__" "set_iterator.__next__":=
 .of (owner:="set_iterator") (n:="__next__") (by rw[typeLookup_type,builtinLookup_eq_fast];kernel_rfl) (by decide+kernel) (by decide+kernel) (by decide+kernel) (by first |exact .inl (by decide+kernel) |exact .inr (by decide+kernel)) (by rw[EH];kernel_rfl)
theorem nh:entryFor table "set_iterator.__next__"=some Builtin.«set_iterator.__next__»:=entryFor_of_tree (by kernel_rfl)
theorem pD(a:Value):argsOk "set_iterator.__next__" ⟨[a],[]⟩:=by unfold argsOk;kernel_rfl
theorem rg:entryFor table "set.__iter__"=some Builtin.«frozenset.__iter__»:=entryFor_alias (id':="frozenset.__iter__") (by kernel_rfl) rfl (by decide+kernel) (by kernel_rfl)
noncomputable abbrev siO(S:Addr)(first :Value)(i n ep:Nat):Obj:={cls:=.type "set_iterator",dict:=none,data:=.fields #[first,.int i 0,.ref S,.int n 0,.int ep 0],slots:= #[]}
section
variable {prog:Program}{w:World}{A:Around}{E:Value->Shared->Prop}{s:Shared}
noncomputable def iU(es:Array (Int×Value))(t:aM):Bool:= !t.plain&&es.size>1
theorem oz{a:Addr}{o:Obj}{es:Array (Int×Value)}{ep:Nat}{t:aM}{Q:Bool->Shared->Prop}(ho:s.heap.get? a=some o)(hd:o.data=.set es ep t)(hf:t.fits es.size=true)(h:Q (!w.params.followText "set-order"&&iU es t) s):
  wpAny (model prog w) A (setDrawn a) Q E s:=by
 unfold setDrawn lM;refine aa (bX ho hd hf ?_);dsimp only;refine aa (aa (dI (aj (aj ?_))));exact h
theorem Hf{S:Addr}{o:Obj}{es:Array (Int×Value)}{ep:Nat}{t:aM}{Q:Value->Shared->Prop}(ho:s.heap.get? S=some o)(hc:o.cls=.type "set")(hd:o.data=.set es ep t)(hf:t.fits es.size=true)(hsb:es.size<fX)
  (h1:(!w.params.followText "set-order"&&iU es t)=false->Q (.ref s.heap.objs.size) {s with heap:=s.heap.push (siO S (.int 0 0) 0 es.size ep)})
  (h2:(!w.params.followText "set-order"&&iU es t)=true->∀(ps:List Nat)(d:Drawn),ps.Perm (aq es.size)->Q (.ref (s.heap.objs.size+1)) {s with drawn:=d,heap:=(s.heap.push {cls:=.type "tuple",data:=.seq (ps.map fun(i:Nat)=>rawInt i).toArray}).push (siO S (.ref s.heap.objs.size) 0 es.size ep)}):
  wpAny (model prog w) A (pyIter (.ref S)) Q E s:=by
 have hT:s.TypeIs (.ref S) "set":=⟨o,ho,hc⟩;refine wpAny_pyIter_slot hT F.slot_set_iter (cB F.slot_set_iter hT rg ?_ (F.args_set_iter_1 _));unfold Builtin.«frozenset.__iter__» Builtin.Frozenset.slot0 Builtin.Frozenset.sizeOf
 wp_walk
 have hfc:(t.place.size != es.size||decide (t.fill>t.mask))=false:=by
  simp only[oj,aL,beq_iff_eq,decide_eq_true_eq]at hf;simp[hf.1,gQ.mpr hf.2]
 rw[hd];dsimp only;rw[if_neg (by rw[hfc];decide)];refine aj (aj (aj ?_));refine aa (oz ho hd hf ?_);dsimp only;cases hb:(!w.params.followText "set-order"&&iU es t)with
 |false=>
  rw[if_neg (by decide)];refine aa (aj (aa (wpAny_setEpoch_of ho hd hf ?_)));refine aa (bx (aj ⟨_,rfl,"set_iterator",_,⟨_,au _ rfl,rfl⟩,fI.lookup,h1 hb⟩))
 |true=>
  rw[if_pos rfl];refine aa (vO _ _ _ _ (by simp) fun ps d hp=>?_);refine aa (bx ?_ (by show(ps.map fun(i:Nat)=>rawInt i).toArray.size<=sizeLine;rw[ay,ai,hp.length_eq,bq];exact mS hsb));have ho1:(s.heap.push {cls:=.type "tuple",data:=.seq (ps.map fun(i:Nat)=>rawInt i).toArray}).get? S=some o:=ah _ ho;refine aa (wpAny_setEpoch_of (s:={s with drawn:=d,heap:=s.heap.push {cls:=.type "tuple",data:=.seq (ps.map fun(i:Nat)=>rawInt i).toArray}}) ho1 hd hf ?_);have hz:(s.heap.push {cls:=.type "tuple",data:=.seq (ps.map fun(i:Nat)=>rawInt i).toArray}).objs.size=s.heap.objs.size+1:=cg ..;refine aa (bx (aj ⟨_,rfl,"set_iterator",_,⟨_,au _ rfl,rfl⟩,fI.lookup,?_⟩));have :=h2 hb ps d hp;rw[<-hz]at this;exact this
end
section
variable {prog:Program}{w:World}{A:Around}{E:Value->Shared->Prop}{s:Shared}
structure jY(h:Heap)(S:Addr)(es:Array (Int×Value))(ep:Nat)(t:aM):Prop where
 ob:∃o,h.get? S=some o/\o.cls=.type "set"/\o.data=.set es ep t
 fit:t.fits es.size=true
theorem jt{I S:Addr}{first :Value}{i ep:Nat}{es:Array (Int×Value)}{t:aM}{Q:eA->Shared->Prop}(hi:s.heap.get? I=some (siO S first i es.size ep))(hs:jY s.heap S es ep t)
  (h:wpAny (model prog w) A (match first with
   |.int slot _=>do
    match<-setNext S slot.toNat i ep with
    |some (x,next)=>do
     rq (.ref I) 0 (rawInt next)
     rq (.ref I) 1 (rawInt ((i:Int)+1))
     ret x
    |none=>do
     rq (.ref I) 2 .none
     EG (<-newExc (.type "StopIteration") [])
   |_=>do
    let some places<-iG first |unsupported "internal:set_iterator"
    match places[i]? with
    |some (.int place _)=>do
     let x<-setNextDrawn S place.toNat ep
     rq (.ref I) 1 (rawInt ((i:Int)+1))
     ret x
    |some _=>unsupported "internal:set_iterator"
    |none=>do
     rq (.ref I) 0 (rawInt 0)
     rq (.ref I) 2 .none
     EG (<-newExc (.type "StopIteration") [])) Q E s):
  wpAny (model prog w) A (Builtin.«set_iterator.__next__» ⟨[.ref I],[]⟩) Q E s:=by
 obtain⟨⟨o,ho,hc,hd⟩,hf⟩:=hs;unfold Builtin.«set_iterator.__next__»;show wpAny _ _ (fieldsOf (.ref I)>>=_) _ _ _;refine aa (wpAny_fieldsOf hi rfl ?_);dsimp only;refine aa (wpAny_setEntries_of ho hd hf ?_);rw[if_neg (by simp)];exact h
theorem nextA{I S:Addr}{k i ep:Nat}{es:Array (Int×Value)}{t:aM}{x:Int×Value}{Q:eA->Shared->Prop}(hw:w.params.followText "set-order"=true)(hi:s.heap.get? I=some (siO S (.int k 0) i es.size ep))(hs:jY s.heap S es ep t)
  (hx:(iH (w.params.setOrder S ep) es)[i]? =some x)(h:∀h',h'.get? I=some (siO S (.int k 0) (i+1) es.size ep)->cO I s.heap h'->Q (.done (.ret x.2)) {s with heap:=h'}):
  wpAny (model prog w) A (Builtin.«set_iterator.__next__» ⟨[.ref I],[]⟩) Q E s:=by
 refine jt hi hs ?_;obtain⟨⟨o,ho,hc,hd⟩,hf⟩:=hs;dsimp only;refine aa ?_;unfold setNext lM;refine aa (bX ho hd hf ?_);dsimp only;refine aa (aa (dI (aj ?_)));dsimp only;rw[show(model prog w).w.params.followText "set-order"=true from hw];simp only[if_true,bne_self_eq_false,aE,if_false];refine aa ?_;unfold setWalk lM;refine aa (bX ho hd hf ?_);dsimp only;refine aa (aa (dI (aj ?_)));dsimp only;rw[show(model prog w).w.params.followText "set-order"=true from hw];simp only[if_true];refine aa (dI (aj (aj ?_)));rw[show(iH ({program:=(model prog w).prog,params:=(model prog w).w.params:Setting}.params.setOrder S ep) es)[i]? =some x from hx];simp only[ju,aP];refine aa (dE hi (by simp) fun h1 e1 s1=>?_);have e1:h1.get? I=some (siO S (.int k 0) i es.size ep):=e1;refine aa (dE e1 (by simp) fun h2 e2 s2=>?_);have e2:h2.get? I=some (siO S (.int k 0) (i+1) es.size ep):=e2;exact aj (h h2 e2 (s1.trans s2))
theorem nextB{I S:Addr}{k i ep:Nat}{es:Array (Int×Value)}{t:aM}{x:Int×Value}{Q:eA->Shared->Prop}(hw:w.params.followText "set-order"=false)(hdr:iU es t=false)(hled:t.led=true)(hi:s.heap.get? I=some (siO S (.int k 0) i es.size ep))(hs:jY s.heap S es ep t)
  (hk:cq t.place k=i)(hx:es[i]? =some x)(h:∀h' j,t.place[i]? =some j->h'.get? I=some (siO S (.int (j+1:Nat) 0) (i+1) es.size ep)->cO I s.heap h'->Q (.done (.ret x.2)) {s with heap:=h'}):
  wpAny (model prog w) A (Builtin.«set_iterator.__next__» ⟨[.ref I],[]⟩) Q E s:=by
 refine jt hi hs ?_;obtain⟨⟨o,ho,hc,hd⟩,hf⟩:=hs;dsimp only;refine aa ?_;unfold setNext lM;refine aa (bX ho hd hf ?_);dsimp only;refine aa (aa (dI (aj ?_)));dsimp only;rw[show(model prog w).w.params.followText "set-order"=false from hw];simp only[aE,if_false];have hsz:t.place.size=es.size:=by
  simp only[oj,aL,beq_iff_eq]at hf;exact hf.1
 have hil:i<es.size:=(cI.mp hx).1;have hj:t.place[i]? =some (t.place[i]'(by omega)):=by simp[show i<t.place.size by omega]
 rw[if_neg (fun z=>by have z':iU es t=true:=z;rw[hdr]at z';cases z')];refine aa (show wpAny _ _ (if(!t.led&& !es.isEmpty)=true then unsupported "set:maker-not-led" else pure ()) _ _ _ from ?_);rw[if_neg (by rw[hled];simp)];refine aj (aj ?_);simp only[aP,hk,hx,hj];refine aa (dE hi (by simp) fun h1 e1 s1=>?_);have e1:h1.get? I=some (siO S (.int (t.place[i]'(by omega)+1:Nat) 0) i es.size ep):=e1;refine aa (dE e1 (by simp) fun h2 e2 s2=>?_);have e2:h2.get? I=some (siO S (.int (t.place[i]'(by omega)+1:Nat) 0) (i+1) es.size ep):=e2;exact aj (h h2 _ hj e2 (s1.trans s2))
theorem nextC{I S T:Addr}{i ep p:Nat}{tk:Tok}{es:Array (Int×Value)}{t:aM}{ps:Array Value}{m:Nat}{oT:Obj}{x:Int×Value}{Q:eA->Shared->Prop}(hi:s.heap.get? I=some (siO S (.ref T) i es.size ep))(hs:jY s.heap S es ep t)
  (hT:s.heap.get? T=some oT)(hTd:oT.data=.seq ps m)(hp:ps[i]? =some (.int p tk))(hx:es[p]? =some x)(h:∀h',h'.get? I=some (siO S (.ref T) (i+1) es.size ep)->cO I s.heap h'->Q (.done (.ret x.2)) {s with heap:=h'}):
  wpAny (model prog w) A (Builtin.«set_iterator.__next__» ⟨[.ref I],[]⟩) Q E s:=by
 refine jt hi hs ?_;obtain⟨⟨o,ho,hc,hd⟩,hf⟩:=hs;dsimp only;refine aa (du hT hTd ?_);simp only[hp,aP];refine aa ?_;unfold setNextDrawn;refine aa (bX ho hd hf ?_);simp only[bne_self_eq_false,aE,if_false,hx];refine aj ?_;refine aa (dE hi (by simp) fun h2 e2 s2=>?_);have e2:h2.get? I=some (siO S (.ref T) (i+1) es.size ep):=e2;exact aj (h h2 e2 s2)
end
section
variable {prog:Program}{w:World}{A:Around}{E:Value->Shared->Prop}{s:Shared}
theorem nR{α:Type}{Q:α->Shared->Prop}(hh:A.handled=none)(h:∀h' e,(∀c o,s.heap.get? c=some o->h'.get? c=some o)->(∃o,h'.get? e=some o/\o.cls=.type "StopIteration")->E (.ref e) {s with heap:=h'}):
  wpAny (model prog w) A (newExc (.type "StopIteration") []>>=fun x=>EG x) Q E s:=by
 refine aa ?_;simp only[newExc,newTuple];refine aa (bx ?_ (by size_fits));refine aa (m:=rB _ _) (mQ (a:=bL) (by first |rfl| (simp only[rB];rfl)) ?_);refine bx ?_ (by size_fits);simp only[EG];refine aa (wpAny_handled ?_);rw[hh];refine aa (aj (wpAny_throw ?_));exact h _ _ (fun c o e=>ah _ (ah _ e)) ⟨_,au _ rfl,rfl⟩
noncomputable def Ends(E:Value->Shared->Prop)(I:Addr)(s:Shared):Prop:=∀h' e,(∀c o,c≠I->s.heap.get? c=some o->h'.get? c=some o)->(∃o,h'.get? e=some o/\o.cls=.type "StopIteration")->E (.ref e) {s with heap:=h'}
theorem endA{I S:Addr}{k ep:Nat}{es:Array (Int×Value)}{t:aM}{Q:eA->Shared->Prop}(hh:A.handled=none)(hw:w.params.followText "set-order"=true)(hi:s.heap.get? I=some (siO S (.int k 0) es.size es.size ep))(hs:jY s.heap S es ep t)(h:Ends E I s):
  wpAny (model prog w) A (Builtin.«set_iterator.__next__» ⟨[.ref I],[]⟩) Q E s:=by
 have hx:(iH (w.params.setOrder S ep) es)[es.size]? =none:=by
  have :=(mC (w.params.setOrder S ep) es).length_eq
  simp at this⊢;omega
 refine jt hi hs ?_;obtain⟨⟨o,ho,hc,hd⟩,hf⟩:=hs;dsimp only;refine aa ?_;unfold setNext lM;refine aa (bX ho hd hf ?_);dsimp only;refine aa (aa (dI (aj ?_)));dsimp only;rw[show(model prog w).w.params.followText "set-order"=true from hw];simp only[if_true,bne_self_eq_false,aE,if_false];refine aa ?_;unfold setWalk lM;refine aa (bX ho hd hf ?_);dsimp only;refine aa (aa (dI (aj ?_)));dsimp only;rw[show(model prog w).w.params.followText "set-order"=true from hw];simp only[if_true];refine aa (dI (aj (aj ?_)));rw[show(iH ({program:=(model prog w).prog,params:=(model prog w).w.params:Setting}.params.setOrder S ep) es)[es.size]? =none from hx];simp only[Option.map_none];refine aa (dE hi (by simp) fun h1 e1 s1=>?_);exact nR (s:={s with heap:=h1}) hh fun h' e kp he=>h h' e (fun c o c1 q=>kp c o (s1.extBut c o c1 q)) he
theorem endB{I S:Addr}{k ep:Nat}{es:Array (Int×Value)}{t:aM}{Q:eA->Shared->Prop}(hh:A.handled=none)(hw:w.params.followText "set-order"=false)(hdr:iU es t=false)(hled:t.led=true)(hi:s.heap.get? I=some (siO S (.int k 0) es.size es.size ep))(hs:jY s.heap S es ep t)
  (hk:cq t.place k=es.size)(h:Ends E I s):wpAny (model prog w) A (Builtin.«set_iterator.__next__» ⟨[.ref I],[]⟩) Q E s:=by
 refine jt hi hs ?_;obtain⟨⟨o,ho,hc,hd⟩,hf⟩:=hs;dsimp only;refine aa ?_;unfold setNext lM;refine aa (bX ho hd hf ?_);dsimp only;refine aa (aa (dI (aj ?_)));dsimp only;rw[show(model prog w).w.params.followText "set-order"=false from hw];simp only[aE,if_false];rw[if_neg (fun z=>by have z':iU es t=true:=z;rw[hdr]at z';cases z')];refine aa (show wpAny _ _ (if(!t.led&& !es.isEmpty)=true then unsupported "set:maker-not-led" else pure ()) _ _ _ from ?_);rw[if_neg (by rw[hled];simp)];refine aj (aj ?_);have hn:es[es.size]? =none:=by simp
 simp only[aP,hk,hn];refine aa (dE hi (by simp) fun h1 e1 s1=>?_);exact nR (s:={s with heap:=h1}) hh fun h' e kp he=>h h' e (fun c o c1 q=>kp c o (s1.extBut c o c1 q)) he
theorem endC{I S T:Addr}{ep:Nat}{es:Array (Int×Value)}{t:aM}{ps:Array Value}{m:Nat}{oT:Obj}{Q:eA->Shared->Prop}(hh:A.handled=none)(hi:s.heap.get? I=some (siO S (.ref T) es.size es.size ep))(hs:jY s.heap S es ep t)(hT:s.heap.get? T=some oT)(hTd:oT.data=.seq ps m)(hp:ps.size=es.size)(h:Ends E I s):
  wpAny (model prog w) A (Builtin.«set_iterator.__next__» ⟨[.ref I],[]⟩) Q E s:=by
 refine jt hi hs ?_;dsimp only;refine aa (du hT hTd ?_);have hn:ps[es.size]? =none:=by simp;omega
 simp only[hn];refine aa (dE hi (by simp) fun h1 e1 s1=>?_);have e1:h1.get? I=some (siO S (.int 0 0) es.size es.size ep):=e1;refine aa (dE e1 (by simp) fun h2 e2 s2=>?_);exact nR (s:={s with heap:=h2}) hh fun h' e kp he=>h h' e (fun c o c1 q=>kp c o (s2.extBut c o c1 (s1.extBut c o c1 q))) he
end
theorem oF:Slot "set_iterator" "__iter__" "set_iterator.__iter__":=
 .of (owner:="set_iterator") (n:="__iter__") (by rw[typeLookup_type,builtinLookup_eq_fast];kernel_rfl) (by decide+kernel) (by decide+kernel) (by decide+kernel) (by first |exact .inl (by decide+kernel) |exact .inr (by decide+kernel)) (by rw[EH];kernel_rfl)
theorem uQ:entryFor table "set_iterator.__iter__"=some Builtin.«dict_keyiterator.__iter__»:=
 entryFor_alias (id':="dict_keyiterator.__iter__") (by kernel_rfl) (by first |rfl|decide+kernel) (by decide+kernel) (by kernel_rfl)
theorem yj(a:Value):argsOk "set_iterator.__iter__" ⟨[a],[]⟩:=by unfold argsOk;kernel_rfl
section
variable {prog:Program}{w:World}{A:Around}{E:Value->Shared->Prop}{s:Shared}
theorem xg{I:Addr}{Q:Option Value->Shared->Prop}(hT:s.TypeIs (.ref I) "set_iterator")(h:∀(Q':eA->Shared->Prop)(E':Value->Shared->Prop),(∀v h',Q (some v) {s with heap:=h'}->Q' (.done (.ret v)) {s with heap:=h'})->wpAny (model prog w) A.in1 (Builtin.«set_iterator.__next__» ⟨[.ref I],[]⟩) Q' E' s):
  wpAny (model prog w) A (pyNext (.ref I)) Q E s:=by
 unfold pyNext;exact aa (uw (dH (name:=cZ "__next__") hT fI (cB fI hT nh (h _ _ fun v h' q=>⟨_,rfl,aj q⟩) (pD _))))
theorem xh{I:Addr}{Q:Option Value->Shared->Prop}(hT:s.TypeIs (.ref I) "set_iterator")(h:∀(Q':eA->Shared->Prop)(E':Value->Shared->Prop),(∀h' e,(∀c o,c≠I->s.heap.get? c=some o->h'.get? c=some o)->(∃o,h'.get? e=some o/\o.cls=.type "StopIteration")->E' (.ref e) {s with heap:=h'})->wpAny (model prog w) A.in1 (Builtin.«set_iterator.__next__» ⟨[.ref I],[]⟩) Q' E' s)
  (q:∀h',(∀c o,c≠I->s.heap.get? c=some o->h'.get? c=some o)->Q none {s with heap:=h'}):wpAny (model prog w) A (pyNext (.ref I)) Q E s:=by
 unfold pyNext;refine aa (uw (dH (name:=cZ "__next__") hT fI (cB fI hT nh (h _ _ fun h' e kp he=>?_) (pD _))));obtain⟨o,e1,e2⟩:=he;exact aa (jK (T:="StopIteration") (b:=true) ⟨o,e1,e2⟩ isSubtype_stop (aj (q _ kp)))
theorem xf{I:Addr}{Q:Value->Shared->Prop}(hT:s.TypeIs (.ref I) "set_iterator")(h:Q (.ref I) s):wpAny (model prog w) A (pyIter (.ref I)) Q E s:=by
 refine wpAny_pyIter_slot hT oF (cB oF hT uQ ?_ (yj _));show wpAny _ _ (ret (.ref I)) _ _ s;exact aj ⟨_,rfl,"set_iterator",_,hT,fI.lookup,h⟩
end
theorem jY.at{h h':Heap}{S:Addr}{es:Array (Int×Value)}{ep:Nat}{t:aM}(x:jY h S es ep t)(k:∀o,h.get? S=some o->h'.get? S=some o):jY h' S es ep t:=let⟨⟨o,a,b,c⟩,f⟩:=x;⟨⟨o,k o a,b,c⟩,f⟩
variable {prog:Program}{w:World}{A:Around}
theorem walkA(hh:A.handled=none)(hw:w.params.followText "set-order"=true){I S:Addr}(ne:S≠I)(es:Array (Int×Value))(ep:Nat)(t:aM):
  Walks prog w A I [I,S] [I] es.size (fun i v=>((iH (w.params.setOrder S ep) es).toList.map (·.2))[i]? =some v) (fun i h=>jY h S es ep t/\∃k:Nat,h.get? I=some (siO S (.int k 0) i es.size ep)) where
 sub:=fun b hb=>by simp at hb⊢;exact .inl hb
 frame:=fun i h h' ⟨x,k,e⟩ kp=>⟨x.at fun o q=>kp S (by simp) o q,k,kp I (by simp) _ e⟩
 item:=fun i s Q E hi ⟨x,k,e⟩ hQ=>by
  have hl:=(mC (w.params.setOrder S ep) es).length_eq;simp only[aO]at hl;have hx:(iH (w.params.setOrder S ep) es)[i]? =some ((iH (w.params.setOrder S ep) es)[i]'(by omega)):=by simp[show i<(iH (w.params.setOrder S ep) es).size by omega]
  refine xg ⟨_,e,rfl⟩ fun Q' E' q=>nextA hw e x hx fun h' e' sb=>q _ h' ?_;exact hQ _ h' s.toks (by simp[hx]) ⟨x.at fun o z=>sb.extBut S o ne z,k,e'⟩ fun b o hb z=>sb.extBut b o (by simpa using hb) z
 done:=fun s Q E ⟨x,k,e⟩ hQ=>xh ⟨_,e,rfl⟩ (fun Q' E' q=>endA (by simp[hh]) hw e x q) fun h' kp=>hQ h' s.toks fun b o hb z=>kp b o (by simpa using hb) z
 self:=fun i s Q E ⟨x,k,e⟩ q=>xf ⟨_,e,rfl⟩ q
theorem walkB(hh:A.handled=none)(hw:w.params.followText "set-order"=false){I S:Addr}(ne:S≠I)(es:Array (Int×Value))(ep:Nat)(t:aM)(hd:iU es t=false)(hl:t.led=true)(hT:hJ t):
  Walks prog w A I [I,S] [I] es.size (fun i v=>(es.toList.map (·.2))[i]? =some v) (fun i h=>jY h S es ep t/\∃k:Nat,cq t.place k=i/\h.get? I=some (siO S (.int k 0) i es.size ep)) where
 sub:=fun b hb=>by simp at hb⊢;exact .inl hb
 frame:=fun i h h' ⟨x,k,hk,e⟩ kp=>⟨x.at fun o q=>kp S (by simp) o q,k,hk,kp I (by simp) _ e⟩
 item:=fun i s Q E hi ⟨x,k,hk,e⟩ hQ=>by
  have hx:es[i]? =some es[i]:=by simp[hi]
  refine xg ⟨_,e,rfl⟩ fun Q' E' q=>nextB hw hd hl e x hk hx fun h' j hj e' sb=>q _ h' ?_;exact hQ _ h' s.toks (by simp[hx]) ⟨x.at fun o z=>sb.extBut S o ne z,j+1,BP hT.up hj,e'⟩ fun b o hb z=>sb.extBut b o (by simpa using hb) z
 done:=fun s Q E ⟨x,k,hk,e⟩ hQ=>xh ⟨_,e,rfl⟩ (fun Q' E' q=>endB (by simp[hh]) hw hd hl e x hk q) fun h' kp=>hQ h' s.toks fun b o hb z=>kp b o (by simpa using hb) z
 self:=fun i s Q E ⟨x,k,hk,e⟩ q=>xf ⟨_,e,rfl⟩ q
theorem walkC(hh:A.handled=none){I S T:Addr}(ne:S≠I)(neT:T≠I)(es:Array (Int×Value))(ep:Nat)(t:aM)(ps:List Nat)(hp:ps.Perm (aq es.size)):
  Walks prog w A I [I,S,T] [I] es.size (fun i v=>(ps.map fun p=>(es.getD p (0,.none)).2)[i]? =some v) (fun i h=>jY h S es ep t/\h.get? T=some {cls:=.type "tuple",data:=.seq (ps.map fun(i:Nat)=>rawInt i).toArray}/\h.get? I=some (siO S (.ref T) i es.size ep)) where
 sub:=fun b hb=>by simp at hb⊢;exact .inl hb
 frame:=fun i h h' ⟨x,z,e⟩ kp=>⟨x.at fun o q=>kp S (by simp) o q,kp T (by simp) _ z,kp I (by simp) _ e⟩
 item:=fun i s Q E hi ⟨x,z,e⟩ hQ=>by
  have hl:ps.length=es.size:=by rw[hp.length_eq,bq]
  have hil:i<ps.length:=by omega
  have hm:ps[i]<es.size:=aK.mp (hp.mem_iff.mp (bu hil));have hx:es[ps[i]]? =some es[ps[i]]:=by simp[hm]
  refine xg ⟨_,e,rfl⟩ fun Q' E' q=>nextC (p:=ps[i]) (tk:=0) e x z rfl (by simp[hil,rawInt]) hx fun h' e' sb=>q _ h' ?_;exact hQ _ h' s.toks (by simp[hil,hm]) ⟨x.at fun o y=>sb.extBut S o ne y,sb.extBut T _ neT z,e'⟩ fun b o hb y=>sb.extBut b o (by simpa using hb) y
 done:=fun s Q E ⟨x,z,e⟩ hQ=>xh ⟨_,e,rfl⟩ (fun Q' E' q=>endC (by simp[hh]) e x z rfl (by simp[hp.length_eq]) q) fun h' kp=>hQ h' s.toks fun b o hb y=>kp b o (by simpa using hb) y
 self:=fun i s Q E ⟨x,z,e⟩ q=>xf ⟨_,e,rfl⟩ q
end Q
namespace Q
open PySem PySem.Spec PySem.W PyProof.Rows L2
section
variable {prog:Program}{w:World}{A:Around}{E:Value->Shared->Prop}{s:Shared}
theorem ite_yes{α:Type}{M:Model}{b:Bool}{x y:Sem α}{Q:α->Shared->Prop}(hb:b=true)(h:wpAny M A x Q E s):wpAny M A (if b=true then x else y) Q E s:=by rw[if_pos hb];exact h
theorem zG{S:Addr}{Q:Bool->Shared->Prop}(hT:s.TypeIs (.ref S) "set")(h:Q false s):wpAny (model prog w) A (qu (.ref S)) Q E s:=by
 unfold qu;refine aa (BY hT F.slot_set_len.lookup ?_);generalize hid:("set.__len__":String)=id0
 (fail_if_success (clear hid id0))
 wp_delta
 rw[show splitId id0=some ("set","__len__")from by subst hid;decide+kernel];subst hid;refine aa (jK (b:=true) hT (by rw[EH];kernel_rfl) ?_);rw[if_neg (by decide)];refine ite_yes (by decide+kernel) (aa (pH hT ?_));exact aj h
noncomputable abbrev i9(acc:Array Value)(c:Nat):Obj:={cls:=.type "list",dict:=none,data:=.seq acc c,slots:= #[]}
theorem touch{L:Addr}{acc:Array Value}{c:Nat}{Q:Unit->Shared->Prop}(hL:s.heap.get? L=some (i9 acc c))(hz:acc.size<=5000)(h:∀h' c',h'.get? L=some (i9 acc c')->cO L s.heap h'->Q () {s with heap:=h'}):wpAny (model prog w) A (kM (.ref L)) Q E s:=by
 have hz1:acc.size<=sizeLine:=ba hz (by decide);unfold kM;refine aa (fQ hL rfl ?_ hz1 (by simp;omega));have e1:∃c1,(s.heap.update L (aY fun x=>x.push bL)).get? L=some (i9 (acc.push .none) c1):=⟨_,by rw[bK _ hL rfl];rfl⟩;obtain⟨c1,e1⟩:=e1;refine fQ (s:={s with heap:=s.heap.update L (aY fun x=>x.push bL)}) e1 rfl ?_ (by simp;exact ba (by omega:acc.size+1<=5001) (by decide)) (by simp;omega);have e2:∃c2,((s.heap.update L (aY fun x=>x.push bL)).update L (aY fun x=>x.pop)).get? L=some (i9 acc c2):=⟨_,by rw[bK _ e1 rfl];simp[aY];rfl⟩;obtain⟨c2,e2⟩:=e2;exact h _ c2 e2 ((bC ..).trans (bC ..))
theorem sZ{L I:Addr}{fp wr:List Addr}{n:Nat}{P:Nat->Value->Prop}{St:Nat->Heap->Prop}{res:Value}{c:Nat}{R:Result->Shared->Prop}{Qf:eA->Shared->Prop}(hq:∀c' s',c'.quiet=true/\gT (model prog w) A c' R s'->Qf (.again c') s')(W:Walks prog w A.in1 I fp wr n P St)(hn:n<=sizeLine)(hLf:L∉fp)(hL:s.heap.get? L=some (i9 #[] c))(st:St 0 s.heap)
  (h:∀s' acc c',(∀b o,b∉L::wr->s.heap.get? b=some o->s'.heap.get? b=some o)->s'.gens=s.gens->s'.drawn=s.drawn->s'.os=s.os->s'.heap.get? L=some (i9 acc c')->ItemsOf P acc n->R (.ok (.ret res)) s'):
  wpAny (model prog w) A.in1 (do
   rule "list.extend.makes-room"
   let __r<-kM (.ref L)
   (fun(__r:Unit)=>again (Code.builtin "list.extend.loop" {pos:=[aV L,aV I,res]})) __r) Qf E s:=by
 refine aa (gw (aa (touch hL (by simp) fun h1 c1 e1 sb=>?_)));have st1:=W.frame 0 s.heap h1 st fun b hb o e=>sb.extBut b o (fun z=>hLf (z▸hb)) e;refine aj (hq _ _ ⟨dw F.plain_extend_loop _,codeAny_extend_loopS W.toS hn _ hLf _ n 0 _ _ _ rfl (a7 _) st1 e1 (ItemsOf.nil P) fun s' acc' c' hm hS' hacc=>?_⟩);exact h s' acc' c' (fun b o hb e=>hm.heap b o hb (sb.extBut b o (fun z=>hb (by rw[z];exact aI)) e)) hm.gens hm.drawn hm.os hS' hacc
end
theorem Bt{vs:List Value}{acc:Array Value}(h:ItemsOf (fun i v=>vs[i]? =some v) acc vs.length):acc.toList=vs:=by
 obtain⟨h1,h2⟩:=h;apply cK
 ·simpa using h1
 ·intro i a b
  have :vs[i]? =some acc[i]:=h2 i acc[i] (by simp);rw[ae b]at this;simpa using(aT this).symm
theorem es_map(es:Array (Int×Value)):((aq es.size).map fun p=>(es.getD p (0,.none)).2)=es.toList.map (·.2):=by
 apply cK
 ·simp
 ·intro i a b
  have hi:i<es.size:=by simpa using a
  simp[hi]
section
variable {prog:Program}{w:World}{A:Around}{E:Value->Shared->Prop}{s:Shared}
theorem qI{S:Addr}{o:Obj}{es:Array (Int×Value)}{ep:Nat}{t:aM}{Q:List Value->Shared->Prop}(hh:A.handled=none)(ho:s.heap.get? S=some o)(hc:o.cls=.type "set")(hd:o.data=.set es ep t)(hf:t.fits es.size=true)(hsb:es.size<fX)(hT:hJ t)(hled:w.params.followText "set-order"=false->t.led=true)
  (hQ:∀(vs:List Value) s',vs.Perm (es.toList.map (·.2))->(∀b o,s.heap.get? b=some o->s'.heap.get? b=some o)->s'.gens=s.gens->s'.os=s.os->s.heap.objs.size<s'.heap.objs.size->Q vs s'):wpAny (model prog w) A (collect (.ref S)) Q E s:=by
 have hSl:S<s.heap.objs.size:=av ho;have hn:es.size<=sizeLine:=mS hsb;unfold collect;refine aa (wpAny_runValue (cL F.entry_proto_collect ?_));rw[bN F.plain_proto_collect _];show wpAny _ A.in1 (newList []>>=fun l=>again (.builtin "list.__iadd__" ⟨[l,.ref S],[]⟩)) _ _ s;refine aa (bx ?_);refine aj ⟨dw F.plain_list_iadd _,cL F.entry_list_iadd ?_⟩;rw[bN F.plain_list_iadd _];have hL:(s.heap.push (i9 #[] 0)).get? s.heap.objs.size=some (i9 #[] 0):=au _ rfl;have ho1:(s.heap.push (i9 #[] 0)).get? S=some o:=ah _ ho;have hz:(s.heap.push (i9 #[] 0)).objs.size=s.heap.objs.size+1:=cg ..;have hT1:Shared.TypeIs {s with heap:=s.heap.push (i9 #[] 0)} (.ref S) "set":=⟨o,ho1,hc⟩;show wpAny _ A.in1 (qv (.ref s.heap.objs.size) (.ref S) (.ref s.heap.objs.size)) _ _ {s with heap:=s.heap.push (i9 #[] 0)};unfold qv;refine aa (pH hT1 ?_);rw[if_neg (by simp[Builtin.List.listSameRef];exact dq hSl)];have fin:∀(vs:List Value)(s':Shared)(acc:Array Value)(c':Nat),vs.length=es.size->vs.Perm (es.toList.map (·.2))->(∀b o,s.heap.get? b=some o->s'.heap.get? b=some o)->s'.gens=s.gens->s'.os=s.os->s'.heap.get? s.heap.objs.size=some (i9 acc c')->ItemsOf (fun i v=>vs[i]? =some v) acc es.size->
   wpAny (model prog w) A (load s.heap.objs.size>>=fun x=>match x.data with |.seq xs _=>pure xs.toList|_=>unsupported "internal:collect") Q E s':=fun vs s' acc c' hl hp k1 k2 k3 e it=>by
  refine aa (wpAny_load e ?_);rw[<-hl]at it;have :=Bt it;exact aj (by rw[this];exact hQ vs s' hp k1 k2 k3 (av e))
 refine aa (Hf ho1 hc hd hf hsb (fun hm=>?_) fun hm ps d hp=>?_)
 ·rw[hz]
  refine aa (bf (zG ⟨o,ah _ ho1,hc⟩ ?_));refine ite_yes (by decide+kernel) ?_;have hI:((s.heap.push (i9 #[] 0)).push (siO S (.int 0 0) 0 es.size ep)).get? (s.heap.objs.size+1)=some (siO S (.int 0 0) 0 es.size ep):=by rw[<-hz];exact au _ rfl
  have hSA:jY ((s.heap.push (i9 #[] 0)).push (siO S (.int 0 0) 0 es.size ep)) S es ep t:=⟨⟨o,ah _ ho1,hc,hd⟩,hf⟩;have nfp:s.heap.objs.size∉[s.heap.objs.size+1,S]:=by
   simp only[aB,dy,or_false,not_or];exact⟨aJ (bT _),dq hSl⟩
  have kp:∀(s':Shared),(∀b o,b∉s.heap.objs.size::[s.heap.objs.size+1]->((s.heap.push (i9 #[] 0)).push (siO S (.int 0 0) 0 es.size ep)).get? b=some o->s'.heap.get? b=some o)->∀b o,s.heap.get? b=some o->s'.heap.get? b=some o:=fun s' k b o e=>by
   have hb:=av e;refine k b o ?_ (ah _ (ah _ e));simp only[aB,dy,or_false,not_or];exact⟨aJ hb,aJ (a9 hb)⟩
  cases hw:w.params.followText "set-order" with
  |true=>
   have hl:((iH (w.params.setOrder S ep) es).toList.map (·.2)).length=es.size:=by
    have :=(mC (w.params.setOrder S ep) es).length_eq
    simpa using this
   refine sZ (s:={s with heap:=(s.heap.push (i9 #[] 0)).push (siO S (.int 0 0) 0 es.size ep)}) (fun c' s' h=>h) (walkA (A:=A.in1) (by simp[hh]) hw (aJ (a9 hSl)) es ep t) hn nfp (ah _ hL) ⟨hSA,0,hI⟩ fun s' acc c' k1 k2 k3 k4 e it=>?_;exact fin _ s' acc c' hl ((mC (w.params.setOrder S ep) es).map _) (kp s' k1) k2 k4 e it
  |false=>
   have hdr:iU es t=false:=by rw[hw]at hm;simpa using hm
   refine sZ (s:={s with heap:=(s.heap.push (i9 #[] 0)).push (siO S (.int 0 0) 0 es.size ep)}) (fun c' s' h=>h) (walkB (A:=A.in1) (by simp[hh]) hw (aJ (a9 hSl)) es ep t hdr (hled hw) hT) hn nfp (ah _ hL) ⟨hSA,0,BO hT.up,hI⟩ fun s' acc c' k1 k2 k3 k4 e it=>?_;exact fin _ s' acc c' (by simp) (dW _) (kp s' k1) k2 k4 e it
 ·rw[hz]
  have hz2:((s.heap.push (i9 #[] 0)).push {cls:=.type "tuple",data:=.seq (ps.map fun(i:Nat)=>rawInt i).toArray}).objs.size=s.heap.objs.size+1+1:=by rw[cg,hz]
  have hT2:((s.heap.push (i9 #[] 0)).push {cls:=.type "tuple",data:=.seq (ps.map fun(i:Nat)=>rawInt i).toArray}).get? (s.heap.objs.size+1)=some {cls:=.type "tuple",data:=.seq (ps.map fun(i:Nat)=>rawInt i).toArray}:=by rw[<-hz];exact au _ rfl
  have ho2:((s.heap.push (i9 #[] 0)).push {cls:=.type "tuple",data:=.seq (ps.map fun(i:Nat)=>rawInt i).toArray}).get? S=some o:=ah _ ho1;have hL2:((s.heap.push (i9 #[] 0)).push {cls:=.type "tuple",data:=.seq (ps.map fun(i:Nat)=>rawInt i).toArray}).get? s.heap.objs.size=some (i9 #[] 0):=ah _ hL;have kp2:∀b o,s.heap.get? b=some o->((s.heap.push (i9 #[] 0)).push {cls:=.type "tuple",data:=.seq (ps.map fun(i:Nat)=>rawInt i).toArray}).get? b=some o:=fun b o e=>ah _ (ah _ e);generalize(s.heap.push (i9 #[] 0)).push {cls:=.type "tuple",data:=.seq (ps.map fun(i:Nat)=>rawInt i).toArray}=h2 at *;refine aa (bf (zG ⟨o,ah _ ho2,hc⟩ ?_));refine ite_yes (by decide+kernel) ?_;have hI:(h2.push (siO S (.ref (s.heap.objs.size+1)) 0 es.size ep)).get? (s.heap.objs.size+1+1)=some (siO S (.ref (s.heap.objs.size+1)) 0 es.size ep):=by rw[<-hz2];exact au _ rfl
  have nfp:s.heap.objs.size∉[s.heap.objs.size+1+1,S,s.heap.objs.size+1]:=by
   simp only[aB,dy,or_false,not_or];exact⟨aJ (a9 (bT _)),dq hSl,aJ (bT _)⟩
  have hl:(ps.map fun p=>(es.getD p (0,.none)).2).length=es.size:=by rw[ai,hp.length_eq,bq]
  refine sZ (s:={s with drawn:=d,heap:=h2.push (siO S (.ref (s.heap.objs.size+1)) 0 es.size ep)}) (fun c' s' h=>h) (walkC (A:=A.in1) (by simp[hh]) (aJ (a9 (a9 hSl))) (aJ (bT _)) es ep t ps hp) hn nfp (ah _ hL2)
   ⟨⟨⟨o,ah _ ho2,hc,hd⟩,hf⟩,ah _ hT2,hI⟩ fun s' acc c' k1 k2 k3 k4 e it=>?_
  refine fin _ s' acc c' hl ((hp.map _).trans (by rw[es_map])) (fun b o q=>?_) k2 k4 e it;have hb:=av q;refine k1 b o ?_ (ah _ (kp2 b o q));simp only[aB,dy,or_false,not_or];exact⟨aJ hb,aJ (a9 (a9 hb))⟩
end
theorem Eh{vs xs:List Value}(p:vs.Perm xs):∀{ks:List Int},cf xs ks->∃ms:List Int,ms.Perm ks/\cf vs ms:=by
 induction p with
 |nil=>intro ks h;exact⟨ks,dW _,h⟩
 |cons x p ih=>
  intro ks h;cases h with
  |cons k t h=>
   obtain⟨ms,a,b⟩:=ih h;exact⟨k::ms,a.cons k,.cons k t b⟩
 |swap x y l=>
  intro ks h;cases h with
  |cons k t h=>cases h with
   |cons k' t' h=>exact⟨k'::k::_,jI _ _ _,.cons k' t' (.cons k t h)⟩
 |trans p q ih1 ih2=>
  intro ks h;obtain⟨ms,a,b⟩:=ih2 h;obtain⟨ms',a',b'⟩:=ih1 b;exact⟨ms',a'.trans a,b'⟩
section
variable {prog:Program}{w:World}{A:Around}{E:Value->Shared->Prop}{s:Shared}
theorem AV{S:Addr}{o:Obj}{es:Array (Int×Value)}{ep:Nat}{t:aM}{ks:List Int}{Q:Value->Shared->Prop}(hh:A.handled=none)(ho:s.heap.get? S=some o)(hc:o.cls=.type "set")(hd:o.data=.set es ep t)(hf:t.fits es.size=true)(h64:es.size<64)(hT:hJ t)(hled:w.params.followText "set-order"=false->t.led=true)
  (hk:cf (es.toList.map (·.2)) ks)(nd:ks.Nodup)
  (h:∀(ms:List Int)(vs:List Value)(s':Shared)(l:Addr)(c:Nat),ms.Perm ks->cf vs ms->(∀b o,s.heap.get? b=some o->s'.heap.get? b=some o)->s'.gens=s.gens->s'.os=s.os->s.heap.objs.size<=l->s'.heap.get? l=some (seqObj "list" (fF (ltI ms) vs).toArray c)->Q (.ref l) s'):
  wpAny (model prog w) A (call (.builtin "sorted") [.ref S]) Q E s:=by
 refine gW Aq yo yr (args_sorted1 _) ?_;unfold Builtin.«sorted»;refine aa (m:=EK "sorted" 1 1 _) (aj (aa (qI (by simp[hh]) ho hc hd hf (fY h64 (by decide)) hT hled fun vs s' hp kp k2 k3 k4=>aa (j4 ?_ ?_))))
 ·obtain⟨ms,m1,m2⟩:=Eh hp hk
  have hl:vs.length=ms.length:=m2.length;have hv:vs.length<64:=by
   have :=hp.length_eq
   simp at this;omega
  have hg:(s'.heap.push (seqObj "list" vs.toArray 0)).get? s'.heap.objs.size=some (seqObj "list" vs.toArray 0):=au _ rfl;have ndm:ms.Nodup:=m1.nodup_iff.mpr nd;show wpAny _ _ _ _ _ {s' with heap:=s'.heap.push (seqObj "list" vs.toArray 0)};refine aa (bf (cB rm ⟨_,hg,rfl⟩ pM (xa (lt:=ltI ms) (h0:=s'.heap) (by rw[hl];exact Du ndm) hg (fun b o e=>⟨ah _ e,aJ (av e)⟩) hv (fun h2=>wt m2 h2) ⟨_,rfl,?_⟩) (EL _)));refine aj ⟨_,rfl,?_⟩;obtain⟨c,hc'⟩:=sortedHeap_at (out:=(fF (ltI ms) vs).toArray) hg;refine h ms vs _ _ c m1 m2 (fun b o e=>?_) k2 k3 (hU k4) hc';have e':=kp b o e;have hb:=av e';show(EF (s'.heap.push (seqObj "list" vs.toArray 0)) s'.heap.objs.size vs (fF (ltI ms) vs).toArray).get? b=some o;rw[sortedHeap_old (aJ hb) (by rw[uY];exact a9 hb)];exact ah _ e'
 ·have :=hp.length_eq
  simp at this;exact ba (by omega:vs.length<=64) (by decide)
end
theorem GV(ks:List Key):(met ks).Nodup:=by
 unfold met;have g:∀(l acc:List Key),acc.Nodup->(l.foldl more acc).Nodup:=by
  intro l
  induction l with
  |nil=>exact fun _ h=>h
  |cons k l ih=>
   intro acc h;refine ih _ ?_;unfold more;split
   ·exact h
   ·rename_i c
    refine de.mpr ⟨h,by simp,fun a ha b hb=>?_⟩;rw[aC]at hb;subst hb;intro z;subst z;exact c (jj.mpr ha)
 exact g ks [] gJ
theorem vt{α:Type}[DecidableEq α]:∀{m l:List α},m.Nodup->(∀x∈m,x∈l)->l.length=m.length->l.Perm m
 | [],l,_,_,h=>by
  rw[m7]at h;rw[List.eq_nil_of_length_eq_zero h]
 |a::m,l,nd,hs,h=>by
  have ha:a∈l:=hs a aI;have p:=EX ha;rw[bU]at nd;have hl:=p.length_eq;rw[bS]at hl h;have q:=vt (m:=m) (l:=l.erase a) nd.2 (fun x hx=>(ou (fun z:x=a=>nd.1 (by rw[<-z];exact hx))).mpr (hs x (aH _ hx))) (by omega);exact p.trans (q.cons a)
section
variable {prog:Program}{w:World}
theorem rM{k:Int}{v:Value}(h:(aZ prog w).is (.inl k) v=true):∃t,v=.int k t:=by
 rw[sW]at h;exact rC (k:=k) (v:=v) h
theorem rL{l:List (Int×Value)}(h:ElemsOf (aZ prog w) l)(hi:∀e∈l,∀k,(aZ prog w).is k e.2=true->∃n:Int,k=.inl n):∃ms:List Int,cf (l.map (·.2)) ms:=by
 induction l with
 |nil=>exact⟨[],.nil⟩
 |cons e l ih=>
  obtain⟨ms,r⟩:=ih h.tail fun e' he'=>hi e' (aH _ he');obtain⟨⟨k,hk,_⟩,_⟩:=h.head;obtain⟨n,rfl⟩:=hi e aI k hk;obtain⟨t,e2⟩:=rM hk;refine⟨n::ms,?_⟩;rw[bp,e2];exact .cons n t r
theorem Hj:∀{vs:List Value}{ms:List Int},cf vs ms->∀n,n∈ms↔∃v∈vs,(aZ prog w).is (.inl n) v=true:=by
 intro vs ms r
 induction r with
 |nil=>simp
 |cons k t r ih=>
  intro n;rw[aB,ih n];constructor
  ·rintro(rfl|⟨v,hv,e⟩)
   ·exact⟨_,aI,lX _ _ _ _⟩
   ·exact⟨v,aH _ hv,e⟩
  ·rintro⟨v,hv,e⟩
   rcases aB.mp hv with rfl|hv
   ·obtain⟨t',e'⟩:=rM e
    cases e';exact .inl rfl
   ·exact .inr ⟨v,hv,e⟩
theorem DC{h:Heap}{a:Addr}{ns:List Int}{led:Bool}(x:pF (aZ prog w) h a (has (met (ns.map .inl))) (met (ns.map .inl)).length led):
  ∃o es ep t ms,h.get? a=some o/\o.cls=.type "set"/\o.data=.set es ep t/\t.fits es.size=true/\es.size<=ns.length/\hJ t/\t.led=led/\cf (es.toList.map (·.2)) ms/\ms.Nodup/\∀n,n∈ms↔n∈ns:=by
 obtain⟨o,es,ep,t,ho,hx,hd,hl,hm,hb,hf,hn,hT,hL⟩:=x;have hle:=GW (ns.map (eX:Int->Key));rw[ai]at hle;have inl:∀e∈es.toList,∀k,(aZ prog w).is k e.2=true->∃n:Int,n∈ns/\k=.inl n:=fun e he k hk=>by
  have :=lh.mp (jj.mp ((hm k).mpr ⟨e,he,hk⟩))
  obtain⟨n,hn,rfl⟩:=ao.mp this;exact⟨n,hn,rfl⟩
 obtain⟨ms,r⟩:=rL hl fun e he k hk=>let⟨n,_,e⟩:=inl e he k hk;⟨n,e⟩;have mem:∀n,n∈ms↔n∈ns:=fun n=>by
  rw[Hj (prog:=prog) (w:=w) r n];constructor
  ·rintro⟨v,hv,e⟩
   obtain⟨e',he',rfl⟩:=ao.mp hv;obtain⟨n',hn',z⟩:=inl e' he' _ e;cases z;exact hn'
  ·intro h
   obtain⟨e,he,hk⟩:=(hm (.inl n)).mp (jj.mpr (lh.mpr (bY h)));exact⟨e.2,bY he,hk⟩
 have len:ms.length=es.size:=by
  have :=r.length
  simp at this;omega
 have p:(ms.map (eX:Int->Key)).Perm (met (ns.map .inl)):=vt (GV _) (fun x hx=>by
  obtain⟨n,hn,rfl⟩:=ao.mp (lh.mp hx);exact bY ((mem n).mpr hn)) (by rw[ai];omega)
 have nd:(ms.map (eX:Int->Key)).Nodup:=p.nodup_iff.mpr (GV _);exact⟨o,es,ep,t,ms,ho,hx.1,hd,hf,by omega,hT,hL,r,(bQ.mp nd).imp fun h z=>h (congrArg _ z),mem⟩
end
end Q
namespace L2
open PySem PySem.Spec PyProof.Rows Q
section
variable {X:Cx}
theorem Inv.same{pins:List (Addr×Obj)}{σ:List (Option V)}{H:Hp}{s s':Shared}(I:Inv X pins σ H s)(h1:s'.heap=s.heap)(h2:s'.gens=s.gens)(h3:s'.os=s.os):Inv X pins σ H s':=by
 obtain⟨h,g,d,t,o⟩:=s;obtain⟨h',g',d',t',o'⟩:=s';obtain rfl:h'=h:=h1;obtain rfl:g'=g:=h2;obtain rfl:o'=o:=h3;exact⟨I.ok,I.os,I.bare,I.base,I.loc,I.cell,I.free,I.freeC,I.pin,I.hok,I.len⟩
noncomputable def yS(K:af)(ta:TA):TE:=fun σ H Q=>ta σ H fun vs H1=>∃(p:Addr)(ns:List Int),vs=[V.ref p]/\SqL K H1 p (ns.map V.int)/\ns.length<64/\
 ∀(ms:List Int) l,ms.Nodup->(∀x,x∈ms↔x∈ns)->H1 l=none->Q (.ref l) (upd H1 l (.lst (sortI ms)))
theorem pB:fL "sorted"=some (.builtin "sorted"):=by decide+kernel
theorem wb:fL "set"=some (.type "set"):=by decide+kernel
theorem A7{a:Expr}{ta:TA}{p p' pos pos':Pos}(hc:X.calm=true)(hg:Gl X "sorted")(hm:X.mg "sorted"=none)(hg':Gl X "set")(hm':X.mg "set"=none)(ha:PA X [a] ta)(hs:bP [a] X.env=[(false,eval a X.env)]:=by rfl):
  PE X (.Call (.Name "sorted" p) [.Call (.Name "set" p') [a] [] pos'] [] pos) (yS X.K ta):=by
 intro pins s σ H Q I h;refine Call_ (iR I hg hm pB (iL (kF ?_) rfl rfl));refine Call_ (iR I hg' hm' wb (cu (thn (ha pos' pins s σ H _ I h) fun us s1 ⟨vs,H1,I1,r1,q1⟩=>?_) hs rfl));obtain⟨pl,ns,e,hq,h64,q⟩:=q1;subst e;obtain⟨u,rfl,rx⟩:=vals1 r1;cases rx;obtain⟨its,r',plist,_⟩:=I1.list hq;have hlen:=r'.length;rw[ai]at hlen;have r2:bO ((ns.map (eX:Int->Key)).map kV) its:=by
  rw[bg];exact r'
 refine vm (ks:=ns.map .inl) (I1.ok.hd hc) plist.isList (by rw[ay,ai];exact hlen) (fun i v e=>xP r2 i v (by simpa using e)) (by rw[ay,<-hlen];unfold fX;omega) fun h' tk hS kp=>?_;obtain⟨o,es,ep,t,ms,ho,hx,hd,hf,hsz,hT,hL,r,nd,mem⟩:=DC hS;refine aj ?_;refine AV (s:={s1 with heap:=h',toks:=tk}) (I1.ok.hd hc) ho hx hd hf (by omega) hT (fun z=>by rw[hL,z];rfl) r nd fun ms' vs s' l c hp hv kp' k2 k3 k4 k5=>?_;have nd':ms'.Nodup:=hp.nodup_iff.mpr nd;have hlm:ms'.length=es.size:=by
  have a1:=hp.length_eq;have a2:=r.length;simp at a2;omega
 have kk:∀b o,s1.heap.get? b=some o->s'.heap.get? b=some o:=fun b o e=>kp' b o (kp b o (av e) e);have hlt:s1.heap.objs.size<h'.objs.size:=av ho;have hle:s1.heap.objs.size<=l:=ba (hU hlt) k4;have hz2:(sortI ms').length<=sizeLine:=by
  unfold sortI;rw[ai,zo nd'];exact fm (by omega)
 exact⟨.ref l,_,(I1.laid (h':=s'.heap) (t':=s1.toks) kk hle (show dQ X.prog X.w _ _ _ (.lst (sortI ms'))from⟨hz2,_,c,outI nd' (pR hv),k5⟩)).same rfl k2 k3,rfl,q _ _ nd' (fun x=>(hp.mem_iff).trans (mem x)) (I1.hok.fresh hle)⟩
end
end L2
namespace TB
open PySem PySem.Spec PySem.W PyProof.Rows L2 Q
section
variable {prog:Program}{w:World}{A:Around}{R:Result->Shared->Prop}{I:Addr}{fp wr:List Addr}{G:Array kD->Array kD->Prop}{n:Nat}{P:Nat->Value->Prop}{St:Nat->Shared->Prop}
theorem mr.keep{T:Addr->Prop}{h h':Heap}{S:Addr}{kb:List (List Int×Addr)}{o:Obj}{es:Array (Int×Value)}{ep:Nat}{t:aM}(k:∀b o,(b=S\/T b)->h.get? b=some o->h'.get? b=some o)(x:mr prog w T h S kb o es ep t):mr prog w T h' S kb o es ep t:=
 ⟨k S o (.inl rfl) x.ho,x.ex,x.hd,x.tb,x.pl,x.dm,x.es_,x.nd,fun y hy=>⟨D8.l6 (fun o ho=>k y.2 o (.inr (x.tu y hy).2) ho) (x.tu y hy).1,(x.tu y hy).2⟩,x.lo⟩
theorem loopT{led:Bool}(W:WalksS prog w A.in1 I fp wr G n P St)(hu:A.in1.units<cLine)(S:Addr)(hSf:S∉fp)(ps:List (List Int))(as:List Addr)(hn:ps.length=n)(h18:n<=18)(hal:as.length=ps.length)(hv:∀i v,P i v->∃a q,as[i]? =some a/\ps[i]? =some q/\v=.ref a)(hf:∀a∈as,a∉fp):
  ∀(m i:Nat)(s:Shared)(kb:List (List Int×Addr))(o:Obj)(es:Array (Int×Value))(ep:Nat)(t:aM),n-i=m->i<=n->St i s->kb.length<=i->(∀r,r∈kb.map (·.1)↔r∈ps.take i)->t.led=led->mr prog w (·∈as) s.heap S kb o es ep t->(∀(i:Nat) a q,as[i]? =some a->ps[i]? =some q->cn (aZ prog w) s.heap (ky q) a)->
   (∀s' kb' o' es' ep' t',Moved (S::wr) G s s'->kb'.length<=n->(∀r,r∈kb'.map (·.1)↔r∈ps)->t'.led=led->mr prog w (·∈as) s'.heap S kb' o' es' ep' t'->R (.ok (.ret .none)) s')->
   gT (model prog w) A (.builtin "set.update.loop" ⟨[.ref S,.ref I],[]⟩) R s
 | 0,i,s,kb,o,es,ep,t,hm,hi,st,hkl,hks,hle,hS,hT,hR=>by
  obtain rfl:i=n:=by omega
  rw[<-hn,eQ]at hks;refine cL dX ?_;rw[bN cz _];show wpAny _ A.in1 (pyNext (.ref I)>>=_) _ _ s;refine aa (W.done s _ _ st fun s' mv=>?_);refine aj (hR s' kb o es ep t (mv.mono fun b hb=>aH _ hb) hkl hks hle (hS.keep fun b o hb e=>mv.heap b o (fun z=>?_) e));rcases hb with rfl|hb
  ·exact hSf (W.sub _ z)
  ·exact hf b hb (W.sub _ z)
 |m+1,i,s,kb,o,es,ep,t,hm,hi,st,hkl,hks,hle,hS,hT,hR=>by
  have hlt:i<n:=by omega
  refine cL dX ?_;rw[bN cz _];show wpAny _ A.in1 (pyNext (.ref I)>>=_) _ _ s;refine aa (W.item i s _ _ hlt st fun v s' hP st' mv=>?_);obtain⟨a,q,ha,hq',rfl⟩:=hv i v hP;have kp:∀b o,(b=S\/b∈as)->s.heap.get? b=some o->s'.heap.get? b=some o:=fun b o hb e=>mv.heap b o (fun z=>by
   rcases hb with rfl|hb
   ·exact hSf (W.sub _ z)
   ·exact hf b hb (W.sub _ z)) e
  have hS1:=hS.keep kp;have ham:a∈as:=aG ha;have hT1:∀(i:Nat) a q,as[i]? =some a->ps[i]? =some q->cn (aZ prog w) s'.heap (ky q) a:=fun i a q e1 e2=>D8.l6 (fun o e=>kp a o (.inr (aG e1)) e) (hT i a q e1 e2);have hk:=hT1 i a q ha hq';show wpAny _ A.in1 (holding [aV a] (setAdd S (.ref a))>>=_) _ _ s';refine aa (bf ?_);unfold setAdd;refine bf (aa (wpAny_pyHash_tuple hu hk ?_));refine addT (T:=(·∈as)) (q:=q) (s:={s' with toks:=s'.toks+((ky q).length+1)}) hu hS1 hk ham (by omega) fun b h' kb' o' es' ep' t' hks' hkl' hle' hsb hS2=>?_;have et:ps.take (i+1)=ps.take i++[q]:=by rw[dc,hq'];rfl
  have nS:∀b∈as,b≠S:=fun b hb e=>by
   obtain⟨j,hj⟩:=bJ.mp hb;cases hjq:ps[j]? with
   |some r=>
    obtain⟨o',items,n',ho',hc,hd',hi'⟩:=hT1 j b r hj hjq;rw[e]at ho';obtain rfl:o'=o:=aT (ho'.symm.trans hS1.ho);rw[hS1.hd]at hd';exact nomatch hd'
   |none=>
    have h1:=Ak.mp hjq;have h2:=(aF.mp hj).1;omega
  refine aj ⟨dw cz _,loopT W hu S hSf ps as hn h18 hal hv hf m (i+1) _ kb' o' es' ep' t' (by omega) hlt (W.frame _ s' _ _ st' (cQ _ _) fun b hq o e=>?_) (by omega) (fun r=>?_) (hle'.trans hle) hS2 (fun j a' q' e1 e2=>?_) fun s'' kb'' o'' es'' ep'' t'' mv2 ho3 hk3 hl3 hS4=>?_⟩
  ·rw[hsb.2 b (fun z:b=S=>hSf (by rw[<-z];exact hq))]
   exact e
  ·rw[hks',hks,et,bF,aC]
  ·refine D8.l6 (fun o e=>?_) (hT1 j a' q' e1 e2)
   rw[hsb.2 a' (nS a' (aG e1))];exact e
  ·refine hR s'' kb'' o'' es'' ep'' t'' (k9 W.gtrans ((mv.mono fun b hb=>aH _ hb).then_heap (cQ _ _) fun b o hq e=>?_) mv2) ho3 hk3 hl3 hS4
   rw[hsb.2 b (fun z:b=S=>hq (by rw[z];exact aI))];exact e
end
section
variable {prog:Program}{w:World}{A:Around}{E:Value->Shared->Prop}{s:Shared}
theorem DB{l:Addr}{items:Array Value}{ps:List (List Int)}{as:List Addr}{Q:Value->Shared->Prop}(hh:A.handled=none)(hu:A.units+5<cLine)(hl:s.heap.IsList l items)(h18:ps.length<=18)(hal:as.length=ps.length)(hit:items.toList=as.map aV)
  (hT:∀(i:Nat) a q,as[i]? =some a->ps[i]? =some q->cn (aZ prog w) s.heap (ky q) a)
  (h:∀(h':Heap)(tk:Nat) kb o es ep t,kb.length<=18->(∀r,r∈kb.map (·.1)↔r∈ps)->t.led=(!w.params.followText "set-order")->mr prog w (·∈as) h' s.heap.objs.size kb o es ep t->(∀b o,b<s.heap.objs.size->s.heap.get? b=some o->h'.get? b=some o)->Q (.ref s.heap.objs.size) {s with heap:=h',toks:=tk}):
  wpAny (model prog w) A (call (.type "set") [.ref l]) Q E s:=by
 obtain⟨ol,hol,hcl,_⟩:=id hl;have hlt:l<s.heap.objs.size:=av hol;have hln:ps.length=items.size:=by rw[<-hal,<-aO,hit,ai]
 refine vo (P:=fun led h'=>∃kb o es ep t,kb.length<=18/\(∀r,r∈kb.map (·.1)↔r∈ps)/\t.led=led/\mr prog w (·∈as) h' s.heap.objs.size kb o es ep t) hl (fun led R hR=>?_) fun h' tk ⟨kb,o,es,ep,t,h1,h2,h3,h4⟩ h5=>h h' tk kb o es ep t h1 h2 h3 h4 h5;have h3:A.in1.in1.in1.handled=none:=by simp[hh]
 have hz:(s.heap.push (i8 led)).objs.size=s.heap.objs.size+1:=cg _ _;have hne:l≠(s.heap.push (i8 led)).objs.size:=by rw[hz];exact aJ (a9 hlt)
 have hnf:s.heap.objs.size∉[(s.heap.push (i8 led)).objs.size,l]:=by
  rw[hz];intro z;rcases aB.mp z with z|z
  ·exact aJ (bT _) z
  ·exact dq hlt (aC.mp z)
 have hfp:∀a∈as,a∉[(s.heap.push (i8 led)).objs.size,l]:=fun a ha z=>by
  obtain⟨j,hj⟩:=bJ.mp ha;have hj2:j<ps.length:=by rw[<-hal];exact(aF.mp hj).1
  obtain⟨o,its,n,ho,hc,_⟩:=hT j a _ hj (ae hj2);rcases aB.mp z with z|z
  ·exact absurd (av ho) (by rw[z,hz];exact gQ.mpr (d8 _))
  ·rw[aC.mp z,hol]at ho
   rw[<-aT ho,hcl]at hc;exact absurd hc (by decide)
 have hS:(s.heap.push (i8 led)).get? s.heap.objs.size=some (i8 led):=au _ rfl;refine loopT (led:=led) ((ID h3 _ l hne items).toS) (show A.units+1+1+1<cLine by omega) s.heap.objs.size hnf ps as hln (by omega) hal (fun i v hv=>?_) hfp (items.size-0) 0 _ [] (i8 led) #[] 0 (aM.fresh 0 0 led) (by omega) (a7 _) ⟨⟨_,au _ rfl,rfl,rfl⟩,(hl.push _).push _⟩ (a7 _) (fun r=>by simp) rfl ⟨ah _ hS,⟨rfl,rfl,rfl⟩,rfl,⟨⟨jz,rfl⟩,(by rw[eR];rfl),.inl rfl,a7 _,fun i h hp=>(by simp at hp)⟩,rfl,rfl,rfl,gJ,fun x hx=>(by cases hx),fun _=>a7 _⟩ (fun i a q e1 e2=>D8.l6 (fun o e=>ah _ (ah _ e)) (hT i a q e1 e2)) fun s' kb' o' es' ep' t' mv hor' hks' hl' hS'=>hR s' mv ⟨kb',o',es',ep',t',by omega,hks',hl',hS'⟩;have hv':items.toList[i]? =some v:=by simpa using hv
 rw[hit,ak]at hv';cases ea:as[i]? with
 |none=>rw[ea]at hv';exact nomatch hv'
 |some a=>
  rw[ea]at hv';have hj2:i<ps.length:=by rw[<-hal];exact(aF.mp ea).1
  exact⟨a,_,rfl,ae hj2,(aT hv').symm⟩
end
theorem Gh{α β:Type}{f:α->β}{vs:List β}{l:List α}(p:vs.Perm (l.map f)):∃l':List α,vs=l'.map f/\l'.Perm l:=by
 have g:∀{u v:List β},u.Perm v->∀l:List α,v=l.map f->∃l':List α,u=l'.map f/\l'.Perm l:=by
  intro u v p
  induction p with
  |nil=>intro l e;exact⟨l,e,.refl _⟩
  |cons x p ih=>
   intro l e;cases l with
   |nil=>cases e
   |cons y l=>
    simp only[bp,rD]at e;obtain⟨l',a,b⟩:=ih l e.2;exact⟨y::l',by rw[bp,<-e.1,a],b.cons y⟩
  |swap x y u=>
   intro l e
   match l,e with
   |a::b::l,e=>
    simp only[bp,rD]at e;exact⟨b::a::l,by rw[bp,bp,<-e.1,<-e.2.1,e.2.2],jI _ _ _⟩
  |trans p q ih1 ih2=>
   intro l e;obtain⟨l1,a,b⟩:=ih2 l e;obtain⟨l2,a',b'⟩:=ih1 l1 a;exact⟨l2,a',b'.trans b⟩
 exact g p l rfl
section
variable {prog:Program}{w:World}{A:Around}{E:Value->Shared->Prop}{s:Shared}
theorem qF{h h':Heap}(k:∀b o,h.get? b=some o->h'.get? b=some o){vs:List Value}{ps:List (List Int)}(r:jG h vs ps):jG h' vs ps:=by
 unfold jG at *
 induction r with
 |nil=>exact .nil
 |cons y t ih=>
  obtain⟨a,o,its,n,e0,e1,e2⟩:=y;exact .cons ⟨a,o,its,n,e0,k _ _ e1,e2⟩ ih
theorem yZ{S:Addr}{o:Obj}{es:Array (Int×Value)}{ep:Nat}{t:aM}{Q:Value->Shared->Prop}(hh:A.handled=none)(ho:s.heap.get? S=some o)(hc:o.cls=.type "set")(hd:o.data=.set es ep t)(hf:t.fits es.size=true)(h64:es.size<64)(hT:hJ t)(hled:w.params.followText "set-order"=false->t.led=true)
  {kb:List (List Int×Addr)}(hk:es.toList.map (·.2)=kb.map fun x=>aV x.2)(nd:(kb.map (·.1)).Nodup){m:Nat}(hm:∀x∈kb,x.1.length=m)(hi:∀kb':List (List Int×Addr),kb'.Perm kb->jG s.heap (kb'.map fun x=>aV x.2) (kb'.map (·.1)))
  (h:∀(kb':List (List Int×Addr))(s':Shared)(l:Addr)(c:Nat),kb'.Perm kb->(∀b o,s.heap.get? b=some o->s'.heap.get? b=some o)->s'.gens=s.gens->s'.os=s.os->s.heap.objs.size<=l->s'.heap.get? l=some (seqObj "list" (fF (ltL (kb'.map (·.1))) (kb'.map fun x=>aV x.2)).toArray c)->Q (.ref l) s'):
  wpAny (model prog w) A (call (.builtin "sorted") [.ref S]) Q E s:=by
 refine gW Aq yo yr (args_sorted1 _) ?_;unfold Builtin.«sorted»;refine aa (m:=EK "sorted" 1 1 _) (aj (aa (qI (by simp[hh]) ho hc hd hf (fY h64 (by decide)) hT hled fun vs s' hp kp k2 k3 k4=>aa (j4 ?_ ?_))))
 ·rw[hk]at hp
  obtain⟨kb',e,pm⟩:=Gh hp;subst e;have hl:(kb'.map fun x:List Int×Addr=>aV x.2).length=(kb'.map (·.1)).length:=by simp
  have hv:(kb'.map fun x:List Int×Addr=>aV x.2).length<64:=by
   have a:=congrArg jy hk;have b:=pm.length_eq;simp at a⊢;omega
  generalize hvs:(kb'.map fun x:List Int×Addr=>aV x.2)=vs at *;have hg:(s'.heap.push (seqObj "list" vs.toArray 0)).get? s'.heap.objs.size=some (seqObj "list" vs.toArray 0):=au _ rfl;have ndm:(kb'.map (·.1)).Nodup:=(pm.map _).nodup_iff.mpr nd;have hio:jG s'.heap vs (kb'.map (·.1)):=by rw[<-hvs];exact qF kp (hi kb' pm)
  show wpAny _ _ _ _ _ {s' with heap:=s'.heap.push (seqObj "list" vs.toArray 0)};refine aa (bf (cB rm ⟨_,hg,rfl⟩ pM (xa (lt:=ltL (kb'.map (·.1))) (h0:=s'.heap) (by rw[hl];exact Dt ndm) hg (fun b o e=>⟨ah _ e,aJ (av e)⟩) hv (fun h2=>pC ndm hl hio h2 (m:=m) (fun k hk=>?_)) ⟨_,rfl,?_⟩) (EL _)))
  ·obtain⟨x,hx,rfl⟩:=ao.mp hk
   exact hm x (pm.mem_iff.mp hx)
  refine aj ⟨_,rfl,?_⟩;obtain⟨c,hc'⟩:=sortedHeap_at (out:=(fF (ltL (kb'.map (·.1))) vs).toArray) hg;refine h kb' _ _ c pm (fun b o e=>?_) k2 k3 (hU k4) (by rw[hvs];exact hc');have e':=kp b o e;have hb:=av e';show(EF (s'.heap.push (seqObj "list" vs.toArray 0)) s'.heap.objs.size vs (fF (ltL (kb'.map (·.1))) vs).toArray).get? b=some o;rw[sortedHeap_old (aJ hb) (by rw[uY];exact a9 hb)];exact ah _ e'
 ·have :=hp.length_eq
  simp at this;exact ba (by omega:vs.length<=64) (by decide)
end
end TB
namespace L2
open PySem PySem.Spec PyProof.Rows Q
section
variable {X:Cx}
noncomputable def pT(K:af)(ta:TA):TE:=fun σ H Q=>ta σ H fun vs H1=>∃(p:Addr)(ys:List V)(ps:List (List Int))(m:Nat),vs=[V.ref p]/\SqL K H1 p ys/\ps.length<=18/\(∀k∈ps,k.length=m)/\IntKeys H1 ys ps/\
 ∀(zs:List V)(qs:List (List Int)) l,qs.Nodup->(∀x,x∈qs↔x∈ps)->IntKeys H1 zs qs->H1 l=none->Q (.ref l) (upd H1 l (.lst (cF .non qs zs)))
theorem ik_refs{H:Hp}{ys:List V}{ps:List (List Int)}(h:IntKeys H ys ps):∃as:List Addr,ys=as.map V.ref/\as.length=ps.length/\∀(i:Nat) a q,as[i]? =some a->ps[i]? =some q->H a=some (.tup (q.map V.int)):=by
 unfold Q.IntKeys at h
 induction h with
 |nil=>exact⟨[],rfl,rfl,fun i a q e=>by simp at e⟩
 |cons y t ih=>
  obtain⟨a,rfl,e⟩:=y;obtain⟨as,rfl,el,g⟩:=ih;refine⟨a::as,rfl,by simp[el],fun i b q e1 e2=>?_⟩;cases i with
  |zero=>simp at e1 e2;rw[<-e1,<-e2];exact e
  |succ i=>simp at e1 e2;exact g i b q e1 e2
theorem Fb:∀{as:List Addr}{its:List Value},bO (as.map V.ref) its->its=as.map aV:=by
 intro as
 induction as with
 |nil=>intro its r;cases r;rfl
 |cons a as ih=>
  intro its r;cases r with
  |cons r0 r=>cases r0;rw[ih r];rfl
theorem p7:∀(kb:List (List Int×Addr)),bO (kb.map fun x=>V.ref x.2) (kb.map fun x=>aV x.2)
 | []=>.nil
 |x::kb=>.cons rfl (p7 kb)
theorem Hm{H:Hp}:∀{kb:List (List Int×Addr)},(∀x∈kb,H x.2=some (.tup (x.1.map V.int)))->IntKeys H (kb.map fun x=>V.ref x.2) (kb.map (·.1))
 | [],_=>.nil
 |x::kb,h=>.cons ⟨x.2,rfl,h x aI⟩ (Hm fun y hy=>h y (aH _ hy))
theorem tk_inj{prog:Program}{w:World}{h:Heap}{p q:List Int}{a:Addr}(x:cn (aZ prog w) h (TB.ky p) a)(y:cn (aZ prog w) h (TB.ky q) a):p=q:=by
 obtain⟨o,its,n,ho,hc,hd,hi⟩:=x;obtain⟨o',its',n',ho',hc',hd',hi'⟩:=y;obtain rfl:o=o':=aT (ho.symm.trans ho');rw[hd]at hd';cases hd';have :∀{p q:List Int}{vs:List Value},ItemsAre (aZ prog w) (TB.ky p) vs->ItemsAre (aZ prog w) (TB.ky q) vs->p=q:=by
  intro p
  induction p with
  |nil=>intro q vs h1 h2;cases h1;cases q with
   |nil=>rfl
   |cons k q=>cases h2
  |cons k p ih=>
   intro q vs h1 h2;cases h1 with
   |cons e1 h1=>
    cases q with
    |nil=>cases h2
    |cons k' q=>
     cases h2 with
     |cons e2 h2=>
      obtain⟨t,rfl⟩:=rM e1;obtain⟨t',e⟩:=rM e2;cases e;rw[ih h1 h2]
 exact this hi hi'
theorem zh{a:Expr}{ta:TA}{p p' pos pos':Pos}(hc:X.calm=true)(hu:X.A.units+50<cLine)(hg:Gl X "sorted")(hm:X.mg "sorted"=none)(hg':Gl X "set")(hm':X.mg "set"=none)(ha:PA X [a] ta)(hs:bP [a] X.env=[(false,eval a X.env)]:=by rfl):
  PE X (.Call (.Name "sorted" p) [.Call (.Name "set" p') [a] [] pos'] [] pos) (pT X.K ta):=by
 intro pins s σ H Q I h;refine Call_ (iR I hg hm pB (iL (kF ?_) rfl rfl));refine Call_ (iR I hg' hm' wb (cu (thn (ha pos' pins s σ H _ I h) fun us s1 ⟨vs,H1,I1,r1,q1⟩=>?_) hs rfl));obtain⟨pl,ys,ps,m,e,hq,h18,hlm,hik,q⟩:=q1;subst e;obtain⟨u,rfl,rx⟩:=vals1 r1;cases rx;obtain⟨as,rfl,hal,hT⟩:=ik_refs hik;obtain⟨its,r',plist,_⟩:=I1.list hq;obtain rfl:=Fb r';have hTk:∀(i:Nat) a q,as[i]? =some a->ps[i]? =some q->cn (aZ X.prog X.w) s1.heap (TB.ky q) a:=fun i a q e1 e2=>Bs (ks:=TB.ky q) I1.hok (by
  have :=hT i a q e1 e2
  rw[bg];exact this)
 refine TB.DB (I1.ok.hd hc) (by omega) plist.isList h18 hal (by simp) hTk fun h' tk kb o es ep t hkl hks hle hS kp=>?_;refine aj ?_;have hkk:∀x∈kb,H1 x.2=some (.tup (x.1.map V.int)):=fun x hx=>by
  obtain⟨k1,ham⟩:=hS.tu x hx;obtain⟨j,hj⟩:=bJ.mp ham;have hj2:j<ps.length:=by rw[<-hal];exact(aF.mp hj).1
  have e2:=ae hj2;have k2:=D8.l6 (fun o e=>kp x.2 o (av e) e) (hTk j x.2 _ hj e2);rw[tk_inj k1 k2];exact hT j x.2 _ hj e2
 have hvs:es.toList.map (·.2)=kb.map fun x=>aV x.2:=by rw[hS.es_,bg];rfl
 have hsz:es.size=kb.length:=by rw[<-aO,hS.es_,ai]
 refine TB.yZ (s:={s1 with heap:=h',toks:=tk}) (I1.ok.hd hc) hS.ho hS.ex.1 hS.hd hS.fits (by omega) hS.tb.ti (fun z=>by rw[hle,z];rfl) hvs hS.nd (m:=m) (fun x hx=>hlm _ ((hks _).mp (bY hx))) (fun kb' pm=>?_) fun kb' s' l c pm kp' k2 k3 k4 k5=>?_
 ·exact TB.qF (fun b o e=>kp b o (av e) e) (oS I1.hok (Hm fun x hx=>hkk x (pm.mem_iff.mp hx)) (p7 kb'))
 have nd':(kb'.map (·.1)).Nodup:=(pm.map _).nodup_iff.mpr hS.nd;have kk:∀b o,s1.heap.get? b=some o->s'.heap.get? b=some o:=fun b o e=>kp' b o (kp b o (av e) e);have hlt:s1.heap.objs.size<h'.objs.size:=av hS.ho;have hle:s1.heap.objs.size<=l:=ba (hU hlt) k4;have hz2:(cF V.non (kb'.map (·.1)) (kb'.map fun x=>V.ref x.2)).length<=sizeLine:=by
  unfold cF;rw[ai,(kP nd').length_eq,bq,ai,pm.length_eq];exact fm (by omega)
 exact⟨.ref l,_,(I1.laid (h':=s'.heap) (t':=s1.toks) kk hle (show dQ X.prog X.w _ _ _ (.lst (cF .non (kb'.map (·.1)) (kb'.map fun x=>V.ref x.2)))from⟨hz2,_,c,qa nd' (by simp) (p7 kb'),k5⟩)).same rfl k2 k3,rfl,q _ _ _ nd' (fun x=>((pm.map _).mem_iff).trans (hks x)) (Hm fun x hx=>hkk x (pm.mem_iff.mp hx)) (I1.hok.fresh hle)⟩
end
end L2
set_option maxHeartbeats 1000000
namespace L2
open PySem PySem.Spec PyProof.Rows
section
variable {X:Cx}{pos:Pos}
noncomputable def gLst(K:af)(n:Nat)(t:TGs):TG:=fun v σ H Q=>∃a xs,v=.ref a/\SqL K H a xs/\xs.length=n/\t xs σ H Q
theorem pg_lst{es:List Expr}{k:Nat}{t:TGs}{n:Nat}(hc:X.calm=true)(h:PGs X es t)
  (hn:(fj es X.env).length=n:=by rfl) (hst:(fj es X.env).findIdx? (·.1)=none:=by rfl):PG X (.Tuple es k pos) (gLst X.K n t):=by
 intro pins s σ H v u Q I r hw;obtain⟨a,xs,e1,hq,hl,hw⟩:=hw;subst e1;cases r;obtain⟨its,rv,ht,hz⟩:=I.list hq;rw[assign_Tuple];refine aa (jZ ?_);unfold unpack;rw[show(fj es X.env).length=its.toArray.size by simp[hn,<-hl,rv.length],hst];refine aa (bf (PySem.W.kun_itemsOf (I.ok.hd hc) ht.isList fun h' hx=>?_));have I1:Inv X pins σ H {s with heap:=h'}:=I.kept (t':=s.toks) fun b o e=>hx b o (aJ (av e)) e;exact h pins _ σ H xs _ Q I1 (by simpa using rv) hw
end
end L2
set_option genInjectivity false
set_option genSizeOf false
namespace R
open PySem PySem.Spec PyProof.Rows L2
inductive Bf where
 |len|isinstance|all|list|tuple|set|sum|int|lend|sorti|sortl|minl|maxl|sortt
 deriving DecidableEq
noncomputable def Bf.name:Bf->Str
 |.len=>"len" |.isinstance=>"isinstance" |.all=>"all" |.list=>"list" |.tuple=>"tuple" |.set=>"set" |.sum=>"sum" |.int=>"int" |.lend=>"len" |.sorti=>"sorted" |.sortl=>"sorted" |.minl=>"min" |.maxl=>"max" |.sortt=>"sorted"
noncomputable def Bf.val:Bf->Value
 |.len=>.builtin "len" |.isinstance=>.builtin "isinstance" |.all=>.builtin "all" |.list=>.type "list" |.tuple=>.type "tuple" |.set=>.type "set" |.sum=>.builtin "sum" |.int=>.type "int" |.lend=>.builtin "len" |.sorti=>.builtin "sorted" |.sortl=>.builtin "sorted" |.minl=>.builtin "min" |.maxl=>.builtin "max" |.sortt=>.builtin "sorted"
theorem Bf.boot:∀b:Bf,fL b.name=some b.val
 |.len=>PySem.boot_len|.isinstance=>boot_isinstance|.all=>boot_all|.list=>kH|.tuple=>uo
 |.set=>by decide+kernel|.sum=>by decide+kernel|.int=>u5|.lend=>PySem.boot_len|.sorti=>by decide+kernel|.sortl=>by decide+kernel|.minl=>by decide+kernel|.maxl=>by decide+kernel|.sortt=>by decide+kernel
theorem Bf.plain:∀b:Bf,b.name≠"__name__"/\(b.name==("__debug__":Str))=false:=by
 intro b;cases b<;>exact⟨by decide+kernel,by decide+kernel⟩
inductive Ty where
 |int|bool|str|list|tuple|dict|valueError
 deriving DecidableEq
noncomputable def Ty.name:Ty->Str
 |.int=>"int" |.bool=>"bool" |.str=>"str" |.list=>"list" |.tuple=>"tuple" |.dict=>"dict" |.valueError=>"ValueError"
noncomputable def Ty.t:Ty->String
 |.int=>"int" |.bool=>"bool" |.str=>"str" |.list=>"list" |.tuple=>"tuple" |.dict=>"dict" |.valueError=>"ValueError"
theorem Ty.boot:∀b:Ty,fL b.name=some (.type b.t)
 |.int=>u5|.bool=>PyProof.Rows.boot_bool|.str=>PyProof.Rows.boot_str|.list=>kH|.tuple=>uo|.dict=>PyProof.Rows.boot_dict|.valueError=>by decide+kernel
theorem Ty.plain:∀b:Ty,b.name≠"__name__"/\(b.name==("__debug__":Str))=false:=by
 intro b;cases b<;>exact⟨by decide+kernel,by decide+kernel⟩
noncomputable def jh(K:af):Operator->R2
 |.Add=>fun x y H Q=>(rI0 fun i j=>.int (i+j)) x y H Q\/(∃i j,x=.str i/\y=.str j/\i.length+j.length<=sizeLine/\Q (.str (i++j)) H)\/rCat x y H Q\/Ce K x y H Q\/Cf K x y H Q
 |.Sub=>rI0 fun i j=>.int (i-j)
 |.Mult=>fun x y H Q=>(rI BX fun i j=>.int (i*j)) x y H Q
 |.Mod=>rI (fun _ j=>0<j) fun i j=>.int (i%j)
 |.FloorDiv=>rI EC fun i j=>.int (i/j)
 |.Pow=>rI EB fun i j=>.int (i^j.toNat)
 |.RShift=>rI (fun _ j=>0<=j) fun i j=>.int (i/2^j.toNat)
 |.LShift=>rI EB fun i j=>.int (i*2^j.toNat)
 |.BitAnd=>rI0 fun i j=>.int (iP i j)
 |.BitXor=>rI0 fun i j=>.int (jQ i j)
 |_=>fun _ _ _ _=>False
noncomputable def iz(K:af):CmpOp->R2
 |.Eq=>rEqD K
 |.NotEq=>rNeD K
 |.Lt=>rI0 fun i j=>.bl (decide (i<j))
 |.LtE=>rI0 fun i j=>.bl (decide (i<=j))
 |.Gt=>rI0 fun i j=>.bl (decide (j<i))
 |.GtE=>rI0 fun i j=>.bl (decide (j<=i))
 |.Is=>fun x y H Q=>y=.non/\Q (.bl (decide (x=.non))) H
 |.IsNot=>fun x y H Q=>y=.non/\Q (.bl (!decide (x=.non))) H
 |.In=>fun x y H Q=>((∃i j,x=.str i/\y=.str j/\Q (.bl (!(gX j i 0 j.length 1).isEmpty)) H))\/rIn K false x y H Q
 |.NotIn=>fun x y H Q=>((∃i j,x=.str i/\y=.str j/\Q (.bl (!(!(gX j i 0 j.length 1).isEmpty))) H))\/rIn K true x y H Q
noncomputable def rUn(K:af):UnaryOp->V->Hp->VK->Prop
 |.USub=>rU fun i=>.int (-i)
 |_=>fun _ _ _=>False
noncomputable def rSlc(K:af):V->Option Int->Option Int->Hp->VK->Prop:=fun x lo hi H Q=>rSlL K x lo hi H Q\/rSlT K x lo hi H Q\/rSlS x lo hi H Q
noncomputable def rBf(K:af):Bf->List V->Hp->VK->Prop
 |.len=>fun xs H Q=>(∃p ys,xs=[.ref p]/\(SqL K H p ys\/SqT K H p ys)/\Q (.int ys.length) H)\/(∃z:Str,xs=[.str z]/\z.length<=sizeLine/\Q (.int z.length) H)\/(∃a n,xs=[V.ref a]/\H a=some (_root_.Q.AX a n)/\Q (.int n) H)
 |.isinstance=>fun xs H Q=>(∃x T t b,xs=[x,.ty T]/\lL K H x t/\iN K t (.type T)=some b/\Q (.bl b) H)\/(∃x C t b,xs=[x,.ref C]/\lL K H x t/\iN K t (.ref C)=some b/\Q (.bl b) H)
 |.all=>fun xs H Q=>∃(p:Addr)(bs:List Bool),xs=[.ref p]/\SqL K H p (bs.map V.bl)/\Q (.bl (bs.all id)) H
 |.list=>fun xs H Q=>∃p ys,xs=[.ref p]/\(SqL K H p ys\/SqT K H p ys)/\∀l,H l=none->Q (.ref l) (upd H l (.lst ys))
 |.tuple=>fun xs H Q=>∃p ys,xs=[.ref p]/\((SqL K H p ys/\∀l,H l=none->Q (.ref l) (upd H l (.tup ys)))\/(SqT K H p ys/\Q (.ref p) H))
 |.set=>Q.rSet K
 |.sum=>fun xs H Q=>∃(p:Addr)(ns:List Int),xs=[.ref p]/\SqL K H p (ns.map V.int)/\Q (.int ns.sum) H
 |.int=>fun xs H Q=>(∃i,xs=[.int i]/\Q (.int i) H)\/∃k,xs=[.bl k]/\Q (.int (if k then 1 else 0)) H
 |.lend=>fun xs H Q=>∃a kvs,xs=[V.ref a]/\H a=some (.dT kvs)/\Q (.int kvs.length) H
 |.sorti=>Q.F1 K
 |.sortl=>Q.F0 K
 |.sortt=>Q.FZ K
 |.minl=>Q.rMinL K
 |.maxl=>Q.rMaxL K
inductive Mm where
 |append|clear|reverse|pop|index
 deriving DecidableEq
noncomputable def Mm.name:Mm->Str
 |.append=>"append" |.clear=>"clear" |.reverse=>"reverse" |.pop=>"pop" |.index=>"index"
noncomputable def Mm.id:Mm->String
 |.append=>"list.append" |.clear=>"list.clear" |.reverse=>"list.reverse" |.pop=>"list.pop" |.index=>"list.index"
noncomputable def rMm:Mm->V->List V->Hp->VK->Prop
 |.append=>xv
 |.clear=>fun _ _ _ _=>False
 |.reverse=>fun _ _ _ _=>False
 |.pop=>fun x xs H Q=>rPop x xs H Q\/F3 x xs H Q
 |.index=>F4
noncomputable def baseOk:Expr->Bool
 |.Name .. =>true|.Subscript .. =>true
 |_=>false
mutual
inductive CE where
 |var (i:Nat)
 |con (c:Const)
 |glo (x:Str)
 |ty (t:Ty)
 |bin (op:Operator) (a b:CE)
 |un (op:UnaryOp) (a:CE)
 |cmp (op:CmpOp) (a b:CE)
 |chain (op op':CmpOp) (a b c:CE)
 |not (a:CE)
 |and (a b:CE)
 |or (a b:CE)
 |ite (c a b:CE)
 |idx (a i:CE)
 |cut (a:CE) (lo hi:CO)
 |tup (es:CL)
 |lst (es:CL)
 |call (f:Str) (es:CL)
 |bfn (b:Bf) (es:CL)
 |meth1 (m:Mm) (o a:CE)
 |idxd (a i:CE)
 |dicT
 |setd (o a b:CE)
 |lrng (a:CE)
 |sortset (a:CE)
 |ssetl (a:CE)
 |comp (own:List Str) (fr:List Nat) (tg:CG) (it:CI) (cond:CO) (elt:CE)
inductive CL where
 |nil
 |cons (e:CE) (es:CL)
inductive CP where
 |nil
 |cons (k v:CE) (r:CP)
inductive CO where
 |no
 |yes (e:CE)
inductive CG where
 |name (i:Nat)
 |tup (gs:CGs)
 |ltup (gs:CGs)
 |sub (o i:CE)
inductive CGs where
 |nil
 |cons (g:CG) (gs:CGs)
inductive CI where
 |seq (e:CE)
 |lseq (e:CE)
 |tseq (e:CE)
 |range1 (e:CE)
 |range2 (a b:CE)
 |enumt (e:CE)
end
noncomputable def CL.len:CL->Nat
 |.nil=>0
 |.cons _ r=>r.len+1
noncomputable def CGs.len:CGs->Nat
 |.nil=>0
 |.cons _ r=>r.len+1
mutual
inductive CS where
 |asg (g:CG) (e:CE)
 |asgc (i:Nat) (e:CE)
 |expr (e:CE)
 |iff (c:CE) (a b:CB)
 |forr (g:CG) (it:CI) (b:CB)
 |ret (e:CE)
 |retN
 |pass|brk|cont
 |rais (x:Str) (es:CL)
inductive CB where
 |nil
 |hole
 |cons (s:CS) (r:CB)
end
noncomputable def Hi(sc:Scope)(x:Str):Bool:=sc.names.lookup x==some .local||sc.names.lookup x==some .cell||sc.names.lookup x==some .free
noncomputable def m4(sc:Scope)(x:Str):Bool:=sc.names.lookup x==some .globalImplicit
noncomputable def vx(x:Str):Bool:=(x==("__debug__":Str))==false&&(x==("__classdict__":Str))==false
noncomputable def okCon:Const->Bool
 |.none=>true|.bool _=>true|.int _=>true|.str _=>true|_=>false
noncomputable def cv:Const->V
 |.none=>.non|.bool b=>.bl b|.int i=>.int i|.str x=>.str x|_=>.non
noncomputable def namesOf(N own:List Str)(fr:List Nat):List Str:=own++fr.map fun j=>N.getD j ""
noncomputable def mx(own:List Str)(fr:List Nat)(σ:L2.St):L2.St:=own.map (fun _=>none)++fr.map fun j=>(σ[j]?).getD none
noncomputable def oR:Expr->Bool
 |.Slice .. =>true
 |_=>false
noncomputable def isSet:Expr->Bool
 |.Set .. =>true
 |_=>false
noncomputable def tB:Expr->Bool
 |.ListComp .. =>true|.SetComp .. =>true|.DictComp .. =>true
 |_=>false
noncomputable def nX:Expr->Bool
 |.Tuple .. =>true
 |_=>false
noncomputable def xE(sc sc':Scope)(N own:List Str)(fr:List Nat):Bool:=
 decide (sc'.kind=.function)&&sc'.names.all (fun y=>decide (y.2=.cell->sc'.names.lookup y.1=some .cell))&&sc'.names.all (fun y=>decide (y.2=.local->sc'.names.lookup y.1=some .local))&&
 sc'.names.all (fun y=>decide (y.2=.free->sc.names.lookup y.1=some .cell\/sc.names.lookup y.1=some .free))&&decide ((namesOf N own fr).Nodup)&&
 fr.all (fun j=>decide (j<N.length)&&sc'.names.lookup (N.getD j "")==some .free)&&own.all (fun x=>sc'.names.lookup x==some .local||sc'.names.lookup x==some .cell)
theorem dS{P:Prop}(h:false=true):P:=(aD h).elim
theorem an{a b:Bool}(h:(a&&b)=true):a=true/\b=true:=by rwa [aL]at h
theorem qY{a:Bool}(h:(!a)=true):a=false:=by simpa using h
theorem jk{a b c:Bool}(h:(a&&b&&c)=true):a=true/\b=true/\c=true:=let⟨h,z⟩:=an h;let⟨x,y⟩:=an h;⟨x,y,z⟩
theorem n8{a b c d:Bool}(h:(a&&b&&c&&d)=true):a=true/\b=true/\c=true/\d=true:=let⟨h,z⟩:=an h;let⟨x,y,w⟩:=jk h;⟨x,y,w,z⟩
theorem and5{a b c d e:Bool}(h:(a&&b&&c&&d&&e)=true):a=true/\b=true/\c=true/\d=true/\e=true:=let⟨h,z⟩:=an h;let⟨x,y,w,v⟩:=n8 h;⟨x,y,w,v,z⟩
section
variable {e:Expr}{s:Stmt}
noncomputable def l1{α:Type}(l:List α)(f:α->Bool):Bool:=match l with
 |a::r=>r.isEmpty&&f a
 | []=>false
theorem kR{α:Type}{l:List α}{f:α->Bool}(h:l1 l f=true):∃a,l=[a]/\f a=true:=by
 cases l with
 |nil=>exact dS h
 |cons a r=>
  obtain⟨h1,h⟩:=an h;cases r with
  |nil=>exact⟨a,rfl,h⟩
  |cons=>exact dS h1
noncomputable def l2{α:Type}(l:List α)(f:α->α->Bool):Bool:=match l with
 |a::r=>l1 r (f a)
 | []=>false
theorem vE{α:Type}{l:List α}{f:α->α->Bool}(h:l2 l f=true):∃a b,l=[a,b]/\f a b=true:=by
 cases l with
 |nil=>exact dS h
 |cons a r=>
  obtain⟨b,rfl,h⟩:=kR h;exact⟨a,b,rfl,h⟩
noncomputable def dNm(e:Expr)(f:Str->Pos->Bool):Bool:=match e with
 |.Name x p=>f x p
 |_=>false
theorem lu{f}(h:dNm e f=true):∃x p,e=.Name x p/\f x p=true:=by cases e<;>first |exact⟨_,_,rfl,h⟩ |exact dS h
noncomputable def dCn(e:Expr)(f:Const->Bool):Bool:=match e with
 |.Constant c _ _=>f c
 |_=>false
theorem HQ{f}(h:dCn e f=true):∃c j p,e=.Constant c j p/\f c=true:=by cases e<;>first |exact⟨_,_,_,rfl,h⟩ |exact dS h
noncomputable def dBi(e:Expr)(f:Expr->Operator->Expr->Bool):Bool:=match e with
 |.BinOp a op b _=>f a op b
 |_=>false
theorem dBi_of{f}(h:dBi e f=true):∃a op b p,e=.BinOp a op b p/\f a op b=true:=by cases e<;>first |exact⟨_,_,_,_,rfl,h⟩ |exact dS h
noncomputable def dUn(e:Expr)(f:UnaryOp->Expr->Bool):Bool:=match e with
 |.UnaryOp op a _=>f op a
 |_=>false
theorem BD{f}(h:dUn e f=true):∃op a p,e=.UnaryOp op a p/\f op a=true:=by cases e<;>first |exact⟨_,_,_,rfl,h⟩ |exact dS h
noncomputable def dCm(e:Expr)(f:Expr->List CmpOp->List Expr->Bool):Bool:=match e with
 |.Compare a os es _=>f a os es
 |_=>false
theorem BH{f}(h:dCm e f=true):∃a os es p,e=.Compare a os es p/\f a os es=true:=by cases e<;>first |exact⟨_,_,_,_,rfl,h⟩ |exact dS h
noncomputable def dC1(e:Expr)(f:Expr->CmpOp->Expr->Bool):Bool:=dCm e fun a os es=>l1 os fun op=>l1 es fun b=> !isSet b&&f a op b
theorem HS{f}(h:dC1 e f=true):∃a op b p,e=.Compare a [op] [b] p/\isSet b=false/\f a op b=true:=by
 obtain⟨a,os,es,p,rfl,k⟩:=BH h;obtain⟨op,rfl,l⟩:=kR k;obtain⟨b,rfl,m⟩:=kR l;obtain⟨h1,n⟩:=an m;exact⟨a,op,b,p,rfl,qY h1,n⟩
noncomputable def dBo(e:Expr)(f:BoolOp->Expr->Expr->Bool):Bool:=match e with
 |.BoolOp op es p=>match es with
  |a::r=>match r with
   |b::r=>match r with
    | []=>f op a b
    |c::r=>f op a (.BoolOp op (b::c::r) p)
   | []=>false
  | []=>false
 |_=>false
theorem qj{f}(h:dBo e f=true):∃op a x p,f op a x=true/\(e=.BoolOp op [a,x] p\/∃b c r,x=.BoolOp op (b::c::r) p/\e=.BoolOp op (a::b::c::r) p):=by
 cases e<;>first |exact dS h|skip
 rename_i op es p;cases es with
 |nil=>exact dS h
 |cons a r=>cases r with
  |nil=>exact dS h
  |cons b r=>cases r with
   |nil=>exact⟨op,a,b,p,h,.inl rfl⟩
   |cons c r=>exact⟨op,a,_,p,h,.inr ⟨b,c,r,rfl,rfl⟩⟩
noncomputable def dIf(e:Expr)(f:Expr->Expr->Expr->Bool):Bool:=match e with
 |.IfExp c a b _=>f c a b
 |_=>false
theorem dIf_of{f}(h:dIf e f=true):∃c a b p,e=.IfExp c a b p/\f c a b=true:=by cases e<;>first |exact⟨_,_,_,_,rfl,h⟩ |exact dS h
noncomputable def dSu(e:Expr)(f:Expr->Expr->Bool):Bool:=match e with
 |.Subscript a i _=>f a i
 |_=>false
theorem tK{f}(h:dSu e f=true):∃a i p,e=.Subscript a i p/\f a i=true:=by cases e<;>first |exact⟨_,_,_,rfl,h⟩ |exact dS h
noncomputable def dSl(e:Expr)(f:Option Expr->Option Expr->Option Expr->Bool):Bool:=match e with
 |.Slice a b c _=>f a b c
 |_=>false
theorem dSl_of{f}(h:dSl e f=true):∃a b c p,e=.Slice a b c p/\f a b c=true:=by cases e<;>first |exact⟨_,_,_,_,rfl,h⟩ |exact dS h
noncomputable def dTu(e:Expr)(f:List Expr->Bool):Bool:=match e with
 |.Tuple es _ _=>f es
 |_=>false
theorem BE{f}(h:dTu e f=true):∃es k p,e=.Tuple es k p/\f es=true:=by cases e<;>first |exact⟨_,_,_,rfl,h⟩ |exact dS h
noncomputable def dLi(e:Expr)(f:List Expr->Bool):Bool:=match e with
 |.List es _=>f es
 |_=>false
theorem dLi_of{f}(h:dLi e f=true):∃es p,e=.List es p/\f es=true:=by cases e<;>first |exact⟨_,_,rfl,h⟩ |exact dS h
noncomputable def dDi(e:Expr)(f:List (Option Expr)->List Expr->Bool):Bool:=match e with
 |.Dict ks vs _=>f ks vs
 |_=>false
theorem dDi_of{f}(h:dDi e f=true):∃ks vs p,e=.Dict ks vs p/\f ks vs=true:=by cases e<;>first |exact⟨_,_,_,rfl,h⟩ |exact dS h
noncomputable def dCa(e:Expr)(f:Expr->List Expr->Pos->Bool):Bool:=match e with
 |.Call g es ks p=>ks.isEmpty&&f g es p
 |_=>false
theorem HR{f}(h:dCa e f=true):∃g es p,e=.Call g es [] p/\f g es p=true:=by
 cases e<;>first |exact dS h|skip
 rename_i g es ks p;obtain⟨h1,h⟩:=an h;cases ks with
 |nil=>exact⟨g,es,p,rfl,h⟩
 |cons=>exact dS h1
noncomputable def dFn(e:Expr)(f:Str->List Expr->Bool):Bool:=dCa e fun g es _=>dNm g fun x _=>f x es
theorem ke{f}(h:dFn e f=true):∃x np es p,e=.Call (.Name x np) es [] p/\f x es=true:=by
 obtain⟨g,es,p,rfl,k⟩:=HR h;obtain⟨x,np,rfl,l⟩:=lu k;exact⟨x,np,es,p,rfl,l⟩
noncomputable def dAt(e:Expr)(f:Expr->Str->Pos->Bool):Bool:=match e with
 |.Attribute a x p=>f a x p
 |_=>false
theorem dAt_of{f}(h:dAt e f=true):∃a x p,e=.Attribute a x p/\f a x p=true:=by cases e<;>first |exact⟨_,_,_,rfl,h⟩ |exact dS h
noncomputable def dMt(m:Str)(e:Expr)(f:Expr->List Expr->Bool):Bool:=dCa e fun g es cp=>dAt g fun o m' ap=>decide (m=m')&&(ap.endLine==cp.line)&&f o es
theorem HP{m:Str}{f}(h:dMt m e f=true):∃o ap es cp,e=.Call (.Attribute o m ap) es [] cp/\(ap.endLine==cp.line)=true/\f o es=true:=by
 obtain⟨g,es,cp,rfl,k⟩:=HR h;obtain⟨o,m',ap,rfl,l⟩:=dAt_of k;obtain⟨h1,h2,n⟩:=jk l;cases of_decide_eq_true h1;exact⟨o,ap,es,cp,rfl,h2,n⟩
noncomputable def dLc(e:Expr)(f:Expr->List Comprehension->Scope->Pos->Bool):Bool:=match e with
 |.ListComp a gs sc p=>f a gs sc p
 |_=>false
theorem BF{f}(h:dLc e f=true):∃a gs sc p,e=.ListComp a gs sc p/\f a gs sc p=true:=by cases e<;>first |exact⟨_,_,_,_,rfl,h⟩ |exact dS h
noncomputable def dJs(e:Expr)(f:List Expr->Bool):Bool:=match e with
 |.JoinedStr es _=>f es
 |_=>false
noncomputable def dFv(e:Expr)(f:Expr->Int->Option Expr->Bool):Bool:=match e with
 |.FormattedValue a c s _=>f a c s
 |_=>false
noncomputable def dAs(s:Stmt)(f:Expr->Expr->Pos->Bool):Bool:=match s with
 |.Assign ts e p=>l1 ts fun g=>f g e p
 |_=>false
theorem HU{f}(h:dAs s f=true):∃g e p,s=.Assign [g] e p/\f g e p=true:=by
 cases s<;>first |exact dS h|skip
 obtain⟨g,rfl,h⟩:=kR h;exact⟨g,_,_,rfl,h⟩
noncomputable def dEx(s:Stmt)(f:Expr->Bool):Bool:=match s with
 |.Expr e _=>f e
 |_=>false
theorem dEx_of{f}(h:dEx s f=true):∃e p,s=.Expr e p/\f e=true:=by cases s<;>first |exact⟨_,_,rfl,h⟩ |exact dS h
noncomputable def dIs(s:Stmt)(f:Expr->List Stmt->List Stmt->Bool):Bool:=match s with
 |.If c a b _=>f c a b
 |_=>false
theorem dIs_of{f}(h:dIs s f=true):∃c a b p,s=.If c a b p/\f c a b=true:=by cases s<;>first |exact⟨_,_,_,_,rfl,h⟩ |exact dS h
noncomputable def dWh(s:Stmt)(f:Expr->List Stmt->Bool):Bool:=match s with
 |.While c a b _=>b.isEmpty&&f c a
 |_=>false
theorem dWh_of{f}(h:dWh s f=true):∃c a p,s=.While c a [] p/\f c a=true:=by
 cases s<;>first |exact dS h|skip
 rename_i c a b p;obtain⟨h1,h⟩:=an h;cases b with
 |nil=>exact⟨c,a,p,rfl,h⟩
 |cons=>exact dS h1
noncomputable def dFo(s:Stmt)(f:Expr->Expr->List Stmt->Bool):Bool:=match s with
 |.For g i a b _=>b.isEmpty&&f g i a
 |_=>false
theorem dFo_of{f}(h:dFo s f=true):∃g i a p,s=.For g i a [] p/\f g i a=true:=by
 cases s<;>first |exact dS h|skip
 rename_i g i a b p;obtain⟨h1,h⟩:=an h;cases b with
 |nil=>exact⟨g,i,a,p,rfl,h⟩
 |cons=>exact dS h1
noncomputable def dRt(s:Stmt)(f:Option Expr->Bool):Bool:=match s with
 |.Return e _=>f e
 |_=>false
theorem HN{f}(h:dRt s f=true):∃e p,s=.Return e p/\f e=true:=by cases s<;>first |exact⟨_,_,rfl,h⟩ |exact dS h
noncomputable def dRa(s:Stmt)(f:Str->List Expr->Bool):Bool:=match s with
 |.Raise e c _=>match e with
  |some e=>c.isNone&&dFn e f
  |none=>false
 |_=>false
theorem dRa_of{f}(h:dRa s f=true):∃x np es cp p,s=.Raise (some (.Call (.Name x np) es [] cp)) none p/\f x es=true:=by
 cases s<;>first |exact dS h|skip
 rename_i e c p;cases e with
 |none=>exact dS h
 |some e=>
  obtain⟨h1,k⟩:=an h;obtain⟨x,np,es,cp,rfl,l⟩:=ke k;cases c with
  |none=>exact⟨x,np,es,cp,p,rfl,l⟩
  |some=>exact dS h1
noncomputable def dTr(s:Stmt)(f:List Stmt->Str->Str->List Stmt->Bool):Bool:=match s with
 |.Try b hs o r _=>o.isEmpty&&r.isEmpty&&l1 hs fun h=>match h with
  |.ExceptHandler t n ss _=>match t with
   |some t=>match n with
    |some n=>dNm t fun x _=>f b x n ss
    |none=>false
   |none=>false
 |_=>false
theorem dTr_of{f}(h:dTr s f=true):∃b x np n ss hp p,s=.Try b [.ExceptHandler (some (.Name x np)) (some n) ss hp] [] [] p/\f b x n ss=true:=by
 cases s<;>first |exact dS h|skip
 rename_i b hs o r p;obtain⟨h1,h2,k⟩:=jk h;obtain⟨⟨t,n,ss,hp⟩,rfl,l⟩:=kR k;cases o with
 |cons=>exact dS h1
 |nil=>cases r with
  |cons=>exact dS h2
  |nil=>cases t with
   |none=>exact dS l
   |some t=>cases n with
    |none=>exact dS l
    |some n=>
     obtain⟨x,np,rfl,m⟩:=lu l;exact⟨b,x,np,n,ss,hp,p,rfl,m⟩
end
noncomputable def u1{α:Type}(l:List α)(f:α->List α->Bool):Bool:=match l with
 |a::r=>f a r
 | []=>false
theorem yN{α:Type}{l:List α}{f:α->List α->Bool}(h:u1 l f=true):∃a r,l=a::r/\f a r=true:=by
 cases l with
 |nil=>exact dS h
 |cons a r=>exact⟨a,r,rfl,h⟩
noncomputable def om{α:Type}(o:Option α)(f:α->Bool):Bool:=match o with
 |some x=>f x
 |none=>false
theorem GG{α:Type}{o:Option α}{f:α->Bool}(h:om o f=true):∃x,o=some x/\f x=true:=by
 cases o with
 |none=>exact dS h
 |some x=>exact⟨x,rfl,h⟩
theorem nil_of{α:Type}{l:List α}(h:l.isEmpty=true):l=[]:=List.isEmpty_iff.mp h
noncomputable def dFF(f g:Str)(sc:Scope)(e:Expr)(k:Expr->Bool):Bool:=dFn e fun f' es=>l1 es fun x=>dFn x fun g' es=>l1 es fun a=>decide (f'=f)&&decide (g'=g)&&m4 sc f&&m4 sc g&&k a
theorem BG{f g:Str}{sc:Scope}{e:Expr}{k}(h:dFF f g sc e k=true):∃p a q r t,e=.Call (.Name f p) [.Call (.Name g q) [a] [] r] [] t/\m4 sc f=true/\m4 sc g=true/\k a=true:=by
 obtain⟨_,p,_,t,rfl,i⟩:=ke h;obtain⟨x,rfl,j⟩:=kR i;obtain⟨_,q,_,r,rfl,l⟩:=ke j;obtain⟨a,rfl,m⟩:=kR l;obtain⟨h1,h2,h3,h4,n⟩:=and5 m;cases of_decide_eq_true h1;cases of_decide_eq_true h2;exact⟨p,a,q,r,t,rfl,h3,h4,n⟩
noncomputable def isM1(e:Expr):Bool:=dUn e fun op c=>decide (op=.USub)&&dCn c fun k=>decide (k=.int 1)
noncomputable def mBase(e:Expr):Bool:=(dNm e fun _ _=>true)||(dFn e fun _ es=> !es.isEmpty)
mutual
noncomputable def dO(sc:Scope)(N:List Str):CE->Expr->Bool
 |.var i,e=>dNm e fun x _=>N[i]? ==some x&&Hi sc x&&vx x
 |.con c,e=>dCn e fun c'=>okCon c&&decide (c=c')
 |.glo x,e=>dNm e fun y _=>decide (x=y)&&m4 sc x&&vx x
 |.ty t,e=>dNm e fun y _=>decide (t.name=y)&&m4 sc y
 |.bin op a b,e=>dBi e fun a' op' b'=>decide (op=op')&&dO sc N a a'&&dO sc N b b'
 |.un op a,e=>dUn e fun op' a'=>decide (op=op')&&dO sc N a a'
 |.cmp op a b,e=>dC1 e fun a' op' b'=>decide (op=op')&&dO sc N a a'&&dO sc N b b'
 |.chain o1 o2 a b c,e=>dCm e fun a' os es=>l2 os fun p q=>l2 es fun b' c'=>decide (o1=p)&&decide (o2=q)&& !isSet c'&&(dO sc N a a'&&dO sc N b b'&&dO sc N c c')
 |.not a,e=>dUn e fun op a'=>decide (op=.Not)&&dO sc N a a'
 |.and a b,e=>dBo e fun op a' x=>decide (op=.And)&&dO sc N a a'&&dO sc N b x
 |.or a b,e=>dBo e fun op a' x=>decide (op=.Or)&&dO sc N a a'&&dO sc N b x
 |.ite c a b,e=>dIf e fun c' a' b'=>dO sc N c c'&&dO sc N a a'&&dO sc N b b'
 |.idx a i,e=>dSu e fun a' i'=> !oR i'&&dO sc N a a'&&dO sc N i i'
 |.cut a lo hi,e=>dSu e fun a' s=>dSl s fun l u t=>t.isNone&&dO sc N a a'&&(chkO sc N lo l&&chkO sc N hi u)
 |.tup es,e=>dTu e fun es'=>o9 sc N es es'
 |.lst es,e=>dLi e fun es'=>o9 sc N es es'
 |.call f es,e=>dFn e fun f' es'=>decide (f=f')&&m4 sc f&&vx f&&o9 sc N es es'
 |.bfn b es,e=>dFn e fun f' es'=>decide (b.name=f')&&m4 sc f'&& !es'.isEmpty&&o9 sc N es es'
 |.meth1 m o a,e=>dMt m.name e fun o' es=>l1 es fun a'=>baseOk o'&&dO sc N o o'&&dO sc N a a'
 |.idxd a i,e=>dSu e fun a' i'=> !oR i'&&dO sc N a a'&&dO sc N i i'
 |.dicT,e=>dDi e fun ks vs=>ks.isEmpty&&vs.isEmpty
 |.setd o a b,e=>dMt (cZ "setdefault") e fun o' es=>l2 es fun a' b'=>baseOk o'&&dO sc N o o'&&(dO sc N a a'&&dO sc N b b')
 |.sortset a,e=>dFF "sorted" "set" sc e (dO sc N a)
 |.ssetl a,e=>dFF "sorted" "set" sc e (dO sc N a)
 |.lrng a,e=>dFF "list" "range" sc e (dO sc N a)
 |.comp own fr tg it cond elt,e=>dLc e fun elt' gs sc' _=>l1 gs fun g=>decide (g.is_async=0)&&xE sc sc' N own fr&& !isSet g.iter&&(chkI sc N it g.iter g.target&&uT sc' (namesOf N own fr) false tg g.target&&chkC sc' (namesOf N own fr) cond g.ifs&&dO sc' (namesOf N own fr) elt elt')
noncomputable def o9(sc:Scope)(N:List Str):CL->List Expr->Bool
 |.nil,es=>es.isEmpty
 |.cons e r,es=>u1 es fun e' r'=>dO sc N e e'&&o9 sc N r r'
noncomputable def chkP(sc:Scope)(N:List Str):CP->List (Option Expr)->List Expr->Bool
 |.nil,ks,vs=>ks.isEmpty&&vs.isEmpty
 |.cons k v r,ks,vs=>u1 ks fun k' ks'=>u1 vs fun v' vs'=>om k' fun k'=>dO sc N k k'&&dO sc N v v'&&chkP sc N r ks' vs'
noncomputable def chkO(sc:Scope)(N:List Str):CO->Option Expr->Bool
 |.no,o=>o.isNone
 |.yes e,o=>om o (dO sc N e)
noncomputable def chkC(sc:Scope)(N:List Str):CO->List Expr->Bool
 |.no,o=>o.isEmpty
 |.yes e,o=>l1 o (dO sc N e)
noncomputable def uT(sc:Scope)(N:List Str)(all:Bool):CG->Expr->Bool
 |.name i,e=>dNm e fun x _=>N[i]? ==some x&&(sc.names.lookup x==some .local||sc.names.lookup x==some .cell)
 |.tup gs,e=>dTu e fun es=>qK sc N all gs es
 |.ltup gs,e=>dTu e fun es=>qK sc N all gs es
 |.sub o i,e=>dSu e fun o' i'=> !oR i'&&dO sc N o o'&&dO sc N i i'
noncomputable def qK(sc:Scope)(N:List Str)(all:Bool):CGs->List Expr->Bool
 |.nil,es=>es.isEmpty
 |.cons g gs,es=>u1 es fun e' es'=>uT sc N all g e'&&qK sc N all gs es'
noncomputable def chkI(sc:Scope)(N:List Str):CI->Expr->Expr->Bool
 |.seq e,e',_=>dO sc N e e'
 |.lseq e,e',_=>dO sc N e e'
 |.tseq e,e',_=>dO sc N e e'
 |.range1 e,x,_=>dFn x fun f es=>l1 es fun e'=>decide (f="range")&&m4 sc f&&dO sc N e e'
 |.range2 a b,x,_=>dFn x fun f es=>l2 es fun a' b'=>decide (f="range")&&m4 sc f&&dO sc N a a'&&dO sc N b b'
 |.enumt e,x,tg'=>dFn x fun f es=>l1 es fun e'=>decide (f="enumerate")&&m4 sc f&&dO sc N e e'&&nX tg'
end
mutual
noncomputable def chkS(sc:Scope)(N:List Str):CS->Stmt->Bool
 |.asg g e,s=>dAs s fun g' e' _=>uT sc N true g g'&&dO sc N e e'&& !tB e'&& !(nX g'&&nX e')
 |.asgc i e,s=>dAs s fun g e' _=>dNm g fun x p=>dLc e' fun a b c d=>N[i]? ==some x&&(sc.names.lookup x==some .local||sc.names.lookup x==some .cell)&&dO sc N e (.ListComp a b c d)&&
   (sc.names.lookup x==some .cell||(decide (p.line=d.line)&& !(c.names.any fun y=>decide (y.1=x)&&(decide (y.2=.local)||decide (y.2=.cell)))))
 |.expr e,s=>dEx s fun e'=>dO sc N e e'&& !tB e'
 |.iff c a b,s=>dIs s fun c' a' b'=>dO sc N c c'&&uU sc N a a'&&uU sc N b b'
 |.forr g it b,s=>dFo s fun g' it' b'=>uT sc N true g g'&&chkI sc N it it' g'&& !isSet it'&&uU sc N b b'
 |.ret e,s=>dRt s fun o=>om o (dO sc N e)
 |.retN,s=>dRt s fun o=>o.isNone
 |.rais x es,s=>dRa s fun x' es'=>decide (x=x')&&m4 sc x&&vx x&&(!es'.isEmpty&&o9 sc N es es')
 |.pass,s=>match s with
  |.Pass _=>true
  |_=>false
 |.brk,s=>match s with
  |.Break _=>true
  |_=>false
 |.cont,s=>match s with
  |.Continue _=>true
  |_=>false
noncomputable def uU(sc:Scope)(N:List Str):CB->List Stmt->Bool
 |.hole,_=>true
 |.nil,ss=>ss.isEmpty
 |.cons s r,ss=>u1 ss fun s' r'=>chkS sc N s s'&&uU sc N r r'
end
structure Gam where
 val:Str->Option V
 fn:Str->Nat->Option (Sp×List V)
 ini:Str->Nat->Option (Addr×Sp×List V)
 dic:Addr->Option (List (Key×V))
 mak:Str->Nat->Option (Addr×Sp×List V)
 mth:Str->Nat->Option (Addr×Sp×List V)
noncomputable def xQ(K:af)(tl:TE):TI:=fun σ H R=>tl σ H fun x H1=>(∃a,x=.ref a/\(∃xs,SqL K H1 a xs)/\R (Itl K a) H1)\/(∃a,x=.ref a/\(∃xs,SqT K H1 a xs)/\R (Itt K a) H1)\/(∃z,x=.str z/\R (Its z) H1)
noncomputable def AM(K:af)(t:TE):TT:=fun σ H Q=>t σ H fun x H1=>∃k,TruV K x H1 k/\Q k H1
mutual
noncomputable def wpE(G:Gam)(K:af)(E:XS):CE->TE
 |.var i=>uH i
 |.con c=>tC (cv c)
 |.glo x=>fun σ H Q=>∃v,G.val x=some v/\Q v H
 |.ty t=>tC (.ty t.t)
 |.bin op a b=>tOp (jh K op) (wpE G K E a) (wpE G K E b)
 |.un op a=>tUn (rUn K op) (wpE G K E a)
 |.cmp op a b=>tOp (iz K op) (wpE G K E a) (wpE G K E b)
 |.chain o1 o2 a b c=>sf (iz K o1) (iz K o2) (wpE G K E a) (wpE G K E b) (wpE G K E c)
 |.not a=>Fk (wpE G K E a)
 |.and a b=>Fp (wpE G K E a) (wpE G K E b)
 |.or a b=>tOrV (wpE G K E a) (wpE G K E b)
 |.ite c a b=>tIf (wpT G K E c) (wpE G K E a) (wpE G K E b)
 |.idx a i=>tOp (rIx K) (wpE G K E a) (wpE G K E i)
 |.cut a lo hi=>tSl (rSlc K) (wpE G K E a) (wpO G K E lo) (wpO G K E hi)
 |.tup es=>tTup (wpL G K E es)
 |.lst es=>tLst (wpL G K E es)
 |.call f es=>fun σ H Q=>∃sp dvs,G.fn f es.len=some (sp,dvs)/\yU sp dvs (E σ) (wpL G K E es) σ H Q
 |.bfn b es=>tCB (rBf K b) (wpL G K E es)
 |.meth1 m o a=>tBM K "list" (rMm m) (wpE G K E o) (jS (wpE G K E a) pU)
 |.idxd a i=>tOp (rIxD K) (wpE G K E a) (wpE G K E i)
 |.dicT=>Fn
 |.setd o a b=>tBM K "dict" Cd (wpE G K E o) (jS (wpE G K E a) (jS (wpE G K E b) pU))
 |.lrng a=>tLRng (jS (wpE G K E a) pU)
 |.sortset a=>yS K (jS (wpE G K E a) pU)
 |.ssetl a=>pT K (jS (wpE G K E a) pU)
 |.comp own fr tg it cond elt=>vc (wpI G K E it) (wpG G K N0 tg) (wpC G K N0 cond) (wpE G K N0 elt) (mx own fr)
noncomputable def wpT(G:Gam)(K:af)(E:XS):CE->TT
 |.cmp op a b=>yR (tOp (iz K op) (wpE G K E a) (wpE G K E b))
 |.chain o1 o2 a b c=>yR (sf (iz K o1) (iz K o2) (wpE G K E a) (wpE G K E b) (wpE G K E c))
 |.not a=>tNot (wpT G K E a)
 |.and a b=>tAnd (wpT G K E a) (wpT G K E b)
 |.or a b=>tOr (wpT G K E a) (wpT G K E b)
 |.ite _ _ _=>fun _ _ _=>False
 |.var i=>AM K (uH i)
 |.con c=>AM K (tC (cv c))
 |.glo x=>AM K (fun σ H Q=>∃v,G.val x=some v/\Q v H)
 |.idx a i=>AM K (tOp (rIx K) (wpE G K E a) (wpE G K E i))
 |.call f es=>AM K (fun σ H Q=>∃sp dvs,G.fn f es.len=some (sp,dvs)/\yU sp dvs (E σ) (wpL G K E es) σ H Q)
 |.bfn b es=>AM K (tCB (rBf K b) (wpL G K E es))
 |_=>fun _ _ _=>False
noncomputable def wpL(G:Gam)(K:af)(E:XS):CL->TA
 |.nil=>pU
 |.cons e es=>jS (wpE G K E e) (wpL G K E es)
noncomputable def wpP(G:Gam)(K:af)(E:XS):CP->List (TE×TE)
 |.nil=>[]
 |.cons k v r=>(wpE G K E k,wpE G K E v)::wpP G K E r
noncomputable def wpO(G:Gam)(K:af)(E:XS):CO->TO
 |.no=>wL
 |.yes e=>Fj (wpE G K E e)
noncomputable def wpC(G:Gam)(K:af)(E:XS):CO->TT
 |.no=>tYes
 |.yes e=>wpT G K E e
noncomputable def wpG(G:Gam)(K:af)(E:XS):CG->TG
 |.name i=>l7 i
 |.tup gs=>gTup K gs.len (E8 G K E gs)
 |.ltup gs=>gLst K gs.len (E8 G K E gs)
 |.sub o i=>gSub (wpE G K E o) (wpE G K E i) rSetL
noncomputable def E8(G:Gam)(K:af)(E:XS):CGs->TGs
 |.nil=>gNil
 |.cons g gs=>Hw (wpG G K E g) (E8 G K E gs)
noncomputable def wpI(G:Gam)(K:af)(E:XS):CI->TI
 |.seq e=>xQ K (wpE G K E e)
 |.lseq e=>Hr K (wpE G K E e)
 |.tseq e=>iTup K (wpE G K E e)
 |.range1 e=>Hq (jS (wpE G K E e) pU)
 |.range2 a b=>Ho (jS (wpE G K E a) (jS (wpE G K E b) pU))
 |.enumt e=>Hs K (jS (wpE G K E e) pU)
end
mutual
noncomputable def wpS(G:Gam)(K:af)(E:XS):CS->TS
 |.asg g e=>wM (wpE G K E e) (wpG G K E g)
 |.asgc i e=>wM (wpE G K E e) (l7 i)
 |.expr e=>Fl (wpE G K E e)
 |.iff c a b=>tIfS (wpT G K E c) (wpB G K E a) (wpB G K E b)
 |.forr g it b=>tFor (wpI G K E it) (wpG G K E g) (wpB G K E b)
 |.ret e=>tRet (wpE G K E e)
 |.retN=>Fi
 |.rais x es=>fun D σ H=>∃C,G.val x=some (.ref C)/\cE K (.ref C)=true/\PySem.W.excIn K C bmV "ValueError.__new__"=true/\wpL G K E es σ H fun vs H1=>vs.length<=sizeLine/\E σ (.ref C) none H1
 |.pass=>yT
 |.brk=>Fo
 |.cont=>tCont
noncomputable def wpB(G:Gam)(K:af)(E:XS):CB->TS
 |.nil=>yT
 |.hole=>fun _ _ _=>False
 |.cons s r=>uI (wpS G K E s) (wpB G K E r)
end
noncomputable abbrev Sat(G:Gam)(K:af)(sp:Sp)(c:CB)(N:List Str):Prop:=∀vs H Q E,sp vs H Q E->wpB G K (fun _=>E) c {nx:=fun _ H'=>Q .non H',rt:=Q} (L2.start N vs) H
noncomputable def i4:List Str:=["len","isinstance","all","any","list","tuple","int","bool","str","dict","range","enumerate","sorted","set","min","max","ValueError","sum","zip"]
structure Ok(CX:CXT)(G:Gam)(E:XS)(sc:Scope)(N:List Str)(all:Bool)(X:Cx):Prop where
 names:X.N=N
 top:all=true->X.stack=X.env::X.outer/\X.env.frame=some X.env.locals/\X.ex=[]
 nd:N.Nodup
 loc:∀x,sc.names.lookup x=some .local->X.env.scope.names.lookup x=some .local
 cel:∀x,sc.names.lookup x=some .cell->X.env.scope.names.lookup x=some .cell
 fre:∀x,sc.names.lookup x=some .free->X.env.scope.names.lookup x=some .cell\/X.env.scope.names.lookup x=some .free
 glo:∀x,sc.names.lookup x=some .globalImplicit->X.env.scope.names.lookup x=some .globalImplicit
 all:all=true->∀x,X.fn x=true
 own:∀x,sc.names.lookup x=some .cell->X.fn x=true
 calm:X.calm=true
 hu:X.A.units+50<cLine
 val:∀x v,G.val x=some v->∃u,X.mg x=some u/\RelV v u
 fn:∀x n sp dvs,G.fn x n=some (sp,dvs)->∃f fd ps ds k,jH X.prog X.w X.K X.mg X.base CX k f fd ps sp/\kA k X.A/\X.mg x=some (.ref f)/\cE X.K (.ref f)=true/\Binds X.K fd ps ds/\bO dvs ds
 ini:∀x n C sp dvs,G.ini x n=some (C,sp,dvs)->∃f fd ps ds k,MkX X.K C f/\jH X.prog X.w X.K X.mg X.base CX k f fd ps sp/\kA (k+1) X.A/\X.mg x=some (.ref C)/\Binds X.K fd ps ds/\bO dvs ds
 dic:∀a kvs,G.dic a=some kvs->DkIn X.prog X.w X.K a kvs
 mak:∀x n C sp dvs,G.mak x n=some (C,sp,dvs)->∃f fd ps ds k,Mk X.K C f/\jH X.prog X.w X.K X.mg X.base CX k f fd ps sp/\kA (k+1) X.A/\X.mg x=some (.ref C)/\Binds X.K fd ps ds/\bO dvs ds
 mth:∀m n C sp dvs,G.mth m n=some (C,sp,dvs)->∃f fd ps ds k,Cls X.K C/\Meth X.K C m f/\jH X.prog X.w X.K X.mg X.base CX k f fd ps sp/\kA k X.A/\Binds X.K fd ps ds/\bO dvs ds
 blt:∀x∈i4,X.mg x=none
 px:PassesOwn (model X.prog X.w) X.A X.env X.xe
 pass:Ae CX X E
 made:MadeS X E
 madeX:Iv X E
 cx:CX=CXx X.prog X.w
theorem Bf.mem:∀b:Bf,b.name∈i4:=by intro b;cases b<;>decide+kernel
theorem Ty.mem:∀b:Ty,b.name∈i4:=by intro b;cases b<;>decide+kernel
section
variable {CX:CXT}{G:Gam}{E:XS}{sc:Scope}{N:List Str}{all:Bool}{X:Cx}
theorem Ok.vis(o:Ok CX G E sc N all X){x:Str}(h:Hi sc x=true):Vis X.env.scope x:=by
 unfold Hi at h;rw[dj,dj,beq_iff_eq,beq_iff_eq,beq_iff_eq]at h;rcases h with(h|h) |h
 ·exact .inl (o.loc x h)
 ·exact .inr (.inl (o.cel x h))
 ·rcases o.fre x h with q|q
  ·exact .inr (.inl q)
  ·exact .inr (.inr q)
theorem Ok.gl(o:Ok CX G E sc N all X){x:Str}(h:m4 sc x=true):Gl X x:=by
 unfold m4 at h;rw[beq_iff_eq]at h;exact o.glo x h
theorem lU{x:Str}(h:vx x=true):(x==("__debug__":Str))=false/\(x==("__classdict__":Str))=false:=by
 unfold vx at h;rw[aL,beq_iff_eq,beq_iff_eq]at h;exact h
theorem rBin_ok:∀op,OpR X (fh op) (jh X.K op)
 |.Add=>op_add.or (Be.or (op_cat.or (op_catT.or op_cat0)))
 |.Sub=>op_sub
 |.Mult=>op_mul
 |.Mod=>op_mod
 |.FloorDiv=>op_fdiv
 |.Pow=>op_pow
 |.RShift=>op_shr
 |.MatMult=>fun _ _ _ _ _ _ _ _ _ _ _ _ h=>h.elim
 |.Div=>fun _ _ _ _ _ _ _ _ _ _ _ _ h=>h.elim
 |.LShift=>op_shl
 |.BitOr=>fun _ _ _ _ _ _ _ _ _ _ _ _ h=>h.elim
 |.BitXor=>op_xor
 |.BitAnd=>op_and
theorem my(hu:X.A.units+50<cLine):∀op,OpR X (da op) (iz X.K op)
 |.Eq=>op_eqD (by omega)
 |.NotEq=>op_neD (by omega)
 |.Lt=>op_lt
 |.LtE=>op_le
 |.Gt=>op_gt
 |.GtE=>op_ge
 |.Is=>op_isN
 |.IsNot=>op_notN
 |.In=>DR.or DS
 |.NotIn=>xC.or xD
theorem rUn_ok:∀op,UnR X (unaryOp op) (rUn X.K op)
 |.USub=>un_neg
 |.Not=>fun _ _ _ _ _ _ _ _ _ h=>h.elim
 |.UAdd=>fun _ _ _ _ _ _ _ _ _ h=>h.elim
 |.Invert=>fun _ _ _ _ _ _ _ _ _ h=>h.elim
theorem rSlc_ok:SlR X (rSlc X.K):=sl_list.or (sl_tup.or sl_str)
theorem rBf_ok(hc:X.calm=true)(hu:X.A.units+50<cLine):∀b,fO X (Bf.val b) (rBf X.K b)
 |.len=>yd.or (yc.or Q.uW)
 |.isinstance=>zV.or ye
 |.all=>Ih hc
 |.list=>yb
 |.tuple=>uV
 |.set=>Q.Es hc
 |.sum=>Ie hc
 |.int=>Ey
 |.lend=>zU
 |.sorti=>Q.ya
 |.sortl=>Q.xZ
 |.sortt=>Q.xY (by omega)
 |.minl=>Q.Et hc (by omega)
 |.maxl=>Q.Ew hc (by omega)
theorem Mm.slot:∀m:Mm,Slot "list" m.name m.id
 |.append=>PySem.F.slot_list_append|.clear=>PySem.F.slot_list_clear|.reverse=>PySem.F.slot_list_reverse|.pop=>PySem.F.slot_list_pop|.index=>yD
theorem Mm.ty:∀m:Mm,typeOf (.builtin m.id)=pure (.type "method_descriptor")
 |.append=>PySem.F.type_list_append|.clear=>PySem.F.type_list_clear|.reverse=>PySem.F.type_list_reverse|.pop=>PySem.F.type_list_pop|.index=>PySem.F.type_list_index
theorem rMm_ok:∀m:Mm,MtR X m.id (rMm m)
 |.append=>D1|.clear=>fun _ _ _ _ _ _ _ _ _ _ _ _ h=>h.elim|.reverse=>fun _ _ _ _ _ _ _ _ _ _ _ _ h=>h.elim|.pop=>MtR.or mt_pop GR|.index=>GS
theorem Dd{o:Expr}(h:baseOk o=true)(nm:Str)(env:Env)(t:Sem Value):attributeBase o nm env t=t:=by
 cases o<;>first
  |rfl
  | (exact absurd h (by simp[baseOk]))
theorem cA{c:CE}{e:Expr}(h:dO sc N c e=true)(es:List Expr)(env:Env):bP (e::es) env=(false,eval e env)::bP es env:=by
 cases e<;>first
  |rfl
  | (cases c<;>exact dS h)
theorem mJ{c:CE}{r:CL}{es:List Expr}(h:o9 sc N (.cons c r) es=true):∃e' r',es=e'::r'/\dO sc N c e'=true/\o9 sc N r r'=true:=
 let⟨e',r',a,k⟩:=yN h
 ⟨e',r',a,an k⟩
theorem o8{es:List Expr}(h:o9 sc N .nil es=true):es=[]:=nil_of h
theorem tO:∀{l:CL}{es:List Expr},o9 sc N l es=true->∀(env:Env)(pos:Pos),(backTo pos (bP es env)).any (·.1)=false
 |.nil,es,h,env,pos=>by rw[o8 h];rfl
 |.cons c r,es,h,env,pos=>by
  obtain⟨e',r',rfl,h1,h2⟩:=mJ h;rw[cA h1];show(false||(backTo pos (bP r' env)).any (·.1))=false;rw[tO h2];rfl
theorem Fu{l:CL}{es:List Expr}(h:o9 sc N l es=true)(hn:(!es.isEmpty)=true):∃e es',es=e::es'/\∀(env:Env)(pos:Pos),bP (e::es') env=(false,eval e env)::bP es' env/\(backTo pos (bP es' env)).any (·.1)=false:=by
 cases l with
 |nil=>
  obtain rfl:=o8 h;exact dS hn
 |cons c r=>
  obtain⟨e',r',rfl,h1,h2⟩:=mJ h;exact⟨e',r',rfl,fun env pos=>⟨cA h1 _ _,tO h2 _ _⟩⟩
theorem xG{e:Expr}(h:isSet e=false)(env:Env):∀x,jo e env x=pure x:=by
 intro x;cases e<;>first
  |rfl
  | (exact absurd h (by simp[isSet]))
theorem mF{e:Expr}(h:isSet e=false)(op:CmpOp):IC op e=false:=by
 cases e<;>first
  |rfl
  | (exact absurd h (by simp[isSet]))
theorem zg{e:Expr}(h:oR e=false):Df e:=by
 intro o i;cases e<;>first
  |rfl
  | (exact absurd h (by simp[oR]))
theorem xI{e:Expr}(h:tB e=false)(t:Option Expr)(l:Nat)(env:Env):rP e t l env=pure false:=by
 cases e<;>first
  |rfl
  | (exact absurd h (by simp[tB]))
theorem pi_any{tg l:Expr}{tl:TE}(hl:PE X l tl):PI X tg l (xQ X.K tl):=by
 intro pins s σ H R I h;refine thn (hl pins s σ H _ I h) fun v s1 ⟨x,H1,I1,r1,q1⟩=>?_;have key:∀{tl':TE}{wi:TI},True:=fun{_ _}=>trivial;rcases q1 with q1|q1|q1
 ·obtain⟨a,e,⟨xs,hq⟩,q⟩:=q1
  subst e;cases r1;obtain⟨its,rv,p,hz⟩:=I1.list hq;refine mP p.isList ?_;refine⟨s1.heap.objs.size,[s1.heap.objs.size],_,_,H1,rfl,I1.kept (t':=s1.toks) fun b o e=>ah _ e,u9 a _,⟨_,au _ rfl,rfl,rfl⟩,fun b hb=>?_,q⟩;have e:b=s1.heap.objs.size:=by simpa using hb
  subst e;exact I1.xT (ax _) (I1.hok.fresh (ax _))
 ·obtain⟨a,e,⟨xs,hq⟩,q⟩:=q1
  subst e;cases r1;obtain⟨its,rv,p,hz⟩:=I1.tuple hq;refine gy (show s1.heap.IsTuple a its.toArray from p) ?_;refine⟨s1.heap.objs.size,[s1.heap.objs.size],_,_,H1,rfl,I1.kept (t':=s1.toks) fun b o e=>ah _ e,rY a _,⟨_,au _ rfl,rfl,rfl⟩,fun b hb=>?_,q⟩;have e:b=s1.heap.objs.size:=by simpa using hb
  subst e;exact I1.xT (ax _) (I1.hok.fresh (ax _))
 ·obtain⟨z,e,q⟩:=q1
  subst e;obtain⟨t,rfl⟩:=r1;refine wpAny_pyIter_strU ?_;refine⟨s1.heap.objs.size,[s1.heap.objs.size],_,_,H1,rfl,I1.kept (t':=s1.toks) fun b o e=>ah _ e,Fd z _ t,⟨_,au _ rfl,rfl,rfl⟩,fun b hb=>?_,q⟩;have e:b=s1.heap.objs.size:=by simpa using hb
  subst e;exact I1.xT (ax _) (I1.hok.fresh (ax _))
end
set_option maxHeartbeats 4000000
section
variable {CX:CXT}{G:Gam}
structure mL(sc sc':Scope)(N own:List Str)(fr:List Nat):Prop where
 kind:sc'.kind=.function
 cellk:∀y∈sc'.names,y.2=.cell->sc'.names.lookup y.1=some .cell
 own1:∀y∈sc'.names,y.2=.local->sc'.names.lookup y.1=some .local
 free:∀y∈sc'.names,y.2=.free->sc.names.lookup y.1=some .cell\/sc.names.lookup y.1=some .free
 nd:(namesOf N own fr).Nodup
 fr:∀j∈fr,j<N.length/\sc'.names.lookup (N.getD j "")=some .free
 own2:∀x∈own,sc'.names.lookup x=some .local\/sc'.names.lookup x=some .cell
theorem sA{sc sc':Scope}{N own:List Str}{fr:List Nat}(h:xE sc sc' N own fr=true):mL sc sc' N own fr:=by
 unfold xE at h;simp only[aL,bE,decide_eq_true_eq,beq_iff_eq,dj]at h;obtain⟨⟨⟨⟨⟨⟨h1,h2⟩,h3⟩,h4⟩,h5⟩,h6⟩,h7⟩:=h;exact⟨h1,h2,h3,h4,h5,h6,h7⟩
theorem mL.comp{E:XS}{sc sc':Scope}{N own:List Str}{fr:List Nat}{all:Bool}{X:Cx}(S:mL sc sc' N own fr)(o:Ok CX G E sc N all X):mM X (namesOf N own fr) sc':=
 ⟨S.kind,S.cellk,S.own1,fun y hy hf=>by
  rcases S.free y hy hf with q|q
  ·exact .inl (o.cel _ q)
  ·exact o.fre _ q⟩
theorem mL.mkOk{E:XS}{sc sc':Scope}{N own:List Str}{fr:List Nat}{all:Bool}{X:Cx}(S:mL sc sc' N own fr)(o:Ok CX G E sc N all X):MkOk X (namesOf N own fr) sc' (mx own fr):=by
 intro σ hl;refine⟨by simp[mx,namesOf],fun i x v h1 h2=>?_⟩;unfold mx at h2;unfold namesOf at h1;by_cases hi:i<own.length
 ·rw[eZ (by simpa using hi),ak]at h2
  cases q:own[i]? with
  |none=>rw[q]at h2;cases h2
  |some z=>rw[q]at h2;cases h2
 ·rw[cX (by simpa using hi),ak,ai]at h2
  rw[cX (by simpa using hi),ak]at h1;cases q:fr[i-own.length]? with
  |none=>rw[q]at h2;cases h2
  |some j=>
   rw[q]at h1 h2;have hx:N.getD j ""=x:=aT h1;have hv:(σ[j]?).getD none=some v:=aT h2;obtain⟨hj,hf⟩:=S.fr j (aG q);refine⟨by rw[<-hx];exact hf,j,?_,?_⟩
   ·rw[o.names,<-hx,ag,ae hj];rfl
   ·cases w:σ[j]? with
    |none=>rw[w]at hv;cases hv
    |some z=>rw[w]at hv;exact congrArg some hv
noncomputable abbrev HX(CX:CXT):Prop:=∀o H s e s',CX o H s E0 e s'->False
theorem Ok.comp{E:XS}{sc sc':Scope}{N own:List Str}{fr:List Nat}{all:Bool}{X:Cx}(hCX:HX CX)(S:mL sc sc' N own fr)(o:Ok CX G E sc N all X)(C:Addr)(s₀:Shared)(H₀:Hp)(fp:List Addr):
  Ok CX G N0 sc' (namesOf N own fr) false (dU X (namesOf N own fr) sc' C s₀ H₀ fp) where
 names:=rfl
 nd:=S.nd
 loc:=fun x h=>lookup_relabel_local (env:=X.env) h
 cel:=fun x h=>gd (env:=X.env) h (by decide)
 own:=fun x h=>cw.mpr ⟨(x,.cell),bj h,by simp⟩
 fre:=fun x h=>(gG (env:=X.env) h).symm
 glo:=fun x h=>gd (env:=X.env) h (by decide)
 all:=fun h=>absurd h (by decide)
 calm:=o.calm
 hu:=o.hu
 val:=o.val
 fn:=o.fn
 ini:=o.ini
 dic:=o.dic
 mak:=o.mak
 mth:=o.mth
 blt:=o.blt
 px:=PassesOwn.never
 pass:=fun _ _ _ _ _ _ _ h=>(hCX _ _ _ _ _ h).elim
 made:=fun _ _ _ _ _ _ _ _ _ _ h=>h.elim
 madeX:=fun _ _ _ _ _ _ _ _ _ h=>h.elim
 cx:=o.cx
 top:=fun h=>absurd h (by decide)
theorem oK{sc:Scope}{N:List Str}{all:Bool}{g:CG}{e:Expr}(h:uT sc N all g e=true)(es:List Expr)(env:Env):fj (e::es) env=(false,assign e env)::fj es env:=by
 cases e<;>first
  |rfl
  | (cases g<;>exact dS h)
theorem tP{sc:Scope}{N:List Str}{all:Bool}{g:CG}{r:CGs}{es:List Expr}(h:qK sc N all (.cons g r) es=true):∃e' r',es=e'::r'/\uT sc N all g e'=true/\qK sc N all r r'=true:=
 let⟨e',r',a,k⟩:=yN h
 ⟨e',r',a,an k⟩
theorem vR{sc:Scope}{N:List Str}{all:Bool}{es:List Expr}(h:qK sc N all .nil es=true):es=[]:=nil_of h
theorem ma{sc:Scope}{N:List Str}{all:Bool}:∀{gs:CGs}{es:List Expr},qK sc N all gs es=true->∀env,(fj es env).length=gs.len/\(fj es env).findIdx? (·.1)=none
 |.nil,es,h,env=>by rw[vR h];exact⟨rfl,rfl⟩
 |.cons g r,es,h,env=>by
  obtain⟨e',r',rfl,h1,h2⟩:=tP h;obtain⟨a,b⟩:=ma h2 env;rw[oK h1];refine⟨by rw[bS,a,CGs.len],?_⟩;rw[List.findIdx?_cons];simp[b]
end
section
variable {CX:CXT}{G:Gam}
noncomputable abbrev IHE(CX:CXT)(G:Gam)(c:CE):Prop:=∀(e:Expr){E:XS}{sc:Scope}{N:List Str}{all:Bool}{X:Cx},Ok CX G E sc N all X->dO sc N c e=true->PE X e (wpE G X.K E c)
noncomputable abbrev IHT(CX:CXT)(G:Gam)(c:CE):Prop:=∀(e:Expr){E:XS}{sc:Scope}{N:List Str}{all:Bool}{X:Cx},Ok CX G E sc N all X->dO sc N c e=true->PT X e (wpT G X.K E c)
noncomputable def isBo:Expr->Bool
 |.BoolOp .. =>true
 |_=>false
noncomputable abbrev IHW(CX:CXT)(G:Gam)(c:CE):Prop:=∀(e:Expr){E:XS}{sc:Scope}{N:List Str}{all:Bool}{X:Cx},Ok CX G E sc N all X->dO sc N c e=true->isBo e=true->PW X e (wpT G X.K E c)
noncomputable abbrev IHL(CX:CXT)(G:Gam)(c:CL):Prop:=∀(es:List Expr){E:XS}{sc:Scope}{N:List Str}{all:Bool}{X:Cx},Ok CX G E sc N all X->o9 sc N c es=true->PA X es (wpL G X.K E c)
noncomputable abbrev IHP(CX:CXT)(G:Gam)(c:CP):Prop:=∀(ks:List (Option Expr))(vs:List Expr){E:XS}{sc:Scope}{N:List Str}{all:Bool}{X:Cx},Ok CX G E sc N all X->chkP sc N c ks vs=true->∀pos,
  PPs X pos ks vs (wpP G X.K E c)/\ks.all (·.isSome)=true/\ks.length=vs.length/\(c≠.nil->ks≠[])
noncomputable abbrev IHO(CX:CXT)(G:Gam)(c:CO):Prop:=∀(e:Option Expr){E:XS}{sc:Scope}{N:List Str}{all:Bool}{X:Cx},Ok CX G E sc N all X->chkO sc N c e=true->PO X e (wpO G X.K E c)
noncomputable abbrev IHC(CX:CXT)(G:Gam)(c:CO):Prop:=∀(es:List Expr){E:XS}{sc:Scope}{N:List Str}{all:Bool}{X:Cx},Ok CX G E sc N all X->chkC sc N c es=true->PTs X es (wpC G X.K E c)
noncomputable abbrev IHG(CX:CXT)(G:Gam)(c:CG):Prop:=∀(e:Expr){E:XS}{sc:Scope}{N:List Str}{all:Bool}{X:Cx},Ok CX G E sc N all X->uT sc N all c e=true->PG X e (wpG G X.K E c)
noncomputable abbrev EA(CX:CXT)(G:Gam)(c:CGs):Prop:=∀(es:List Expr){E:XS}{sc:Scope}{N:List Str}{all:Bool}{X:Cx},Ok CX G E sc N all X->qK sc N all c es=true->PGs X es (E8 G X.K E c)
noncomputable abbrev IHI(CX:CXT)(G:Gam)(c:CI):Prop:=∀(e tg:Expr){E:XS}{sc:Scope}{N:List Str}{all:Bool}{X:Cx},Ok CX G E sc N all X->chkI sc N c e tg=true->PI X tg e (wpI G X.K E c)
theorem FO{i:Nat}:IHE CX G (.var i):=by
  intro e E sc N all X o h;obtain⟨x,p,rfl,k⟩:=lu h;obtain⟨h1,h2,h3⟩:=jk k;obtain⟨d1,d2⟩:=lU h3;exact pe_var (by rw[o.names];exact beq_iff_eq.mp h1) (o.vis h2) d1 d2
theorem FU{c:Const}:IHE CX G (.con c):=by
  intro e E sc N all X o h;obtain⟨c',j,p,rfl,k⟩:=HQ h;obtain⟨h1,h2⟩:=an k;cases of_decide_eq_true h2;cases c with
  |none=>exact pe_non
  |bool b=>exact pe_bl
  |int i=>exact pe_int
  |str x=>exact pe_str
  |_=>exact dS h1
theorem FT{x:Str}:IHE CX G (.glo x):=by
  intro e E sc N all X o h;obtain⟨y,p,rfl,k⟩:=lu h;obtain⟨h1,h2,h3⟩:=jk k;cases of_decide_eq_true h1;intro pins s σ H Q I hw;obtain⟨v,hv,q⟩:=hw;obtain⟨u,hu,r⟩:=o.val _ _ hv;exact pe_glob (o.gl h2) hu r (lU h3).1 pins s σ H Q I q
theorem sE_ty{t:Ty}:IHE CX G (.ty t):=by
  intro e E sc N all X o h;obtain⟨y,p,rfl,k⟩:=lu h;obtain⟨h1,h2⟩:=an k;cases of_decide_eq_true h1;exact pe_bltn (o.gl h2) (o.blt _ t.mem) t.boot rfl t.plain.1 t.plain.2
theorem sE_bin{op:Operator}{a b:CE}(ia:IHE CX G a)(ib:IHE CX G b):IHE CX G (.bin op a b):=by
  intro e E sc N all X o h;obtain⟨a',op',b',p,rfl,k⟩:=dBi_of h;obtain⟨h1,h2,h3⟩:=jk k;cases of_decide_eq_true h1;exact pe_op (rBin_ok op) (ia _ o h2) (ib _ o h3)
theorem sE_un{op:UnaryOp}{a:CE}(ia:IHE CX G a):IHE CX G (.un op a):=by
  intro e E sc N all X o h;obtain⟨op',a',p,rfl,k⟩:=BD h;obtain⟨h1,h2⟩:=an k;cases of_decide_eq_true h1;exact pe_un (rUn_ok op) (ia _ o h2)
theorem sE_cmp{op:CmpOp}{a b:CE}(ia:IHE CX G a)(ib:IHE CX G b):IHE CX G (.cmp op a b):=by
  intro e E sc N all X o h;obtain⟨a',op',b',p,rfl,h0,k⟩:=HS h;obtain⟨h1,h2,h3⟩:=jk k;cases of_decide_eq_true h1;exact pe_cmpR (my o.hu op) (ia _ o h2) (ib _ o h3) (mF h0 op)
theorem FV{o1 o2:CmpOp}{a b c:CE}(ia:IHE CX G a)(ib:IHE CX G b)(ic:IHE CX G c):IHE CX G (.chain o1 o2 a b c):=by
  intro e E sc N all X o h;obtain⟨a',os,es,p,rfl,k⟩:=BH h;obtain⟨p',q',rfl,l⟩:=vE k;obtain⟨b',c',rfl,m⟩:=vE l;obtain⟨h1,h2,h3,n⟩:=n8 m;obtain⟨h4,h5,h6⟩:=jk n;cases of_decide_eq_true h1;cases of_decide_eq_true h2;exact Gs (my o.hu o1) (my o.hu o2) (ia _ o h4) (ib _ o h5) (ic _ o h6) (mF (qY h3) o2)
theorem sE_not{a:CE}(ia:IHE CX G a):IHE CX G (.not a):=by
  intro e E sc N all X o h;obtain⟨op',a',p,rfl,k⟩:=BD h;obtain⟨h1,h2⟩:=an k;cases of_decide_eq_true h1;exact pe_not (ia _ o h2)
theorem sE_and{a b:CE}(ia:IHE CX G a)(ib:IHE CX G b):IHE CX G (.and a b):=by
  intro e E sc N all X o h;obtain⟨op,a',x,p,k,m⟩:=qj h;obtain⟨h1,h2,h3⟩:=jk k;cases of_decide_eq_true h1;rcases m with rfl|⟨b',c',r,rfl,rfl⟩
  ·exact Gz (ia _ o h2) (Gn (ib _ o h3))
  ·exact Gz (ia _ o h2) (ib _ o h3)
theorem sE_or{a b:CE}(ia:IHE CX G a)(ib:IHE CX G b):IHE CX G (.or a b):=by
  intro e E sc N all X o h;obtain⟨op,a',x,p,k,m⟩:=qj h;obtain⟨h1,h2,h3⟩:=jk k;cases of_decide_eq_true h1;rcases m with rfl|⟨b',c',r,rfl,rfl⟩
  ·exact pe_or (ia _ o h2) (Gn (ib _ o h3))
  ·exact pe_or (ia _ o h2) (ib _ o h3)
theorem sE_ite{c a b:CE}(ic:IHT CX G c)(ia:IHE CX G a)(ib:IHE CX G b):IHE CX G (.ite c a b):=by
  intro e E sc N all X o h;obtain⟨c',a',b',p,rfl,k⟩:=dIf_of h;obtain⟨h1,h2,h3⟩:=jk k;exact Gp (ic _ o h1) (ia _ o h2) (ib _ o h3)
theorem FR{a i:CE}(ia:IHE CX G a)(ii:IHE CX G i):IHE CX G (.idx a i):=by
  intro e E sc N all X o h;obtain⟨a',i',p,rfl,k⟩:=tK h;obtain⟨h1,h2,h3⟩:=jk k;exact pe_ix ix_seq (ia _ o h2) (ii _ o h3) (zg (qY h1))
theorem sE_cut{a:CE}{lo hi:CO}(ia:IHE CX G a)(il:IHO CX G lo)(ih:IHO CX G hi):IHE CX G (.cut a lo hi):=by
  intro e E sc N all X o h;obtain⟨a',s,p,rfl,k⟩:=tK h;obtain⟨l,u,t,p',rfl,m⟩:=dSl_of k;obtain⟨h1,h2,n⟩:=jk m;obtain⟨h3,h4⟩:=an n;cases gO.mp h1;exact Gk rSlc_ok (ia _ o h2) (il _ o h3) (ih _ o h4)
theorem sE_tup{es:CL}(ie:IHL CX G es):IHE CX G (.tup es):=by
  intro e E sc N all X o h;obtain⟨es',j,p,rfl,k⟩:=BE h;exact pe_tup (ie _ o k)
theorem sE_lst{es:CL}(ie:IHL CX G es):IHE CX G (.lst es):=by
  intro e E sc N all X o h;obtain⟨es',p,rfl,k⟩:=dLi_of h;exact pe_lst (ie _ o k)
theorem B8{f:Str}{es:CL}(ie:IHL CX G es):IHE CX G (.call f es):=by
  intro e E sc N all X o h;obtain⟨f',np,es',p,rfl,k⟩:=ke h;obtain⟨h1,h2,h3,h4⟩:=n8 k;cases of_decide_eq_true h1;intro pins s σ H Q I hw;obtain⟨sp,dvs,hf,hw⟩:=hw;obtain⟨fa,fd,ps,ds,k,F,hr,hm,hk,hb,hd⟩:=o.fn _ _ _ _ hf;cases es' with
  |nil=>
   cases es with
   |nil=>exact DM F hr (o.gl h2) hm hk hb hd o.pass (lU h3).1 pins s σ H Q I hw
   |cons=>exact dS h4
  |cons e1 r1=>
   have hL:=ie _ o h4;obtain⟨_,_,e,hs⟩:=Fu h4 rfl;cases e;exact Gu F hr (o.gl h2) hm hk hb hd o.pass hL (lU h3).1 (hs _ p).1 (hs _ _).2 pins s σ H Q I hw
theorem Bf.kind:∀b:Bf,(∃n,b.val=.builtin n)\/∃n,b.val=.type n:=by intro b;cases b<;>first |exact .inl ⟨_,rfl⟩ |exact .inr ⟨_,rfl⟩
theorem pe_bf{X:Cx}{b:Bf}{np pos:Pos}{es:List Expr}{t:TA}{l:CL}{sc:Scope}{N:List Str}(hB:fO X b.val (rBf X.K b))(hg:Gl X b.name)(hm:X.mg b.name=none)(hL:PA X es t)(hn:(!es.isEmpty)=true)(h:o9 sc N l es=true):PE X (.Call (.Name b.name np) es [] pos) (tCB (rBf X.K b) t):=by
 obtain⟨e,es',rfl,hs⟩:=Fu h hn;have hv:=b.boot;rcases b.kind with⟨n,q⟩ |⟨n,q⟩
 ·rw[q]at hB hv
  exact Gy hB hg hm hv hL b.plain.1 b.plain.2 (hs _ pos).1 (hs _ _).2
 ·rw[q]at hB hv
  exact DL hB hg hm hv hL b.plain.1 b.plain.2 (hs _ pos).1 (hs _ _).2
theorem FW{b:Bf}{es:CL}(ie:IHL CX G es):IHE CX G (.bfn b es):=by
  intro e E sc N all X o h;obtain⟨f',np,es',p,rfl,k⟩:=ke h;obtain⟨h1,h2,h3,h4⟩:=n8 k;cases of_decide_eq_true h1;exact pe_bf (rBf_ok o.calm o.hu b) (o.gl h2) (o.blt _ b.mem) (ie _ o h4) h3 h4
theorem FQ{m:Mm}{b a:CE}(ib:IHE CX G b)(ia:IHE CX G a):IHE CX G (.meth1 m b a):=by
  intro e E sc N all X o h;obtain⟨o',ap,es,cp,rfl,h0,k⟩:=HP h;obtain⟨a',rfl,l⟩:=kR k;obtain⟨h1,h2,h3⟩:=jk l;exact pe_bm PySem.F.plainAttrs_list m.slot m.ty (rMm_ok m) (ib _ o h2) (gS (ia _ o h3) j9 (cA h3 _ _)) (Dd h1 _ _ _) (by rw[cA h3];rfl) h0 (cA h3 _ _) rfl
theorem sE_idxd{a i:CE}(ia:IHE CX G a)(ii:IHE CX G i):IHE CX G (.idxd a i):=by
  intro e E sc N all X o h;obtain⟨a',i',p,rfl,k⟩:=tK h;obtain⟨h1,h2,h3⟩:=jk k;exact pe_ix (ix_dict (by have :=o.hu;omega)) (ia _ o h2) (ii _ o h3) (zg (qY h1))
theorem sE_dicT:IHE CX G .dicT:=by
  intro e E sc N all X o h;obtain⟨ks,vs,p,rfl,k⟩:=dDi_of h;obtain⟨h3,h4⟩:=an k;obtain rfl:=nil_of h3;obtain rfl:=nil_of h4;exact Gq
theorem sE_setd{b a c:CE}(ib:IHE CX G b)(ia:IHE CX G a)(ic:IHE CX G c):IHE CX G (.setd b a c):=by
  intro e E sc N all X o h;obtain⟨o',ap,es,cp,rfl,h0,k⟩:=HP h;obtain⟨a',b',rfl,l⟩:=vE k;obtain⟨h1,h2,m⟩:=jk l;obtain⟨h3,h4⟩:=an m;exact pe_bm PySem.F.plainAttrs_dict um PySem.F.type_dict_setdefault (DZ (by have :=o.hu;omega)) (ib _ o h2) (gS (ia _ o h3) (gS (ic _ o h4) j9 (cA h4 _ _)) (cA h3 _ _)) (Dd h1 _ _ _) (by rw[cA h3,cA h4];rfl) h0 (cA h3 _ _) (by rw[cA h4];rfl)
theorem sE_lrng{a:CE}(ia:IHE CX G a):IHE CX G (.lrng a):=by
  intro e E sc N all X o h;obtain⟨p,a',q,r,t,rfl,h1,h2,h3⟩:=BG h;exact pe_lrng o.calm (o.gl h2) (o.blt _ (by decide+kernel)) (o.gl h1) (o.blt _ (by decide+kernel)) (gS (ia _ o h3) j9 (cA h3 _ _)) (cA h3 _ _)
theorem AZ{a:CE}(ia:IHE CX G a):IHE CX G (.sortset a):=by
  intro e E sc N all X o h;obtain⟨p,a',q,r,t,rfl,h1,h2,h3⟩:=BG h;exact A7 o.calm (o.gl h1) (o.blt _ (by decide+kernel)) (o.gl h2) (o.blt _ (by decide+kernel)) (gS (ia _ o h3) j9 (cA h3 _ _)) (cA h3 _ _)
theorem FP{a:CE}(ia:IHE CX G a):IHE CX G (.ssetl a):=by
  intro e E sc N all X o h;obtain⟨p,a',q,r,t,rfl,h1,h2,h3⟩:=BG h;exact zh o.calm o.hu (o.gl h1) (o.blt _ (by decide+kernel)) (o.gl h2) (o.blt _ (by decide+kernel)) (gS (ia _ o h3) j9 (cA h3 _ _)) (cA h3 _ _)
theorem sE_comp(hCX:HX CX){own:List Str}{fr:List Nat}{tg:CG}{it:CI}{cond:CO}{elt:CE}(ii:IHI CX G it)(ig:IHG CX G tg)(ic:IHC CX G cond)(ie:IHE CX G elt):IHE CX G (.comp own fr tg it cond elt):=by
  intro e E sc N all X o h;obtain⟨elt',gs,sc',p,rfl,k⟩:=BF h;obtain⟨⟨tg',it',ifs',y⟩,rfl,l⟩:=kR k;obtain⟨h1,h2,h3,m⟩:=n8 l;obtain⟨h4,h5,h6,h7⟩:=n8 m;cases of_decide_eq_true h1;have S:=sA h2;exact pe_comp (S.comp o) (S.mkOk o) o.calm (ii _ _ o h4)
   (fun C s₀ H₀ fp _=>⟨ig _ (o.comp hCX S C s₀ H₀ fp) h5,ic _ (o.comp hCX S C s₀ H₀ fp) h6,ie _ (o.comp hCX S C s₀ H₀ fp) h7⟩) (xG (qY h3) _)
theorem sT_cmp{op:CmpOp}{a b:CE}(ia:IHE CX G a)(ib:IHE CX G b):IHT CX G (.cmp op a b):=by
  intro e E sc N all X o h;obtain⟨a',op',b',p,rfl,h0,k⟩:=HS h;obtain⟨h1,h2,h3⟩:=jk k;cases of_decide_eq_true h1;exact pt_cmpR (my o.hu op) (ia _ o h2) (ib _ o h3) (mF h0 op)
theorem FJ{o1 o2:CmpOp}{a b c:CE}(ia:IHE CX G a)(ib:IHE CX G b)(ic:IHE CX G c):IHT CX G (.chain o1 o2 a b c):=by
  intro e E sc N all X o h;obtain⟨a',os,es,p,rfl,k⟩:=BH h;obtain⟨p',q',rfl,l⟩:=vE k;obtain⟨b',c',rfl,m⟩:=vE l;obtain⟨h1,h2,h3,n⟩:=n8 m;obtain⟨h4,h5,h6⟩:=jk n;cases of_decide_eq_true h1;cases of_decide_eq_true h2;exact F7 (my o.hu o1) (my o.hu o2) (ia _ o h4) (ib _ o h5) (ic _ o h6) (mF (qY h3) o2)
theorem sT_not{a:CE}(ia:IHT CX G a):IHT CX G (.not a):=by
  intro e E sc N all X o h;obtain⟨op',a',p,rfl,k⟩:=BD h;obtain⟨h1,h2⟩:=an k;cases of_decide_eq_true h1;exact pt_not (ia _ o h2)
theorem sT_var{i:Nat}:IHT CX G (.var i):=by
  intro e E sc N all X o h;have q:=FO e o h;obtain⟨x,p,rfl,k⟩:=lu h;exact kO q fun _=>rfl
theorem sT_con{c:Const}:IHT CX G (.con c):=by
  intro e E sc N all X o h;have q:=FU e o h;obtain⟨x,j,p,rfl,k⟩:=HQ h;exact kO q fun _=>rfl
theorem sT_glo{x:Str}:IHT CX G (.glo x):=by
  intro e E sc N all X o h;have q:=FT e o h;obtain⟨x,p,rfl,k⟩:=lu h;exact kO q fun _=>rfl
theorem sT_idx{a i:CE}(ia:IHE CX G a)(ii:IHE CX G i):IHT CX G (.idx a i):=by
  intro e E sc N all X o h;have q:=FR ia ii e o h;obtain⟨x,y,p,rfl,k⟩:=tK h;exact kO q fun _=>rfl
theorem sT_call{f:Str}{es:CL}(ie:IHL CX G es):IHT CX G (.call f es):=by
  intro e E sc N all X o h;have q:=B8 ie e o h;obtain⟨x,np,es,p,rfl,k⟩:=ke h;exact kO q fun _=>rfl
theorem sT_bfn{b:Bf}{es:CL}(ie:IHL CX G es):IHT CX G (.bfn b es):=by
  intro e E sc N all X o h;have q:=FW ie e o h;obtain⟨x,np,es,p,rfl,k⟩:=ke h;exact kO q fun _=>rfl
theorem FI{a b:CE}(ia:IHT CX G a)(ib:IHT CX G b)(iw:IHW CX G b):IHW CX G (.and a b):=by
  intro e E sc N all X o h;obtain⟨op,a',x,p,k,m⟩:=qj h;obtain⟨h1,h2,h3⟩:=jk k;cases of_decide_eq_true h1;rcases m with rfl|⟨b',c',r,rfl,rfl⟩
  ·exact fun _=>F5 (ia _ o h2) (pw_and1 (ib _ o h3))
  ·exact fun _=>F5 (ia _ o h2) (iw _ o h3 rfl)
theorem sT_and{a b:CE}(iw:IHW CX G (.and a b)):IHT CX G (.and a b):=by
  intro e E sc N all X o h;obtain⟨op,a',x,p,k,m⟩:=qj h;exact(iw _ o h (by rcases m with rfl|⟨b',c',r,rfl,rfl⟩<;>rfl)).pt
theorem sW_or{a b:CE}(ia:IHT CX G a)(ib:IHT CX G b)(iw:IHW CX G b):IHW CX G (.or a b):=by
  intro e E sc N all X o h;obtain⟨op,a',x,p,k,m⟩:=qj h;obtain⟨h1,h2,h3⟩:=jk k;cases of_decide_eq_true h1;rcases m with rfl|⟨b',c',r,rfl,rfl⟩
  ·exact fun _=>pw_or (ia _ o h2) (pw_or1 (ib _ o h3))
  ·exact fun _=>pw_or (ia _ o h2) (iw _ o h3 rfl)
theorem sT_or{a b:CE}(iw:IHW CX G (.or a b)):IHT CX G (.or a b):=by
  intro e E sc N all X o h;obtain⟨op,a',x,p,k,m⟩:=qj h;exact(iw _ o h (by rcases m with rfl|⟨b',c',r,rfl,rfl⟩<;>rfl)).pt
theorem sL_nil:IHL CX G .nil:=by
  intro es E sc N all X o h;obtain rfl:=o8 h;exact j9
theorem sL_cons{c:CE}{r:CL}(ic:IHE CX G c)(ir:IHL CX G r):IHL CX G (.cons c r):=by
  intro es E sc N all X o h;obtain⟨e',r',rfl,h1,h2⟩:=mJ h;exact gS (ic _ o h1) (ir _ o h2) (cA h1 _ _)
theorem sP_nil:IHP CX G .nil:=by
  intro ks vs E sc N all X o h pos;obtain⟨h1,h2⟩:=an h;obtain rfl:=nil_of h1;obtain rfl:=nil_of h2;exact⟨pps_nil,rfl,rfl,fun z=>absurd rfl z⟩
theorem sP_cons{k v:CE}{r:CP}(ir:IHP CX G r)(ik:IHE CX G k)(iv:IHE CX G v):IHP CX G (.cons k v r):=by
  intro ks vs E sc N all X o h pos;obtain⟨k',ks',rfl,l⟩:=yN h;obtain⟨v',vs',rfl,m⟩:=yN l;obtain⟨k',rfl,n⟩:=GG m;obtain⟨h1,h2,h3⟩:=jk n;obtain⟨p1,p2,p3,_⟩:=ir _ _ o h3 pos;exact⟨Gd (ik _ o h1) (iv _ o h2) p1,by simp[p2],by simp[p3],fun _=>by simp⟩
theorem sO_no:IHO CX G .no:=by
  intro e E sc N all X o h;obtain rfl:=gO.mp h;exact po_none
theorem sO_yes{c:CE}(ic:IHE CX G c):IHO CX G (.yes c):=by
  intro e E sc N all X o h;obtain⟨e',rfl,k⟩:=GG h;exact po_some (ic _ o k)
theorem sC_no:IHC CX G .no:=by
  intro es E sc N all X o h;obtain rfl:=nil_of h;exact pts_nil
theorem sC_yes{c:CE}(ic:IHT CX G c):IHC CX G (.yes c):=by
  intro es E sc N all X o h;obtain⟨e',rfl,k⟩:=kR h;exact pts_one (ic _ o k)
theorem sG_name{i:Nat}:IHG CX G (.name i):=by
  intro e E sc N all X o h;obtain⟨x,p,rfl,k⟩:=lu h;rw[aL,dj,beq_iff_eq,beq_iff_eq,beq_iff_eq]at k;obtain⟨h1,h2⟩:=k;refine Ci (by rw[o.names];exact o.nd) (by rw[o.names];exact h1) ?_ ?_
  ·rcases h2 with q|q
   ·exact .inl (o.loc x q)
   ·exact .inr (o.cel x q)
  ·rcases h2 with q|q
   ·exact .inr (o.loc x q)
   ·exact .inl (o.own x q)
theorem sG_tup{gs:CGs}(ig:EA CX G gs):IHG CX G (.tup gs):=by
  intro e E sc N all X o h;obtain⟨es,j,p,rfl,k⟩:=BE h;obtain⟨a,b⟩:=ma k X.env;exact pg_tup o.calm (ig _ o k) a b
theorem sG_ltup{gs:CGs}(ig:EA CX G gs):IHG CX G (.ltup gs):=by
  intro e E sc N all X o h;obtain⟨es,j,p,rfl,k⟩:=BE h;obtain⟨a,b⟩:=ma k X.env;exact pg_lst o.calm (ig _ o k) a b
theorem sG_sub{b i:CE}(ib:IHE CX G b)(ii:IHE CX G i):IHG CX G (.sub b i):=by
  intro e E sc N all X o h;obtain⟨o',i',p,rfl,k⟩:=tK h;obtain⟨h1,h2,h3⟩:=jk k;refine pg_sub (ib _ o h2) (ii _ o h3) set_list fun v=>?_;cases i'<;>first
   |rfl
   |exact dS h1
theorem sGs_nil:EA CX G .nil:=by
  intro es E sc N all X o h;obtain rfl:=vR h;exact pgs_nil
theorem FN{c:CG}{r:CGs}(ic:IHG CX G c)(ir:EA CX G r):EA CX G (.cons c r):=by
  intro es E sc N all X o h;obtain⟨e',r',rfl,h1,h2⟩:=tP h;exact Gg (ic _ o h1) (ir _ o h2) (by rw[oK h1];rfl)
theorem sI_seq{c:CE}(ic:IHE CX G c):IHI CX G (.seq c):=by
  intro e tg E sc N all X o h;exact pi_any (ic _ o h)
theorem sI_lseq{c:CE}(ic:IHE CX G c):IHI CX G (.lseq c):=by
  intro e tg E sc N all X o h;exact pi_list (ic _ o h)
theorem sI_tseq{c:CE}(ic:IHE CX G c):IHI CX G (.tseq c):=by
  intro e tg E sc N all X o h;exact pi_tup (ic _ o h)
theorem DG{c:CE}(ic:IHE CX G c):IHI CX G (.range1 c):=by
  intro e tg E sc N all X o h;obtain⟨f,np,es,p,rfl,k⟩:=ke h;obtain⟨e',rfl,l⟩:=kR k;obtain⟨h1,h2,h3⟩:=jk l;cases of_decide_eq_true h1;exact DK (o.gl h2) (o.blt _ (by decide+kernel)) (gS (ic _ o h3) j9 (cA h3 _ _)) (cA h3 _ _)
theorem DF{a b:CE}(ia:IHE CX G a)(ib:IHE CX G b):IHI CX G (.range2 a b):=by
  intro e tg E sc N all X o h;obtain⟨f,np,es,p,rfl,k⟩:=ke h;obtain⟨a',b',rfl,l⟩:=vE k;obtain⟨h1,h2,h3,h4⟩:=n8 l;cases of_decide_eq_true h1;exact DJ (o.gl h2) (o.blt _ (by decide+kernel)) (gS (ia _ o h3) (gS (ib _ o h4) j9 (cA h4 _ _)) (cA h3 _ _)) (by rw[cA h3,cA h4];rfl) (cA h4 _ _)
theorem Ee{e:Expr}(h:nX e=true):∃es k p,e=.Tuple es k p:=by cases e<;>first |exact⟨_,_,_,rfl⟩ |exact dS h
theorem FL{c:CE}(ic:IHE CX G c):IHI CX G (.enumt c):=by
  intro e tg E sc N all X o h;obtain⟨f,np,es,p,rfl,k⟩:=ke h;obtain⟨e',rfl,l⟩:=kR k;obtain⟨h1,h2,h3,h4⟩:=n8 l;cases of_decide_eq_true h1;obtain⟨es,j,p',rfl⟩:=Ee h4;exact Gf (o.gl h2) (o.blt _ (by decide+kernel)) (gS (ic _ o h3) j9 (cA h3 _ _)) (cA h3 _ _)
mutual
theorem bI(hCX:HX CX):∀c:CE,IHE CX G c
 |.var i=>FO
 |.con c=>FU
 |.glo x=>FT
 |.ty t=>sE_ty
 |.bin op a b=>sE_bin (bI hCX a) (bI hCX b)
 |.un op a=>sE_un (bI hCX a)
 |.cmp op a b=>sE_cmp (bI hCX a) (bI hCX b)
 |.chain o1 o2 a b c=>FV (bI hCX a) (bI hCX b) (bI hCX c)
 |.not a=>sE_not (bI hCX a)
 |.and a b=>sE_and (bI hCX a) (bI hCX b)
 |.or a b=>sE_or (bI hCX a) (bI hCX b)
 |.ite c a b=>sE_ite (i6 hCX c) (bI hCX a) (bI hCX b)
 |.idx a i=>FR (bI hCX a) (bI hCX i)
 |.cut a lo hi=>sE_cut (bI hCX a) (FC hCX lo) (FC hCX hi)
 |.tup es=>sE_tup (lS hCX es)
 |.lst es=>sE_lst (lS hCX es)
 |.call f es=>B8 (lS hCX es)
 |.bfn b es=>FW (lS hCX es)
 |.meth1 m b a=>FQ (bI hCX b) (bI hCX a)
 |.idxd a i=>sE_idxd (bI hCX a) (bI hCX i)
 |.dicT=>sE_dicT
 |.setd b a c=>sE_setd (bI hCX b) (bI hCX a) (bI hCX c)
 |.lrng a=>sE_lrng (bI hCX a)
 |.sortset a=>AZ (bI hCX a)
 |.ssetl a=>FP (bI hCX a)
 |.comp own fr tg it cond elt=>sE_comp hCX (AU hCX it) (pX hCX tg) (FD hCX cond) (bI hCX elt)
theorem i6(hCX:HX CX)(c:CE):IHT CX G c:=by
 cases c with
 |cmp op a b=>exact sT_cmp (bI hCX a) (bI hCX b)
 |chain p q a b c=>exact FJ (bI hCX a) (bI hCX b) (bI hCX c)
 |not a=>exact sT_not (i6 hCX a)
 |and a b=>exact sT_and (FI (i6 hCX a) (i6 hCX b) (w8 hCX b))
 |or a b=>exact sT_or (sW_or (i6 hCX a) (i6 hCX b) (w8 hCX b))
 |var i=>exact sT_var
 |con c=>exact sT_con
 |glo x=>exact sT_glo
 |idx a i=>exact sT_idx (bI hCX a) (bI hCX i)
 |call f es=>exact sT_call (lS hCX es)
 |bfn b es=>exact sT_bfn (lS hCX es)
 |_=>exact fun _ _ _ _ _ _ _ _ _ _ _ _ _ _ z=>z.elim
theorem w8(hCX:HX CX)(c:CE):IHW CX G c:=by
 cases c with
 |and a b=>exact FI (i6 hCX a) (i6 hCX b) (w8 hCX b)
 |or a b=>exact sW_or (i6 hCX a) (i6 hCX b) (w8 hCX b)
 |_=>
  intro e E sc N all X o h hb;cases e<;>first
   |exact dS h
   |exact dS hb
theorem lS(hCX:HX CX):∀c:CL,IHL CX G c
 |.nil=>sL_nil
 |.cons c r=>sL_cons (bI hCX c) (lS hCX r)
theorem soundP(hCX:HX CX):∀c:CP,IHP CX G c
 |.nil=>sP_nil
 |.cons k v r=>sP_cons (soundP hCX r) (bI hCX k) (bI hCX v)
theorem FC(hCX:HX CX):∀c:CO,IHO CX G c
 |.no=>sO_no
 |.yes c=>sO_yes (bI hCX c)
theorem FD(hCX:HX CX):∀c:CO,IHC CX G c
 |.no=>sC_no
 |.yes c=>sC_yes (i6 hCX c)
theorem pX(hCX:HX CX):∀c:CG,IHG CX G c
 |.name i=>sG_name
 |.tup gs=>sG_tup (w9 hCX gs)
 |.ltup gs=>sG_ltup (w9 hCX gs)
 |.sub ob i=>sG_sub (bI hCX ob) (bI hCX i)
theorem w9(hCX:HX CX):∀c:CGs,EA CX G c
 |.nil=>sGs_nil
 |.cons c r=>FN (pX hCX c) (w9 hCX r)
theorem AU(hCX:HX CX):∀c:CI,IHI CX G c
 |.seq c=>sI_seq (bI hCX c)
 |.lseq c=>sI_lseq (bI hCX c)
 |.tseq c=>sI_tseq (bI hCX c)
 |.range1 c=>DG (bI hCX c)
 |.range2 a b=>DF (bI hCX a) (bI hCX b)
 |.enumt c=>FL (bI hCX c)
end
end
section
variable {CX:CXT}{G:Gam}
theorem sN{sc:Scope}{N:List Str}{all:Bool}{g:CG}{tg e:Expr}(h:uT sc N all g tg=true)(hn:(nX tg&&nX e)=false)(env:Env):swappedStores [tg] e env=pure none:=by
 cases tg with
 |Tuple es k p=>
  cases e<;>first
   |rfl
   | (exact absurd hn (by simp[nX]))
 |List es p=>cases g<;>exact dS h
 |_=>rfl
theorem yV{a:Expr}{b:List Comprehension}{c:Scope}{d p:Pos}{x:Str}{l:Nat}{env:Env}(h:env.kindOf x≠some .local):rP (.ListComp a b c d) (some (.Name x p)) l env=pure false:=by
 show(pure (env.blockKind== .function&&env.kindOf x==some .local&&p.line==d.line&& !(c.names.any fun(n,k)=>n==x&&(k== .local||k== .cell))):Sem Bool)=pure false;have e:(env.kindOf x==some d5.local)=false:=by simpa using h
 rw[e,fM,dN,dN]
theorem AO{a:Expr}{b:List Comprehension}{c:Scope}{d p:Pos}{x:Str}{l:Nat}{env:Env}(hk:env.scope.kind=.function)(h:env.kindOf x=some .local)(hl:p.line=d.line)
  (hn:(c.names.any fun y=>decide (y.1=x)&&(decide (y.2=.local)||decide (y.2=.cell)))=false):rP (.ListComp a b c d) (some (.Name x p)) l env=pure true:=by
 show(pure (env.blockKind== .function&&env.kindOf x==some .local&&p.line==d.line&& !(c.names.any fun(n,k)=>n==x&&(k== .local||k== .cell))):Sem Bool)=pure true;have e1:env.blockKind=.function:=by unfold Env.blockKind;rw[hk];rfl
 have e2:(c.names.any fun(n,k)=>n==x&&(k==d5.local||k==cS))=false:=by
  rw[<-hn];congr 1
 rw[e1,h,hl,e2];simp
theorem BK{sc:Scope}{N:List Str}{c:CE}{a:Expr}{b:List Comprehension}{s:Scope}{d:Pos}(h:dO sc N c (.ListComp a b s d)=true):∃own fr tg it cond elt,c=.comp own fr tg it cond elt:=by
 cases c with
 |comp own fr tg it cond elt=>exact⟨_,_,_,_,_,_,rfl⟩
 |_=>exact dS h
theorem GK{e:Expr}(h:tB e=false)(tg:Expr)(l:Nat)(env:Env):Iy [tg] e l env=pure false:=by
 unfold Iy;exact xI h _ _ _
structure OkL(G:Gam)(sc:Scope)(N:List Str)(X:Cx):Prop where
 names:X.N=N
 nd:N.Nodup
 loc:∀x,sc.names.lookup x=some .local->X.env.scope.names.lookup x=some .local
 cel:∀x,sc.names.lookup x=some .cell->X.env.scope.names.lookup x=some .cell
 fre:∀x,sc.names.lookup x=some .free->X.env.scope.names.lookup x=some .cell\/X.env.scope.names.lookup x=some .free
 glo:∀x,sc.names.lookup x=some .globalImplicit->X.env.scope.names.lookup x=some .globalImplicit
 all:∀x,X.fn x=true
 val:∀x v,G.val x=some v->∃u,X.mg x=some u/\RelV v u
 blt:∀x∈i4,X.mg x=none
mutual
theorem FA(hCX:HX CX):∀(c:CS)(st:Stmt){E:XS}{sc:Scope}{N:List Str}{X:Cx},Ok CX G E sc N true X->(∀pins σ H s,Inv X pins σ H s->X.env.scope.kind=.function)->chkS sc N c st=true->PS X st (wpS G X.K E c)
 |.asg g e,st,E,sc,N,X,o,hk,h=>by
  obtain⟨g',e',p,rfl,k⟩:=HU h;obtain⟨h1,h2,h3,h4⟩:=n8 k;exact Ga (bI hCX e _ o h2) (pX hCX g _ o h1) (xI (qY h3) _ _ _) (sN h1 (qY h4) _) (by rw[oK h1];rfl)
 |.asgc i e,st,E,sc,N,X,o,hk,h=>by
  obtain⟨g',e',sp,rfl,k⟩:=HU h;obtain⟨x,p,rfl,l⟩:=lu k;obtain⟨a,b,c,d,rfl,m⟩:=BF l;obtain⟨h1,h2,h3,h4⟩:=n8 m;rw[beq_iff_eq]at h1;rw[dj,beq_iff_eq,beq_iff_eq]at h2;rw[dj,beq_iff_eq]at h4;obtain⟨own,fr,tg,it,cond,elt,rfl⟩:=BK h3;by_cases hl:X.env.scope.names.lookup x=some .local
  ·rcases h4 with q|q
   ·rw[o.cel x q]at hl;cases hl
   obtain⟨q1,q2⟩:=an q;obtain⟨elt',gs,sc',p',e1,r1⟩:=BF h3;cases e1;obtain⟨⟨tg',it',ifs',y⟩,rfl,r2⟩:=kR r1;obtain⟨g0,g1,g2,r3⟩:=n8 r2;obtain⟨g3,g4,g5,g6⟩:=n8 r3;cases of_decide_eq_true g0;have S:=sA g1;intro pins s σ H D I hw;exact A3 (S.comp o) (S.mkOk o) o.calm (AU hCX it _ _ o g3)
    (fun C s₀ H₀ fp _=>⟨pX hCX tg _ (o.comp hCX S C s₀ H₀ fp) g4,FD hCX cond _ (o.comp hCX S C s₀ H₀ fp) g5,bI hCX elt _ (o.comp hCX S C s₀ H₀ fp) g6⟩)
    (by rw[o.names];exact o.nd) (by rw[o.names];exact h1) hl (AO (hk pins σ H s I) hl (of_decide_eq_true q1) (qY q2)) (xG (qY g2) _) pins s σ H D I hw
  ·have hc:sc.names.lookup x=some .cell:=by
    rcases h2 with q|q
    ·exact absurd (o.loc x q) hl
    ·exact q
   exact ps_set (by rw[o.names];exact o.nd) (by rw[o.names];exact h1) (.inr (o.cel x hc)) (bI hCX _ _ o h3) (yV (by rw[show X.env.kindOf x=_ from o.cel x hc];decide)) (.inl (o.all rfl x))
 |.expr e,st,E,sc,N,X,o,hk,h=>by
  obtain⟨e',p,rfl,k⟩:=dEx_of h;obtain⟨h1,h2⟩:=an k;exact ps_expr (bI hCX e _ o h1) (xI (qY h2) _ _ _)
 |.iff c a b,st,E,sc,N,X,o,hk,h=>by
  obtain⟨c',a',b',p,rfl,k⟩:=dIs_of h;obtain⟨h1,h2,h3⟩:=jk k;exact ps_if (i6 hCX c _ o h1) (pY hCX a _ o hk h2) (pY hCX b _ o hk h3)
 |.forr g it b,st,E,sc,N,X,o,hk,h=>by
  obtain⟨g',i',b',p,rfl,k⟩:=dFo_of h;obtain⟨h1,h2,h3,h4⟩:=n8 k;exact ps_for o.px o.calm (AU hCX it _ _ o h2) (pX hCX g _ o h1) (pY hCX b _ o hk h4) (xG (qY h3) _)
 |.ret e,st,E,sc,N,X,o,hk,h=>by
  obtain⟨r,p,rfl,k⟩:=HN h;obtain⟨e',rfl,m⟩:=GG k;exact ps_ret (bI hCX e _ o m)
 |.retN,st,E,sc,N,X,o,hk,h=>by
  obtain⟨r,p,rfl,k⟩:=HN h;obtain rfl:=gO.mp k;exact ps_retN
 |.rais x es,st,E,sc,N,X,o,hk,h=>by
  obtain⟨x',np,es',cp,p,rfl,k⟩:=dRa_of h;obtain⟨h1,h2,h3,m⟩:=n8 k;obtain⟨h4,h5⟩:=an m;cases of_decide_eq_true h1;intro pins s σ H D I hw;obtain⟨C,hv,hkp,hq,hw⟩:=hw;obtain⟨u,hu,ru⟩:=o.val _ _ hv;obtain rfl:u=aV C:=ru;have hL:=lS hCX es _ o h5;obtain⟨_,_,rfl,hs⟩:=Fu h5 h4;exact F8 (o.gl h2) hu hkp hq hL o.calm (lU h3).1 (hs _ cp).1 (hs _ _).2 o.made pins s σ H D I hw
 |.pass,st,E,sc,N,X,o,hk,h=>by
  cases st<;>first
   |exact ps_pass
   |exact dS h
 |.brk,st,E,sc,N,X,o,hk,h=>by
  cases st<;>first
   |exact F9
   |exact dS h
 |.cont,st,E,sc,N,X,o,hk,h=>by
  cases st<;>first
   |exact zf
   |exact dS h
theorem pY(hCX:HX CX):∀(c:CB)(st:List Stmt){E:XS}{sc:Scope}{N:List Str}{X:Cx},Ok CX G E sc N true X->(∀pins σ H s,Inv X pins σ H s->X.env.scope.kind=.function)->uU sc N c st=true->PSs X st (wpB G X.K E c)
 |.hole,_,_,_,_,_,_,_,_=>fun _ _ _ _ _ _ z=>z.elim
 |.nil,st,E,sc,N,X,o,hk,h=>by
  obtain rfl:=nil_of h;exact pss_nil
 |.cons s r,st,E,sc,N,X,o,hk,h=>by
  obtain⟨s',r',rfl,k⟩:=yN h;obtain⟨h1,h2⟩:=an k;exact sE (FA hCX s _ o hk h1) (pY hCX r _ o hk h2)
end
end
structure GOk(P:Program)(w:World)(K:af)(mg:Str->Option Value)(base:Heap)(CX:CXT)(k:Nat)(G:Gam):Prop where
 val:∀x v,G.val x=some v->∃u,mg x=some u/\RelV v u
 fn:∀x n sp dvs,G.fn x n=some (sp,dvs)->∃f fd ps ds j,j<=k/\jH P w K mg base CX j f fd ps sp/\mg x=some (.ref f)/\cE K (.ref f)=true/\Binds K fd ps ds/\bO dvs ds
 ini:∀x n C sp dvs,G.ini x n=some (C,sp,dvs)->∃f fd ps ds j,j+1<=k/\MkX K C f/\jH P w K mg base CX j f fd ps sp/\mg x=some (.ref C)/\Binds K fd ps ds/\bO dvs ds
 dic:∀a kvs,G.dic a=some kvs->DkIn P w K a kvs
 mak:∀x n C sp dvs,G.mak x n=some (C,sp,dvs)->∃f fd ps ds j,j+1<=k/\Mk K C f/\jH P w K mg base CX j f fd ps sp/\mg x=some (.ref C)/\Binds K fd ps ds/\bO dvs ds
 mth:∀m n C sp dvs,G.mth m n=some (C,sp,dvs)->∃f fd ps ds j,j<=k/\Cls K C/\Meth K C m f/\jH P w K mg base CX j f fd ps sp/\Binds K fd ps ds/\bO dvs ds
 blt:∀x∈i4,mg x=none
noncomputable def oJ(N ps:List Str)(sc:Scope):Bool:=
 decide (sc.kind=.function)&&decide (sc.isCoroutine=false)&&decide (sc.isGenerator=false)&&decide N.Nodup&&decide (N.take ps.length=ps)&&
 ps.all (fun x=>sc.names.lookup x==some .local||sc.names.lookup x==some .cell)&&sc.names.all (fun y=>decide (y.2≠.free))
theorem zq{N ps:List Str}{sc:Scope}(h:oJ N ps sc=true):ym N ps sc:=by
 unfold oJ at h;simp only[aL,bE,decide_eq_true_eq,beq_iff_eq,dj]at h;obtain⟨⟨⟨⟨⟨⟨h1,h2⟩,h3⟩,h4⟩,h5⟩,h6⟩,h7⟩:=h;exact⟨h1,h2,h3,h4,h5,h6,h7⟩
section
variable {P:Program}{w:World}{K:af}{mg:Str->Option Value}{base:Heap}
theorem HC{x qual:Str}{st:Stmt}{f:Addr}{oc dV kV doc pm cdv ct:Value}{od an:Option Addr}{osl:Array (Option Value)}{N ps:List Str}{k:Nat}{G:Gam}{sp:Sp}{code:CB}(lk:K.lookup f=some ⟨oc,od,.func (aQ x qual (bW st) (bw st) (aU st) dV kV doc pm an cdv ct),osl⟩)(hcd:fB K cdv qual=true)(hd:oJ N ps (aU st)=true)(hc:uU (aU st) N code (bw st)=true)
  (g:GOk P w K mg base (CXx P w) k G)(len:∀vs H Q E,sp vs H Q E->vs.length=ps.length)
  (h:∀vs H Q E,sp vs H Q E->wpB G K (fun _=>E) code {nx:=fun _ H'=>Q .non H',rt:=Q} (start N vs) H):jH P w K mg base (CXx P w) (k+1) f (aQ x qual (bW st) (bw st) (aU st) dV kV doc pm an cdv ct) ps sp:=by
 have S:=zq hd;refine fn_of lk hcd S len fun A outer s H vs Q E hr hsp=>?_;have o:Ok (CXx P w) G (fun _=>E) (aU st) N true (uR (CXx P w) P w K mg base N qual (aU st) f cdv A outer s H E):=
  {names:=rfl,top:=fun _=>⟨rfl,rfl,rfl⟩,nd:=S.nd,loc:=fun _ z=>z,cel:=fun _ z=>z,fre:=fun y z=>absurd rfl (S.nofree _ (bj z)),glo:=fun _ z=>z,all:=fun _ _=>rfl,own:=fun _ _=>rfl,calm:=rfl,
   hu:=by have :=hr.units;show _+50<cLine;exact cP (Nat.add_le_add_left (by decide) _) this
   val:=g.val
   fn:=fun y n sp' dvs e=>by
    obtain⟨f',fd',ps',ds',j,hj,F',hm,hk,hb,hv⟩:=g.fn y n sp' dvs e;exact⟨f',fd',ps',ds',j,F',hr.mono hj,hm,hk,hb,hv⟩
   ini:=fun y n C sp' dvs e=>by
    obtain⟨f',fd',ps',ds',j,hj,M,F',hm,hb,hv⟩:=g.ini y n C sp' dvs e;exact⟨f',fd',ps',ds',j,M,F',hr.mono hj,hm,hb,hv⟩
   dic:=g.dic
   mak:=fun y n C sp' dvs e=>by
    obtain⟨f',fd',ps',ds',j,hj,M,F',hm,hb,hv⟩:=g.mak y n C sp' dvs e;exact⟨f',fd',ps',ds',j,M,F',hr.mono hj,hm,hb,hv⟩
   mth:=fun y n C sp' dvs e=>by
    obtain⟨f',fd',ps',ds',j,hj,c,M,F',hb,hv⟩:=g.mth y n C sp' dvs e;exact⟨f',fd',ps',ds',j,c,M,F',hr.mono hj,hb,hv⟩
   blt:=g.blt,px:=Dk,pass:=wc,made:=we,madeX:=ue,cx:=rfl}
 exact⟨_,pY (fun _ _ _ _ _ z=>El z) code _ o (fun _ _ _ _ _=>S.kind) hc,h vs H Q E hsp⟩
theorem CU{x qual:Str}{st:Stmt}{f:Addr}{fd:gH}{N ps:List Str}{k:Nat}{G:Gam}{sp:Sp}{code:CB}(F:Fun K x qual st f fd)(hd:oJ N ps (aU st)=true)(hc:uU (aU st) N code (bw st)=true)
  (g:GOk P w K mg base (CXx P w) k G)(len:∀vs H Q E,sp vs H Q E->vs.length=ps.length)
  (h:∀vs H Q E,sp vs H Q E->wpB G K (fun _=>E) code {nx:=fun _ H'=>Q .non H',rt:=Q} (start N vs) H):jH P w K mg base (CXx P w) (k+1) f fd ps sp:=by
 obtain⟨oc,od,kV,doc,pm,an,cdv,ct,osl,rfl,lk,hcd⟩:=F.ex;exact HC lk hcd hd hc g len h
end
end R
namespace R
open PySem PySem.Spec PyProof.Rows L2
noncomputable def gam(vals:List (Str×V))(fns:List ((Str×Nat)×(Sp×List V)))(inis:List ((Str×Nat)×(Addr×Sp×List V)):=[]) (dics:List (Addr×List (Key×V)):=[]) (maks mths:List ((Str×Nat)×(Addr×Sp×List V)):=[]):Gam:=⟨fun x=>vals.lookup x,fun x n=>fns.lookup (x,n),fun x n=>inis.lookup (x,n),fun a=>dics.lookup a,fun x n=>maks.lookup (x,n),fun m n=>mths.lookup (m,n)⟩
theorem zx{β:Type}{a:Addr}{b:β}:∀{l:List (Addr×β)},l.lookup a=some b->(a,b)∈l
 | [],h=>nomatch h
 | (k,v)::l,h=>by
  rw[bo]at h;cases q:(a==k)with
  |true=>
   rw[q]at h;cases h;rw[beq_iff_eq.mp q];exact aI
  |false=>
   rw[q]at h;exact aH _ (zx h)
section
variable {P:Program}{w:World}{K:af}{mg:Str->Option Value}{base:Heap}{CX:CXT}
theorem GOk.start{vals:List (Str×V)}(hv:∀x v,(x,v)∈vals->∃u,mg x=some u/\RelV v u)(hb:∀x∈i4,mg x=none){dics:List (Addr×List (Key×V))}(hd:∀a kvs,(a,kvs)∈dics->DkIn P w K a kvs:=by intro a kvs h;exact nomatch h):GOk P w K mg base CX 0 (gam vals [] [] dics):=
 ⟨fun x v e=>hv x v (bj e),fun x n sp dvs e=>(nomatch e),fun x n C sp dvs e=>(nomatch e),fun a kvs e=>hd a kvs (zx (show jx a dics=some kvs from e)),fun x n C sp dvs e=>(nomatch e),fun x n C sp dvs e=>(nomatch e),hb⟩
theorem GOk.add{k n:Nat}{vals:List (Str×V)}{fns:List ((Str×Nat)×(Sp×List V))}{x:Str}{f:Addr}{fd:gH}{ps:List Str}{sp:Sp}{ds:List Value}{dvs:List V}{inis maks mths:List ((Str×Nat)×(Addr×Sp×List V))}{dics:List (Addr×List (Key×V))}(g:GOk P w K mg base CX k (gam vals fns inis dics maks mths))
  (F:jH P w K mg base CX (k+1) f fd ps sp)(hm:mg x=some (.ref f))(hk:cE K (.ref f)=true)(hb:Binds K fd ps ds)(hd:bO dvs ds):GOk P w K mg base CX (k+1) (gam vals (((x,n),(sp,dvs))::fns) inis dics maks mths):=by
 refine⟨g.val,fun y m sp' dvs' e=>?_,fun y m C sp' dvs' e=>?_,g.dic,fun y m C sp' dvs' e=>?_,fun y m C sp' dvs' e=>?_,g.blt⟩
 rotate_left
 rotate_left
 ·obtain⟨f',fd',ps',ds',j,hj,r⟩:=g.mak y m C sp' dvs' e
  exact⟨f',fd',ps',ds',j,fz hj,r⟩
 ·obtain⟨f',fd',ps',ds',j,hj,r⟩:=g.mth y m C sp' dvs' e
  exact⟨f',fd',ps',ds',j,fz hj,r⟩
 rotate_left
 ·obtain⟨f',fd',ps',ds',j,hj,r⟩:=g.ini y m C sp' dvs' e
  exact⟨f',fd',ps',ds',j,fz hj,r⟩
 have e':jx (y,m) (((x,n),(sp,dvs))::fns)=some (sp',dvs'):=e;rw[bo]at e';cases q:((y,m)==(x,n))with
 |true=>
  rw[q]at e';have e2:(y,m)=(x,n):=eq_of_beq q;cases e2;cases e';exact⟨f,fd,ps,ds,k+1,ax _,F,hm,hk,hb,hd⟩
 |false=>
  rw[q]at e';obtain⟨f',fd',ps',ds',j,hj,r⟩:=g.fn y m sp' dvs' e';exact⟨f',fd',ps',ds',j,fz hj,r⟩
end
section
variable {K:af}{H:Hp}{Q:VK}{i j:Int}
theorem Ip:jh K .Add (.int i) (.int j) H Q↔Q (.int (i+j)) H:=by
 simp[jh,rI0,rCat,Ce,Cf]
theorem sub_ii:jh K .Sub (.int i) (.int j) H Q↔Q (.int (i-j)) H:=by simp[jh,rI0]
theorem mul_ii:jh K .Mult (.int i) (.int j) H Q↔BX i j/\Q (.int (i*j)) H:=by simp[jh,rI,rRep,rRepS]
theorem mod_ii:jh K .Mod (.int i) (.int j) H Q↔0<j/\Q (.int (i%j)) H:=by simp[jh,rI]
theorem div_ii:jh K .FloorDiv (.int i) (.int j) H Q↔EC i j/\Q (.int (i/j)) H:=by simp[jh,rI]
theorem pow_ii:jh K .Pow (.int i) (.int j) H Q↔EB i j/\Q (.int (i^j.toNat)) H:=by simp[jh,rI]
theorem shr_ii:jh K .RShift (.int i) (.int j) H Q↔0<=j/\Q (.int (i/2^j.toNat)) H:=by simp[jh,rI]
theorem add_ss{x y:Str}:jh K .Add (.str x) (.str y) H Q↔x.length+y.length<=sizeLine/\Q (.str (x++y)) H:=by simp[jh,rI0,rCat,Ce,Cf]
theorem neg_i:rUn K .USub (.int i) H Q↔Q (.int (-i)) H:=by simp[rUn,rU]
theorem GY:iz K .Lt (.int i) (.int j) H Q↔Q (.bl (decide (i<j))) H:=by simp[iz,rI0]
theorem G3:iz K .LtE (.int i) (.int j) H Q↔Q (.bl (decide (i<=j))) H:=by simp[iz,rI0]
theorem Hu:iz K .Gt (.int i) (.int j) H Q↔Q (.bl (decide (j<i))) H:=by simp[iz,rI0]
theorem Cc{d:D}:Rep K H d (.int i)↔d=.int i:=by
 cases d<;>simp[Rep,eq_comm]
theorem vM:iz K .Eq (.int i) (.int j) H Q↔Q (.bl (decide (i=j))) H:=by
 simp only[iz,rEqD,Cc];constructor
 ·rintro⟨_,_,rfl,rfl,_,q⟩;exact q
 ·intro q;exact⟨_,_,rfl,rfl,a7 _,q⟩
theorem ne_ii:iz K .NotEq (.int i) (.int j) H Q↔Q (.bl (!decide (i=j))) H:=by
 simp only[iz,rNeD,Cc];constructor
 ·rintro⟨_,_,rfl,rfl,_,q⟩;exact q
 ·intro q;exact⟨_,_,rfl,rfl,a7 _,q⟩
theorem isnot_n{x:V}:iz K .IsNot x .non H Q↔Q (.bl (!decide (x=.non))) H:=by simp[iz]
theorem len_s{z:Str}:rBf K .len [.str z] H Q↔z.length<=sizeLine/\Q (.int z.length) H:=by simp[rBf]
theorem idx_s{z:Str}:rIx K (.str z) (.int i) H Q↔∃c,z.length<=sizeLine/\atI z.cps.toList i=some c/\Q (.str ⟨#[c]⟩) H:=by
 simp[rIx,rIxL,rIxT,rIxS]
theorem cut_s{z:Str}{lo hi:Option Int}:rSlc K (.str z) lo hi H Q↔z.length<=sizeLine/\Q (.str (BI z lo hi)) H:=by
 simp[rSlc,rSlL,rSlT,rSlS]
end
structure ug(J:It)(n:Nat)(it:Nat->V->Hp->Prop)(Hc:Hp->Prop):Prop where
 go:∀i H,Hc H->i<n->J.go i H
 stop:∀i H,Hc H->n<=i->J.stop i H
 yld:∀i H x H',Hc H->i<n->J.yld i H x H'->it i x H'/\aS H H'
section
variable {K:af}
theorem eL{a:Addr}{xs:List V}:ug (Itl K a) xs.length (fun i x _=>xs[i]? =some x) (fun H=>SqL K H a xs) where
 go:=fun i H h hi=>⟨xs,xs[i],h,by simp[hi]⟩
 stop:=fun i H h hi=>⟨xs,h,hi⟩
 yld:=fun i H x H' h hi y=>by
  obtain⟨e,y⟩:=y;subst e;exact⟨y xs h,aS.refl _⟩
theorem xj{a:Addr}{xs:List V}:ug (Itt K a) xs.length (fun i x _=>xs[i]? =some x) (fun H=>SqT K H a xs) where
 go:=fun i H h hi=>⟨xs,xs[i],h,by simp[hi]⟩
 stop:=fun i H h hi=>⟨xs,h,hi⟩
 yld:=fun i H x H' h hi y=>by
  obtain⟨e,y⟩:=y;subst e;exact⟨y xs h,aS.refl _⟩
theorem dP{lo:Int}{n:Nat}:ug (Itr lo n) n (fun i x _=>x=.int (lo+i)) (fun _=>True) where
 go:=fun i H _ hi=>hi
 stop:=fun i H _ hi=>hi
 yld:=fun i H x H' _ hi y=>by
  obtain⟨e,y⟩:=y;subst e;exact⟨y,aS.refl _⟩
theorem seq_str{z:Str}:ug (Its z) z.length (fun i x _=>∃c,z.cps[i]? =some c/\x=.str ⟨#[c]⟩) (fun _=>True) where
 go:=fun i H _ hi=>hi
 stop:=fun i H _ hi=>hi
 yld:=fun i H x H' _ hi y=>by
  obtain⟨e,y⟩:=y;subst e;exact⟨y,aS.refl _⟩
theorem az{H:Hp}{p:Addr}{o:HO}(h:H p=none):aS H (upd H p o):=fun b u e=>by rw[bh (ck e h)];exact e
theorem xK{H H1:Hp}{p:Addr}{o:HO}(h:upd H p o=H1)(hp:H p=none):aS H H1/\H1 p=some o:=by subst h;exact⟨az hp,aw⟩
noncomputable def ForB(J:It)(g:TG)(tb:TS)(D:Ends)(σ:L2.St)(H:Hp):Prop:=∃W:Nat->Nat->L2.St->Hp->Prop,(∃m,W 0 m σ H)/\∀i m σ H,W i m σ H->
 (J.stop i H/\D.nx σ H)\/(J.go i H/\∃N:L2.St->Hp->Prop,(∀σ' H',N σ' H'->∃m',m'<m/\W (i+1) m' σ' H')/\∀x H',J.yld i H x H'->g x σ H' fun σ2 H2=>tb {D with nx:=N,ct:=N,bk:=D.nx} σ2 H2)
noncomputable def Dg(J:It)(g:TG)(tc:TT)(te:TE)(τ0:L2.St)(H1:Hp)(Q:VK):Prop:=∃W:Nat->Nat->L2.St->List V->Hp->Prop,(∃m,W 0 m τ0 [] H1)/\
 ∀i m τ acc H2,W i m τ acc H2->(J.stop i H2/\∀l,H2 l=none->Q (.ref l) (upd H2 l (.lst acc)))\/(J.go i H2/\∃N:L2.St->List V->Hp->Prop,(∀τ' acc' H',N τ' acc' H'->∃m',m'<m/\W (i+1) m' τ' acc' H')/\
  ∀x H3,J.yld i H2 x H3->g x τ H3 fun τ4 H4=>tc τ4 H4 fun b H5=>if b=true then te τ4 H5 fun v H6=>acc.length<sizeLine/\N τ4 (acc++[v]) H6 else N τ4 acc H5)
theorem CQ{J:It}{n:Nat}{it:Nat->V->Hp->Prop}{Hc:Hp->Prop}{g:TG}{tb:TS}{D:Ends}{σ:L2.St}{H:Hp}(S:ug J n it Hc)(Pv:Nat->L2.St->Hp->Prop)(h0:Pv 0 σ H)(hl:∀i σ H,i<=n->Pv i σ H->Hc H)
  (hs:∀i x σ H H',i<n->Pv i σ H->it i x H'->aS H H'->g x σ H' fun σ2 H2=>tb {D with nx:=Pv (i+1),ct:=Pv (i+1),bk:=D.nx} σ2 H2) (hd:∀σ H,Pv n σ H->D.nx σ H):
  ForB J g tb D σ H:=by
 refine⟨fun i m σ H=>m=n-i/\i<=n/\Pv i σ H,⟨n,by simp,a7 _,h0⟩,?_⟩;rintro i m σ H ⟨rfl,hi,p⟩;have q:=hl i σ H hi p;by_cases hlt:i<n
 ·refine .inr ⟨S.go i H q hlt,Pv (i+1),fun σ' H' p'=>⟨n-(i+1),by omega,rfl,hlt,p'⟩,fun x H' y=>?_⟩
  obtain⟨y1,y2⟩:=S.yld i H x H' q hlt y;exact hs i x σ H H' hlt p y1 y2
 ·have e:i=n:=by omega
  subst e;exact .inl ⟨S.stop i H q (ax _),hd σ H p⟩
theorem di{J:It}{n:Nat}{it:Nat->V->Hp->Prop}{Hc:Hp->Prop}{g:TG}{te:TE}{Q:VK}{τ0:L2.St}{H1:Hp}(S:ug J n it Hc)(hn:n<=sizeLine)(hc:∀H,aS H1 H->Hc H)
  (F:Nat->V->Hp->Prop)(Fm:∀i v H H',aS H H'->F i v H->F i v H')(T:L2.St->Prop)(hT:T τ0)
  (step:∀i x τ H3 (R:L2.St->V->Hp->Prop),i<n->T τ->aS H1 H3->it i x H3->(∀τ' v H6,T τ'->aS H3 H6->F i v H6->R τ' v H6)->g x τ H3 fun τ4 H4=>te τ4 H4 (R τ4))
  (fin:∀vs H2 l,vs.length=n->(∀(i:Nat) v,vs[i]? =some v->F i v H2)->aS H1 H2->H2 l=none->Q (.ref l) (upd H2 l (.lst vs))):
  Dg J g tYes te τ0 H1 Q:=by
 refine⟨fun i m τ acc H2=>m=n-i/\i<=n/\T τ/\acc.length=i/\aS H1 H2/\∀(k:Nat) v,acc[k]? =some v->F k v H2,⟨n,by simp,a7 _,hT,rfl,aS.refl _,fun k v e=>by simp at e⟩,?_⟩;rintro i m τ acc H2 ⟨rfl,hi,ht,hl,sm,hF⟩;have q:=hc H2 sm;by_cases hlt:i<n
 ·refine .inr ⟨S.go i H2 q hlt,fun τ' acc' H'=>T τ'/\acc'.length=i+1/\aS H1 H'/\∀(k:Nat) v,acc'[k]? =some v->F k v H',fun τ' acc' H' ⟨a,b,c,d⟩=>⟨n-(i+1),by omega,rfl,hlt,a,b,c,d⟩,fun x H3 y=>?_⟩
  obtain⟨y1,y2⟩:=S.yld i H2 x H3 q hlt y;refine step i x τ H3 (fun τ' v H6=>acc.length<sizeLine/\T τ'/\(acc++[v]).length=i+1/\aS H1 H6/\∀(k:Nat) v',(acc++[v])[k]? =some v'->F k v' H6) hlt ht (sm.trans y2) y1 fun τ' v H6 ht' s6 f6=>⟨by omega,ht',by simp[hl],(sm.trans y2).trans s6,fun k v' e=>?_⟩;by_cases hk:k<acc.length
  ·rw[eZ hk]at e
   exact Fm k v' H2 H6 (y2.trans s6) (hF k v' e)
  ·rw[cX (by omega)]at e
   have hk0:k-acc.length=0:=by
    have :=(aF.mp e).1
    simp at this;omega
   rw[hk0]at e;have hk':k=i:=by omega
   simp at e;subst e;rw[hk'];exact f6
 ·have e:i=n:=by omega
  subst e;exact .inl ⟨S.stop i H2 q (ax _),fun l hl'=>fin acc H2 l hl hF sm hl'⟩
theorem dA{wi:TI}{g:TG}{tc:TT}{te:TE}{mk:L2.St->L2.St}{σ:L2.St}{H:Hp}{Q:VK}(h:wi σ H fun J H1=>Dg J g tc te (mk σ) H1 Q):vc wi g tc te mk σ H Q:=h
theorem jb{wi:TI}{g:TG}{tb:TS}{D:Ends}{σ:L2.St}{H:Hp}(h:wi σ H fun J H1=>ForB J g tb D σ H1):tFor wi g tb D σ H:=h
theorem Ac{i:Nat}{z:Str}{σ:L2.St}{H:Hp}{R:It->Hp->Prop}(hv:σ[i]? =some (some (.str z)))(h:R (Its z) H):xQ K (uH i) σ H R:=⟨_,hv,.inr (.inr ⟨z,rfl,h⟩)⟩
theorem dB{i:Nat}{a:Addr}{xs:List V}{σ:L2.St}{H:Hp}{R:It->Hp->Prop}(hv:σ[i]? =some (some (.ref a)))(hq:SqL K H a xs)(h:R (Itl K a) H):xQ K (uH i) σ H R:=⟨_,hv,.inl ⟨a,rfl,⟨xs,hq⟩,h⟩⟩
theorem qR{i:Nat}{a:Addr}{xs:List V}{σ:L2.St}{H:Hp}{R:It->Hp->Prop}(hv:σ[i]? =some (some (.ref a)))(hq:SqT K H a xs)(h:R (Itt K a) H):xQ K (uH i) σ H R:=⟨_,hv,.inr (.inl ⟨a,rfl,⟨xs,hq⟩,h⟩)⟩
theorem bool_list{vs:List V}{n:Nat}{b:Nat->Bool}(hl:vs.length=n)(h:∀(i:Nat) v,vs[i]? =some v->v=.bl (b i)):vs=((aq n).map b).map V.bl:=by
 apply cK
 ·simp[hl]
 ·intro i h1 h2
  have :=h i vs[i] (by simp[h1])
  simp[this]
theorem uf{α:Type}(l:List α)(d:α)(f:α->Bool):((aq l.length).map fun i=>f (l.getD i d)).all id=l.all f:=by
 rw[List.all_map,eH];simp only[bE,aK,Function.comp,id];constructor
 ·intro h c hc
  obtain⟨i,hi,rfl⟩:=dz.mp hc;have :=h i hi;rw[ag,ae hi]at this;exact this
 ·intro h i hi
  have :=h _ (bu hi)
  rw[ag,ae hi];exact this
theorem getD_some{α:Type}{l:List α}{i:Nat}{d x:α}(h:l[i]? =some x):l.getD i d=x:=by
 rw[ag,h];rfl
theorem vI:∀ns:List Int,gv (ns.map D.int)=0
 | []=>rfl
 |n::ns=>by rw[bp,gv,vI ns];rfl
end
noncomputable def HasFn(K:af)(x:Str)(st:Stmt):Prop:=∃(f:Addr)(oc:Value)(od an:Option Addr)(osl:Array (Option Value))(kV doc pm cdv ct:Value),eJ K bM x=some (some (.ref f))/\
 K.lookup f=some ⟨oc,od,.func (aQ x x (bW st) (bw st) (aU st) .none kV doc pm an cdv ct),osl⟩/\fB K cdv x=true/\cE K (.ref f)=true
theorem Ht{K:af}{x:Str}{st:Stmt}{f:Addr}{oc:Value}{od an:Option Addr}{osl:Array (Option Value)}{kV doc pm cdv ct:Value}(a:eJ K bM x=some (some (.ref f)))
  (l:K.lookup f=some ⟨oc,od,.func (aQ x x (bW st) (bw st) (aU st) .none kV doc pm an cdv ct),osl⟩)(c:fB K cdv x=true)(k:cE K (.ref f)=true):HasFn K x st:=
 ⟨f,oc,od,an,osl,kV,doc,pm,cdv,ct,a,l,c,k⟩
structure Def(K:af)(mg:Str->Option Value)(x:Str)(st:Stmt):Prop where
 ex:∃f fd,Fun K x x st f fd/\mg x=some (.ref f)
theorem HasFn.def{K:af}{h:Heap}{mg:Str->Option Value}{x:Str}{st:Stmt}(X:K.In h)(Gm:h.Ns bM mg)(H:HasFn K x st):Def K mg x st:=by
 obtain⟨f,oc,od,an,osl,kV,doc,pm,cdv,ct,a,l,c,k⟩:=H;exact⟨f,_,Bx l c k,fk X Gm a⟩
section
variable {P:Program}{w:World}{K:af}{mg:Str->Option Value}{base:Heap}
theorem eB{k:Nat}{vals:List (Str×V)}{fns:List ((Str×Nat)×(Sp×List V))}{x:Str}{st:Stmt}{N ps:List Str}{sp:Sp}{code:CB}{inis maks mths:List ((Str×Nat)×(Addr×Sp×List V))}{dics:List (Addr×List (Key×V))}(g:GOk P w K mg base (CXx P w) k (gam vals fns inis dics maks mths))(d:Def K mg x st)
  (hc:(oJ N ps (aU st)&&uU (aU st) N code (bw st))=true)
  (hb:∀(kV doc pm:Value)(an:Option Addr)(cdv ct:Value)(us:List Value),us.length=ps.length->oh (aQ x x (bW st) (bw st) (aU st) .none kV doc pm an cdv ct) ⟨us,[]⟩=pure (ps.zip us))
  (len:∀vs H Q E,sp vs H Q E->vs.length=ps.length)
  (h:∀vs H Q E,sp vs H Q E->wpB (gam vals fns inis dics maks mths) K (fun _=>E) code {nx:=fun _ H'=>Q .non H',rt:=Q} (L2.start N vs) H):GOk P w K mg base (CXx P w) (k+1) (gam vals (((x,ps.length),(sp,[]))::fns) inis dics maks mths):=by
 rw[aL]at hc;obtain⟨f,fd,F,hm⟩:=d.ex;exact g.add (n:=ps.length) (CU F hc.1 hc.2 g len h) hm F.kp (F.binds hb) .nil
end
end R
set_option hygiene false in
local macro_rules | `(tactic| walk_at "wp") => `(tactic| simp only [_root_.R.wpB, _root_.R.wpS, _root_.R.wpE, _root_.R.wpT, _root_.R.wpL, _root_.R.wpO, _root_.R.wpC, _root_.R.wpG, _root_.R.E8, _root_.R.wpI, _root_.L2.uI, _root_.L2.tRet, _root_.L2.Fi, _root_.L2.yT, _root_.L2.wM, _root_.L2.Fl, _root_.L2.tIfS, _root_.L2.Fp, _root_.L2.tOrV, _root_.L2.Fk, _root_.L2.tNot, _root_.L2.tAnd, _root_.L2.tOr, _root_.L2.yR, _root_.R.AM, _root_.L2.tIf, _root_.L2.tCB, _root_.L2.jS, _root_.L2.pU, _root_.L2.uH, _root_.L2.tC, _root_.L2.tOp, _root_.L2.tUn, _root_.L2.sf, _root_.L2.tTup, _root_.L2.tLst, _root_.L2.yU, _root_.L2.tBM, _root_.L2.tBM0, _root_.L2.tSl, _root_.L2.Fj, _root_.L2.wL, _root_.R.cv, _root_.L2.l7, _root_.L2.gSub, _root_.L2.gTup, _root_.L2.Hw, _root_.L2.gNil, _root_.R.CGs.len, _root_.L2.Hq, _root_.L2.Ho, _root_.L2.Hr, _root_.L2.iTup, _root_.L2.iEnum, _root_.List.getElem?_cons_zero, _root_.List.getElem?_cons_succ, _root_.Option.some.injEq, _root_.exists_eq_left', _root_.exists_eq_left, _root_.L2.V.bl.injEq, _root_.L2.V.int.injEq, _root_.L2.V.str.injEq, _root_.List.set_cons_zero, _root_.List.set_cons_succ, _root_.R.CL.len, _root_.R.Ty.t, _root_.R.Ip, _root_.R.sub_ii, _root_.R.mul_ii, _root_.R.mod_ii, _root_.R.div_ii, _root_.R.pow_ii, _root_.R.shr_ii, _root_.R.add_ss, _root_.R.neg_i, _root_.R.GY, _root_.R.G3, _root_.R.Hu, _root_.R.vM, _root_.R.ne_ii, _root_.R.isnot_n, _root_.R.len_s, _root_.R.idx_s, _root_.R.cut_s, _root_.List.append_nil, _root_.R.mx, _root_.List.map_cons, _root_.List.map_nil, _root_.List.nil_append, _root_.List.cons_append])
namespace Cp
open PySem R
noncomputable def Bb:List Str:=["thing"]
noncomputable def sS:List Str:=["thing"]
noncomputable def ub:CB:=
  (.cons (.ret (.and (.bfn .isinstance (.cons (.var 0) (.cons (.ty .int) .nil))) (.not (.bfn .isinstance (.cons (.var 0) (.cons (.ty .bool) .nil))))))
  .nil)
noncomputable def DO:List Str:=["thing"]
noncomputable def vB:List Str:=["thing"]
noncomputable def vT:CB:=
  (.cons (.iff (.not (.bfn .isinstance (.cons (.var 0) (.cons (.ty .str) .nil))))
  (.cons (.ret (.con (.bool false)))
  .nil)
  .nil)
  (.cons (.iff (.not (.chain .LtE .LtE (.con (.int 1)) (.bfn .len (.cons (.var 0) .nil)) (.glo "LONGEST_NAME")))
  (.cons (.ret (.con (.bool false)))
  .nil)
  .nil)
  (.cons (.ret (.bfn .all (.cons (.comp ["sign"] [] (.name 0) (.seq (.var 0)) .no (.cmp .In (.var 0) (.glo "LETTERS"))) .nil)))
  .nil)))
noncomputable def xy:List Str:=["thing"]
noncomputable def oN:List Str:=["thing"]
noncomputable def pk:CB:=
  (.cons (.ret (.and (.call "is_whole" (.cons (.var 0) .nil)) (.cmp .In (.var 0) (.tup (.cons (.con (.int 0)) (.cons (.con (.int 1)) .nil))))))
  .nil)
noncomputable def sH:List Str:=["thing"]
noncomputable def lW:List Str:=["thing"]
noncomputable def mo:CB:=
  (.cons (.iff (.or (.not (.bfn .isinstance (.cons (.var 0) (.cons (.ty .tuple) .nil)))) (.cmp .Gt (.bfn .len (.cons (.var 0) .nil)) (.glo "MOST_PLACES")))
  (.cons (.ret (.con (.bool false)))
  .nil)
  .nil)
  (.cons (.ret (.bfn .all (.cons (.comp ["part"] [] (.name 0) (.seq (.var 0)) .no (.call "is_reading" (.cons (.var 0) .nil))) .nil)))
  .nil))
end Cp
set_option maxHeartbeats 1000000
namespace Cp
open PySem PySem.Spec PyProof.Rows L2 R
noncomputable def hW:Option HO->String
 |some (.lst _)=>"list"
 |some (.frz _ (.lst _))=>"list"
 |some (.tup _)=>"tuple"
 |some (.dK _)=>"dict"
 |some (.dT _)=>"dict"
 |_=>"?"
noncomputable def tyName(H:Hp):V->String
 |.non=>"NoneType"
 |.bl _=>"bool"
 |.int _=>"int"
 |.str _=>"str"
 |.ref a=>hW (H a)
 |_=>"?"
noncomputable def Known(H:Hp)(x:V):Prop:=tyName H x≠"?"
theorem Known.same{H H':Hp}{x:V}(h:Known H x)(s:aS H H'):Known H' x/\tyName H' x=tyName H x:=by
 cases x with
 |ref a=>
  have h':hW (H a)≠"?":=h;show hW (H' a)≠"?"/\hW (H' a)=hW (H a);cases e:H a with
  |none=>rw[e]at h';exact absurd rfl h'
  |some o=>rw[s a o e];rw[e]at h';exact⟨h',rfl⟩
 |_=>exact⟨h,rfl⟩
theorem Known.ty{K:af}{H:Hp}{x:V}(h:Known H x):lL K H x (.type (tyName H x)):=by
 cases x with
 |non=>exact .non
 |bl b=>exact .bl b
 |int i=>exact .int i
 |str s=>exact .str s
 |ref a=>
  have h':hW (H a)≠"?":=h;show lL K H (.ref a) (.type (hW (H a)));cases e:H a with
  |none=>rw[e]at h';exact absurd rfl h'
  |some o=>
   rw[e]at h';cases o with
   |lst xs=>exact .lst e
   |tup xs=>exact .tup e
   |dK kvs=>exact .dK e
   |dT kvs=>exact .dT e
   |frz ob u=>
    cases u with
    |lst xs=>exact .frz e
    |_=>exact absurd rfl h'
   |_=>exact absurd rfl h'
 |_=>exact absurd rfl h
theorem Known.mem{H:Hp}{x:V}(h:Known H x):tyName H x∈["NoneType","bool","int","str","list","tuple","dict"]:=by
 cases x with
 |ref a=>
  have h':hW (H a)≠"?":=h;show hW (H a)∈_;cases e:H a with
  |none=>rw[e]at h';exact absurd rfl h'
  |some o=>
   rw[e]at h';cases o with
   |lst xs=>simp[hW]
   |tup xs=>simp[hW]
   |dK kvs=>simp[hW]
   |dT kvs=>simp[hW]
   |frz ob u=>
    cases u with
    |lst xs=>simp[hW]
    |_=>exact absurd rfl h'
   |_=>exact absurd rfl h'
 |_=>first
  |exact absurd rfl h
  |simp[tyName]
noncomputable def jT(a b:String):Bool:=a==b||(a=="bool"&&b=="int")
theorem G9(K:af):∀(a:String)(t:Ty),a∈["NoneType","bool","int","str","list","tuple","dict"]->iN K (.type a) (.type t.t)=some (jT a t.t):=by
 intro a t h;simp only[aB,dy,or_false]at h;rcases h with rfl|rfl|rfl|rfl|rfl|rfl|rfl<;>cases t<;>rfl
theorem isi{K:af}{H:Hp}{x:V}{Q:VK}(h:Known H x)(t:Ty)(q:Q (.bl (jT (tyName H x) t.t)) H):rBf K .isinstance [x,.ty t.t] H Q:=
 .inl ⟨x,t.t,_,_,rfl,h.ty,G9 K _ t h.mem,q⟩
theorem G8{H:Hp}{i:Int}:Known H (.int i):=by show "int"≠"?";decide
theorem kn_str{H:Hp}{x:Str}:Known H (.str x):=by show "str"≠"?";decide
theorem G7{H:Hp}{a:Addr}{xs:List V}(h:H a=some (.tup xs)):Known H (.ref a):=by show hW (H a)≠"?";rw[h];show "tuple"≠"?";decide
theorem kn_lst{H:Hp}{a:Addr}{xs:List V}(h:H a=some (.lst xs)):Known H (.ref a):=by show hW (H a)≠"?";rw[h];show "list"≠"?";decide
theorem fN{H H1:Hp}{l:Addr}{o:HO}(s:aS H H1)(h:H l=none):aS H (upd H1 l o):=fun b u e=>by rw[bh (ck e h)];exact s b u e
noncomputable def isWhole:V->Bool
 |.int _=>true
 |_=>false
noncomputable def cD:V->Bool
 |.int i=>i==0||i==1
 |_=>false
noncomputable def spB(f:V->Bool):Sp:=fun vs H Q _=>∃x,vs=[x]/\Known H x/\∀H',aS H H'->Q (.bl (f x)) H'
theorem sub_int{H:Hp}{x:V}(h:Known H x):(jT (tyName H x) "int"&& !jT (tyName H x) "bool")=isWhole x:=by
 cases x with
 |ref a=>
  have h':hW (H a)≠"?":=h;show(jT (hW (H a)) "int"&& !jT (hW (H a)) "bool")=false;unfold hW;split <;>rfl
 |_=>rfl
theorem yJ{G:Gam}{K:af}:Sat G K (spB isWhole) ub sS:=by
 rintro vs H Q E ⟨x,rfl,hk,q⟩;unfold ub;change wpB G K _ _ _ [some x] H;walk_at "wp";refine isi hk .int ⟨_,rfl,?_⟩;have e:=sub_int hk;cases h1:jT (tyName H x) "int" with
 |false=>
  rw[h1,dN]at e;have q1:=q H (aS.refl H);rw[<-e]at q1;simpa[Ty.t,h1]using q1
 |true=>
  rw[h1,eP]at e;have q1:=q H (aS.refl H);rw[<-e]at q1;simp only[Ty.t,h1,if_true];exact isi hk .bool ⟨_,rfl,q1⟩
theorem uF{G:Gam}{K:af}(g1:G.fn "is_whole" 1=some (spB isWhole,[])):
  Sat G K (spB cD) pk oN:=by
 rintro vs H Q E ⟨x,rfl,hk,q⟩;unfold pk;change wpB G K _ _ _ [some x] H;walk_at "wp";refine⟨_,_,g1,x,rfl,hk,fun H1 s1=>⟨_,rfl,?_⟩⟩;cases x with
 |int i=>
  refine⟨by decide,fun p hp=>.inr ⟨p,_,rfl,.inr (SqT.of aw),rfl,rfl,?_⟩⟩;have q1:=q _ (s1.trans (az (o:=.tup [.int 0,.int 1]) hp));have e:(if false=true then !inV (.int i) [.int 0,.int 1]else inV (.int i) [.int 0,.int 1])=cD (.int i):=by
   show((0:Int)==i||((1:Int)==i||false))=(i==0||i==1);rw[Bool.or_false,Bool.beq_comm,Bool.beq_comm (a:=(1:Int))]
  rw[e];exact q1
 |_=>exact q H1 s1
noncomputable def ja(c:Nat):Bool:=decide (97<=c/\c<=122)
noncomputable def iB(z:Str):Bool:=decide (1<=z.length/\z.length<=8)&&z.cps.toList.all ja
noncomputable def isName:V->Bool
 |.str z=>iB z
 |_=>false
noncomputable def LETTERS:Str:="abcdefghijklmnopqrstuvwxyz"
theorem zC(c:Nat):decide (c∈LETTERS.cps.toList)=ja c:=by
 unfold ja;rw[show LETTERS.cps.toList=List.range' 97 26 by decide+kernel,decide_eq_decide,List.mem_range'_1];exact⟨fun h=>⟨h.1,Nat.le_of_lt_succ h.2⟩,fun h=>⟨h.1,Nat.lt_succ_of_le h.2⟩⟩
theorem Bw{K:af}{H:Hp}{c:Nat}{Q:VK}(q:Q (.bl (ja c)) H):iz K .In (.str ⟨#[c]⟩) (.str LETTERS) H Q:=by
 refine .inl ⟨_,_,rfl,rfl,?_⟩;rw[StrLaws.found_one,zC];exact q
theorem Bm:(20000:Nat)<=sizeLine:=by decide
noncomputable def spN:Sp:=fun vs H Q _=>∃x,vs=[x]/\Known H x/\(∀z,x=.str z->z.length<=20000)/\∀H',aS H H'->Q (.bl (isName x)) H'
theorem sub_str{H:Hp}{x:V}(h:Known H x):jT (tyName H x) "str"=(match x with |.str _=>true|_=>false):=by
 cases x with
 |ref a=>
  show jT (hW (H a)) "str"=false;unfold hW;split <;>rfl
 |_=>rfl
theorem AF{G:Gam}{K:af}(v1:G.val "LETTERS"=some (.str LETTERS))(v2:G.val "LONGEST_NAME"=some (.int 8)):
  Sat G K spN vT vB:=by
 rintro vs H Q E ⟨x,rfl,hk,hz,q⟩;unfold vT;change wpB G K _ _ _ [some x] H;walk_at "wp";refine isi hk .str ⟨_,rfl,?_⟩;rw[show Ty.t .str="str" from rfl,sub_str hk];cases x with
 |str z=>
  have hz:=hz z rfl;have hl:z.length<=sizeLine:=ba hz Bm;have all:∀R:VK,(∀H',aS H H'->R (.bl (z.cps.toList.all ja)) H')->vc (xQ K (uH 0)) (l7 0) tYes (tOp (iz K .In) (uH 0) fun σ H Q=>∃v,G.val "LETTERS"=some v/\Q v H) (mx ["sign"] []) [some (.str z)] H fun x H2=>rBf K .all [x] H2 R:=by
   intro R hR;refine dA (Ac rfl (di seq_str hl (fun _ _=>trivial) (fun i v _=>v=.bl (ja (z.cps.toList.getD i 0))) (fun _ _ _ _ _ h=>h) (fun τ=>∃t,τ=[t]) ⟨none,rfl⟩ ?_ ?_))
   ·rintro i x τ H3 R hi ⟨t,rfl⟩ s3 ⟨c,hc,rfl⟩ k
    refine⟨_,rfl,_,v1,Bw (k _ _ _ ⟨_,rfl⟩ (aS.refl _) ?_)⟩;have :z.cps.toList[i]? =some c:=by simpa using hc
    rw[ag,this];rfl
   ·intro vs H2 l hvl hF s2 hl2
    have e:=bool_list hvl hF;subst e;refine⟨l,_,rfl,SqL.of aw,?_⟩;have e2:((aq z.length).map fun i=>ja (z.cps.toList.getD i 0)).all id=z.cps.toList.all ja:=by
     have :=uf z.cps.toList 0 ja
     rw[show z.cps.toList.length=z.length by simp[Str.length]]at this;exact this
    rw[e2];exact hR _ (s2.trans (az hl2))
  simp only[dJ,aE,if_false,v2,jJ,exists_eq_left',exists_eq_left,V.bl.injEq,V.int.injEq,G3,len_s,hl,true_and];have q':∀H',aS H H'->Q (.bl (iB z)) H':=q;unfold iB at q';by_cases h1:1<=z.length
  ·by_cases h2:z.length<=8
   ·have e1:decide ((1:Int)<=z.length)=true:=decide_eq_true (by omega)
    have e2:decide ((z.length:Int)<=8)=true:=decide_eq_true (by omega);rw[decide_eq_true (And.intro h1 h2),eP]at q';simp only[e1,e2,if_true,dJ,aE,if_false];exact all Q q'
   ·have e1:decide ((1:Int)<=z.length)=true:=decide_eq_true (by omega)
    have e2:decide ((z.length:Int)<=8)=false:=decide_eq_false (by omega);rw[decide_eq_false (fun h=>h2 h.2),dN]at q';simp only[e1,e2,if_true,Bool.not_false];exact q' H (aS.refl H)
  ·have e1:decide ((1:Int)<=z.length)=false:=decide_eq_false (by omega)
   rw[decide_eq_false (fun h=>h1 h.1),dN]at q';simp only[e1,aE,if_false,Bool.not_false,if_true];exact q' H (aS.refl H)
 |_=>exact q H (aS.refl H)
noncomputable def dF:Option HO->Option (List V)
 |some (.tup xs)=>some xs
 |_=>none
theorem lq{o:Option HO}{xs:List V}(h:dF o=some xs):o=some (.tup xs):=by
 unfold dF at h;split at h
 ·cases h;rfl
 ·cases h
theorem vd(o:Option HO):jT (hW o) "tuple"=(dF o).isSome:=by
 unfold hW;split <;>first
  |rfl
  |skip
 unfold dF;split <;>simp_all
 rfl
noncomputable def dG(H:Hp):V->Bool
 |.ref a=>match dF (H a)with
  |some xs=>decide (xs.length<=60)&&xs.all cD
  |none=>false
 |_=>false
noncomputable def spR:Sp:=fun vs H Q _=>∃x,vs=[x]/\Known H x/\(∀a xs,x=.ref a->H a=some (.tup xs)->xs.length<=20000/\∀y∈xs,Known H y)/\∀H',aS H H'->Q (.bl (dG H x)) H'
theorem qV{G:Gam}{K:af}(g1:G.fn "is_reading" 1=some (spB cD,[]))(v1:G.val "MOST_PLACES"=some (.int 60)):
  Sat G K spR mo lW:=by
 rintro vs H Q E ⟨x,rfl,hk,hx,q⟩;unfold mo;change wpB G K _ _ _ [some x] H;walk_at "wp";refine isi hk .tuple ⟨_,rfl,?_⟩;rw[show Ty.t .tuple="tuple" from rfl];cases x with
 |ref a=>
  show if(!jT (hW (H a)) "tuple")=true then _ else _
  rw[vd];have q0:∀H',aS H H'->Q (.bl (match dF (H a)with |some xs=>decide (xs.length<=60)&&xs.all cD|none=>false)) H':=q;cases e0:dF (H a)with
  |none=>
   rw[e0]at q0;exact q0 H (aS.refl H)
  |some xs=>
    rw[e0]at q0;have e:=lq e0;have q':∀H',aS H H'->Q (.bl (decide (xs.length<=60)&&xs.all cD)) H':=q0;obtain⟨hl,hy⟩:=hx a xs rfl e;have hl':xs.length<=sizeLine:=ba hl Bm;simp only[iu,dJ,aE,if_false];refine Or.inl ⟨a,xs,rfl,.inr (SqT.of e),_,v1,?_⟩;rw[Hu];refine⟨_,rfl,?_⟩;by_cases hle:xs.length<=60
    ·rw[decide_eq_true hle,eP]at q'
     have e1:decide ((60:Int)<xs.length)=false:=decide_eq_false (by omega);rw[e1];simp only[aE,if_false];refine dA (qR rfl (SqT.of e) (di xj hl' (fun H1 s1=>s1.tup (SqT.of e)) (fun i v _=>v=.bl (cD (xs.getD i .non))) (fun _ _ _ _ _ h=>h) (fun τ=>∃t,τ=[t]) ⟨none,rfl⟩ ?_ ?_))
     ·rintro i y τ H3 R hi ⟨t,rfl⟩ s3 hy3 k
      have hym:y∈xs:=aG hy3;exact⟨_,_,g1,y,rfl,y,rfl,((hy y hym).same s3).1,fun H4 s4=>k _ _ _ ⟨_,rfl⟩ s4 (by rw[getD_some hy3])⟩
     ·intro vs H2 l hvl hF s2 hl2
      have e:=bool_list hvl hF;subst e;refine⟨l,_,rfl,SqL.of aw,?_⟩;rw[uf xs .non cD];exact q' _ (s2.trans (az hl2))
    ·rw[decide_eq_false hle,dN]at q'
     have e1:decide ((60:Int)<xs.length)=true:=decide_eq_true (by omega);rw[e1];simpa using q' H (aS.refl H)
 |_=>exact q H (aS.refl H)
end Cp
namespace Cp
open PySem R
noncomputable def DP:List Str:=["thing"]
noncomputable def vC:List Str:=["thing"]
noncomputable def vU:CB:=
  (.cons (.iff (.or (.not (.bfn .isinstance (.cons (.var 0) (.cons (.ty .tuple) .nil)))) (.cmp .NotEq (.bfn .len (.cons (.var 0) .nil)) (.con (.int 2))))
  (.cons (.ret (.con (.bool false)))
  .nil)
  .nil)
  (.cons (.ret (.and (.call "is_name" (.cons (.idx (.var 0) (.con (.int 0))) .nil)) (.call "are_readings" (.cons (.idx (.var 0) (.con (.int 1))) .nil))))
  .nil))
noncomputable def Bc:List Str:=["thing"]
noncomputable def sT:List Str:=["thing","names","counts"]
noncomputable def uc:CB:=
  (.cons (.iff (.or (.not (.bfn .isinstance (.cons (.var 0) (.cons (.ty .list) .nil)))) (.cmp .Gt (.bfn .len (.cons (.var 0) .nil)) (.glo "MOST_COPIES")))
  (.cons (.ret (.con (.bool false)))
  .nil)
  .nil)
  (.cons (.iff (.not (.bfn .all (.cons (.comp ["part"] [] (.name 0) (.seq (.var 0)) .no (.call "is_copy" (.cons (.var 0) .nil))) .nil)))
  (.cons (.ret (.con (.bool false)))
  .nil)
  .nil)
  (.cons (.asgc 1 (.comp ["name","readings"] [] (.tup (.cons (.name 0) (.cons (.name 1) .nil))) (.seq (.var 0)) .no (.var 0)))
  (.cons (.asgc 2 (.comp ["name","readings"] [] (.tup (.cons (.name 0) (.cons (.name 1) .nil))) (.seq (.var 0)) .no (.bfn .len (.cons (.var 1) .nil))))
  (.cons (.ret (.and (.cmp .Eq (.bfn .len (.cons (.bfn .set (.cons (.var 1) .nil)) .nil)) (.bfn .len (.cons (.var 1) .nil))) (.cmp .LtE (.bfn .len (.cons (.bfn .set (.cons (.var 2) .nil)) .nil)) (.con (.int 1)))))
  .nil)))))
noncomputable def xx:List Str:=["table"]
noncomputable def oM:List Str:=["table"]
noncomputable def pb:CB:=
  (.cons (.iff (.not (.call "is_table" (.cons (.var 0) .nil)))
  (.cons (.rais "NoTable" (.cons (.con (.str "this is no table")) .nil))
  .nil)
  .nil)
  .nil)
noncomputable def uM:List Str:=["table"]
noncomputable def m9:List Str:=["table"]
noncomputable def ni:CB:=
  (.cons (.expr (.call "need_table" (.cons (.var 0) .nil)))
  (.cons (.iff (.cmp .Eq (.bfn .len (.cons (.var 0) .nil)) (.con (.int 0)))
  (.cons (.ret (.con (.int 0)))
  .nil)
  .nil)
  (.cons (.ret (.bfn .len (.cons (.idx (.idx (.var 0) (.con (.int 0))) (.con (.int 1))) .nil)))
  .nil)))
end Cp
namespace Cp
open PySem PySem.Spec PyProof.Rows L2 R
noncomputable def Kn1(H:Hp)(x:V):Prop:=Known H x/\∀z,x=.str z->z.length<=20000
noncomputable def Kn2(H:Hp)(x:V):Prop:=Kn1 H x/\∀a xs,x=.ref a->H a=some (.tup xs)->xs.length<=20000/\∀y∈xs,Kn1 H y
noncomputable def Kn3(H:Hp)(x:V):Prop:=Kn1 H x/\∀a xs,x=.ref a->H a=some (.tup xs)->xs.length<=20000/\∀y∈xs,Kn2 H y
noncomputable def eD:Option HO->Option (List V)
 |some (.lst xs)=>some xs
 |some (.frz _ (.lst xs))=>some xs
 |_=>none
noncomputable def Kn4(H:Hp)(x:V):Prop:=Kn1 H x/\∀a xs,x=.ref a->eD (H a)=some xs->xs.length<=20000/\∀y∈xs,Kn3 H y
theorem wq{H H':Hp}{a:Addr}{o:HO}(s:aS H H')(k:H a≠none)(h:H' a=some o):H a=some o:=by
 cases e:H a with
 |none=>exact absurd e k
 |some u=>rw[s a u e]at h;exact h
theorem Known.some{H:Hp}{a:Addr}(k:Known H (.ref a)):H a≠none:=fun e=>by
 have k':hW (H a)≠"?":=k;rw[e]at k';exact k' rfl
theorem Kn1.same{H H':Hp}{x:V}(h:Kn1 H x)(s:aS H H'):Kn1 H' x:=⟨(h.1.same s).1,h.2⟩
theorem Kn2.same{H H':Hp}{x:V}(h:Kn2 H x)(s:aS H H'):Kn2 H' x:=⟨h.1.same s,fun a xs e hx=>by
 subst e;obtain⟨l,k⟩:=h.2 a xs rfl (wq s h.1.1.some hx);exact⟨l,fun y hy=>(k y hy).same s⟩⟩
theorem Kn3.same{H H':Hp}{x:V}(h:Kn3 H x)(s:aS H H'):Kn3 H' x:=⟨h.1.same s,fun a xs e hx=>by
 subst e;obtain⟨l,k⟩:=h.2 a xs rfl (wq s h.1.1.some hx);exact⟨l,fun y hy=>(k y hy).same s⟩⟩
theorem wu{H H':Hp}{x:V}(h:Known H x)(s:aS H H'):dG H' x=dG H x:=by
 cases x with
 |ref a=>
  show(match dF (H' a)with |some xs=>_|none=>_)=(match dF (H a)with |some xs=>_|none=>_);cases e:H a with
  |none=>exact absurd e h.some
  |some o=>rw[s a o e]
 |_=>rfl
noncomputable def dk(H:Hp):V->Bool
 |.ref a=>match dF (H a)with
  |some [n,r]=>isName n&&dG H r
  |_=>false
 |_=>false
theorem En{H H':Hp}{x:V}(h:Kn3 H x)(s:aS H H'):dk H' x=dk H x:=by
 cases x with
 |ref a=>
  show(match dF (H' a)with |some [n,r]=>_|_=>_)=(match dF (H a)with |some [n,r]=>_|_=>_);cases e:H a with
  |none=>exact absurd e h.1.1.some
  |some o=>
   rw[s a o e];cases o with
   |tup xs=>
    match xs with
    | []=>rfl
    | [_]=>rfl
    | [n,r]=>
     have k:=(h.2 a _ rfl e).2 r (by simp);show(isName n&&dG H' r)=(isName n&&dG H r);rw[wu k.1.1 s]
    |_::_::_::_=>rfl
   |_=>rfl
 |_=>rfl
noncomputable def spC:Sp:=fun vs H Q _=>∃x,vs=[x]/\Kn3 H x/\∀H',aS H H'->Q (.bl (dk H x)) H'
theorem AG{G:Gam}{K:af}(g1:G.fn "is_name" 1=some (spN,[]))(g2:G.fn "are_readings" 1=some (spR,[])):
  Sat G K spC vU vC:=by
 rintro vs H Q E ⟨x,rfl,hk,q⟩;unfold vU;change wpB G K _ _ _ [some x] H;walk_at "wp";refine isi hk.1.1 .tuple ⟨_,rfl,?_⟩;rw[show Ty.t .tuple="tuple" from rfl];cases x with
 |ref a=>
  show if(!jT (hW (H a)) "tuple")=true then _ else _
  rw[vd];have q0:∀H',aS H H'->Q (.bl (match dF (H a)with |some [n,r]=>isName n&&dG H r|_=>false)) H':=q;cases e0:dF (H a)with
  |none=>
   rw[e0]at q0;exact q0 H (aS.refl H)
  |some xs=>
   have e:=lq e0;rw[e0]at q0;obtain⟨hl,hy⟩:=hk.2 a xs rfl e;simp only[iu,dJ,aE,if_false];refine Or.inl ⟨a,xs,rfl,.inr (SqT.of e),?_⟩;show iz K .NotEq (.int (xs.length:Int)) (.int 2) H _;rw[ne_ii];refine⟨_,rfl,?_⟩
   match xs,hl,hy,e,q0 with
   | [],_,_,_,q0=>exact q0 H (aS.refl H)
   | [_],_,_,_,q0=>exact q0 H (aS.refl H)
   |_::_::_::r,_,_,_,q0=>
    rw[if_pos (by simp;omega)];exact q0 H (aS.refl H)
   | [n,r],_,hy,e,q0=>
    rw[if_neg (by simp)];have kn:=hy n (by simp);have kr:=hy r (by simp);refine⟨_,_,g1,.inr (.inl ⟨a,[n,r],0,n,rfl,rfl,SqT.of e,rfl,n,rfl,kn.1.1,kn.1.2,fun H1 s1=>⟨_,rfl,?_⟩⟩)⟩;have q1:∀H',aS H H'->Q (.bl (isName n&&dG H r)) H':=q0;cases en:isName n with
    |false=>
     rw[en,dN]at q1;rw[if_neg aD];exact q1 H1 s1
    |true=>
     rw[en,eP]at q1;rw[if_pos rfl];have kr1:=kr.same s1;refine⟨_,_,g2,.inr (.inl ⟨a,[n,r],1,r,rfl,rfl,s1.tup (SqT.of e),rfl,r,rfl,kr1.1.1,fun b ys eb hb=>?_,fun H2 s2=>?_⟩)⟩
     ·obtain⟨l,k⟩:=kr1.2 b ys eb hb
      exact⟨l,fun y hy=>(k y hy).1⟩
     ·rw[wu kr.1.1 s1]
      exact q1 H2 (s1.trans s2)
 |_=>exact q H (aS.refl H)
theorem zz{xs vs:List V}{f:V->V}(hl:vs.length=xs.length)(h:∀(i:Nat) v,vs[i]? =some v->v=f (xs.getD i .non)):vs=xs.map f:=by
 apply cK
 ·simp[hl]
 ·intro i h1 h2
  have h3:i<xs.length:=by omega
  have :=h i vs[i] (by simp[h1])
  rw[this,cJ,ag,ae h3];rfl
theorem vy:∀(l:List Str),(l.map (fw:Str->Key)).Nodup↔l.Nodup
 | []=>by simp
 |x::l=>by
  rw[bp,bU,bU,vy l];have e:fw x∈l.map (fw:Str->Key)↔x∈l:=by
   constructor
   ·intro h
    obtain⟨y,hy,e⟩:=ao.mp h;injection e with e
    rw[<-e];exact hy
   ·exact fun h=>ao.mpr ⟨x,h,rfl⟩
  rw[e]
theorem kU{K:af}{H:Hp}{a:Addr}{xs:List V}(h:eD (H a)=some xs):SqL K H a xs:=by
 unfold eD at h;split at h
 ·rename_i e;cases h;exact .inl (.inl e)
 ·rename_i o _ e;cases h;exact .inl (.inr ⟨o,e⟩)
 ·cases h
theorem Fq(o:Option HO):jT (hW o) "list"=(eD o).isSome:=by
 unfold hW;split <;>first
  |rfl
  |skip
 unfold eD;split <;>simp_all
 rfl
noncomputable def aW(H:Hp):V->Str
 |.ref a=>match dF (H a)with
  |some (.str z::_)=>z
  |_=>""
 |_=>""
noncomputable def cG(H:Hp):V->Nat
 |.ref a=>match dF (H a)with
  |some [_,.ref b]=>(dF (H b)).elim 0 jy
  |_=>0
 |_=>0
theorem gZ{H:Hp}{x:V}(h:dk H x=true):∃a z b ys,x=.ref a/\H a=some (.tup [.str z,.ref b])/\H b=some (.tup ys)/\iB z=true/\ys.length<=60/\(∀y∈ys,cD y=true)/\aW H x=z/\cG H x=ys.length:=by
 cases x with
 |ref a=>
  have h':(match dF (H a)with |some [n,r]=>isName n&&dG H r|_=>false)=true:=h;split at h'
  ·rename_i n r e
   rw[aL]at h';obtain⟨h1,h2⟩:=h';cases n with
   |str z=>
    cases r with
    |ref b=>
     have h3:(match dF (H b)with |some xs=>decide (xs.length<=60)&&xs.all cD|none=>false)=true:=h2;split at h3
     ·rename_i ys eb
      rw[aL,decide_eq_true_eq,bE]at h3;refine⟨a,z,b,ys,rfl,lq e,lq eb,h1,h3.1,h3.2,?_,?_⟩
      ·show(match dF (H a)with |some (.str z::_)=>z|_=>"")=z
       rw[e]
      ·show(match dF (H a)with |some [_,.ref b]=>(dF (H b)).elim 0 jy|_=>0)=ys.length
       rw[e];show(dF (H b)).elim 0 jy=ys.length;rw[eb];rfl
     ·cases h3
    |_=>cases h2
   |_=>cases h1
  ·cases h'
 |_=>cases h
noncomputable def dR(H:Hp):V->Bool
 |.ref a=>match eD (H a)with
  |some xs=>decide (xs.length<=40)&&(xs.all (dk H)&&(decide ((xs.map (aW H)).Nodup)&&decide (∀y∈xs,∀z∈xs,cG H y=cG H z)))
  |none=>false
 |_=>false
noncomputable def spT:Sp:=fun vs H Q _=>∃x,vs=[x]/\Kn4 H x/\∀H',aS H H'->Q (.bl (dR H x)) H'
theorem yK{G:Gam}{K:af}(g1:G.fn "is_copy" 1=some (spC,[]))(v1:G.val "MOST_COPIES"=some (.int 40)):
  Sat G K spT uc sT:=by
 rintro vs H Q E ⟨x,rfl,hk,q⟩;unfold uc;change wpB G K _ _ _ [some x,none,none] H;walk_at "wp";refine isi hk.1.1 .list ⟨_,rfl,?_⟩;rw[show Ty.t .list="list" from rfl];cases x with
 |ref a=>
  show if(!jT (hW (H a)) "list")=true then _ else _
  rw[Fq];have q0:∀H',aS H H'->Q (.bl (match eD (H a)with |some xs=>decide (xs.length<=40)&&(xs.all (dk H)&&(decide ((xs.map (aW H)).Nodup)&&decide (∀y∈xs,∀z∈xs,cG H y=cG H z))) |none=>false)) H':=q;cases e0:eD (H a)with
  |none=>
   rw[e0]at q0;exact q0 H (aS.refl H)
  |some xs=>
   rw[e0]at q0;obtain⟨hl,hy⟩:=hk.2 a xs rfl e0;have hl':xs.length<=sizeLine:=ba hl Bm;simp only[iu,dJ,aE,if_false];refine Or.inl ⟨a,xs,rfl,.inl (kU e0),_,v1,?_⟩;rw[Hu];refine⟨_,rfl,?_⟩;by_cases hle:xs.length<=40
   ·rw[decide_eq_false (by omega:¬(40:Int)<xs.length),if_neg aD]
    have qq:∀H',aS H H'->Q (.bl (xs.all (dk H)&&(decide ((xs.map (aW H)).Nodup)&&decide (∀y∈xs,∀z∈xs,cG H y=cG H z)))) H':=fun H' s'=>by
     have z:Q (.bl (decide (xs.length<=40)&&(xs.all (dk H)&&(decide ((xs.map (aW H)).Nodup)&&decide (∀y∈xs,∀z∈xs,cG H y=cG H z))))) H':=q0 H' s';rw[decide_eq_true hle,eP]at z;exact z
    have sq:∀{H1:Hp},aS H H1->SqL K H1 a xs:=fun s1=>s1.seq (kU e0);refine dA (dB rfl (kU e0) (di eL hl' (fun H1 s1=>sq s1) (fun i v _=>v=.bl (dk H (xs.getD i .non))) (fun _ _ _ _ _ h=>h) (fun τ=>∃t,τ=[t]) ⟨none,rfl⟩ ?_ ?_))
    ·rintro i y τ H3 R hi ⟨t,rfl⟩ s3 hy3 k
     have ky:=hy y (aG hy3);exact⟨_,_,g1,y,rfl,y,rfl,ky.same s3,fun H4 s4=>k _ _ _ ⟨_,rfl⟩ s4 (by rw[getD_some hy3,En ky s3])⟩
    intro vs H2 l hvl hF s2 hl2;have e:=bool_list hvl hF;subst e;refine⟨l,_,rfl,SqL.of aw,_,rfl,?_⟩;rw[uf xs .non (dk H)];have s3:aS H (upd H2 l (.lst (((aq xs.length).map fun i=>dk H (xs.getD i .non)).map V.bl))):=s2.trans (az hl2);generalize upd H2 l (.lst (((aq xs.length).map fun i=>dk H (xs.getD i .non)).map V.bl))=H3 at s3;cases ea:xs.all (dk H)with
    |false=>
     rw[ea,dN]at qq;rw[if_pos (by rfl)];exact qq H3 s3
    |true=>
     rw[ea,eP]at qq;rw[if_neg (by simp)];rw[bE]at ea;have sh:∀{i:Nat}{y:V},xs[i]? =some y->∃a z b ys,y=.ref a/\H a=some (.tup [.str z,.ref b])/\H b=some (.tup ys)/\aW H y=z/\cG H y=ys.length:=fun hy3=>by
      obtain⟨a,z,b,ys,h1,h2,h3,_,_,_,h7,h8⟩:=gZ (ea _ (aG hy3));exact⟨a,z,b,ys,h1,h2,h3,h7,h8⟩
     refine dA (dB rfl (sq s3) (di eL hl' (fun H1 s1=>sq (s3.trans s1)) (fun i v _=>v=.str (aW H (xs.getD i .non))) (fun _ _ _ _ _ h=>h) (fun τ=>∃t u,τ=[t,u]) ⟨none,none,rfl⟩ ?_ ?_))
     ·rintro i y τ H4 R hi ⟨t,u,rfl⟩ s4 hy3 k
      obtain⟨b,z,c,ys,rfl,h1,h2,h3,h4⟩:=sh hy3;refine⟨b,_,rfl,(s3.trans s4).tup (SqT.of h1),rfl,_,_,rfl,_,_,rfl,rfl,_,rfl,k _ _ _ ⟨_,_,rfl⟩ (aS.refl _) ?_⟩;rw[getD_some hy3,h3]
     intro vs1 H4 l1 hvl1 hF1 s4 hl4;have e1:vs1=xs.map fun y=>V.str (aW H y):=zz hvl1 hF1;subst e1;have s5:aS H (upd H4 l1 (.lst (xs.map fun y=>V.str (aW H y)))):=s3.trans (s4.trans (az hl4));have n1:SqL K (upd H4 l1 (.lst (xs.map fun y=>V.str (aW H y)))) l1 (xs.map fun y=>V.str (aW H y)):=SqL.of aw;generalize upd H4 l1 (.lst (xs.map fun y=>V.str (aW H y)))=H5 at s5 n1;refine dA (dB rfl (sq s5) (di eL hl' (fun H1 s1=>sq (s5.trans s1)) (fun i v _=>v=.int (cG H (xs.getD i .non))) (fun _ _ _ _ _ h=>h) (fun τ=>∃t u,τ=[t,u]) ⟨none,none,rfl⟩ ?_ ?_))
     ·rintro i y τ H6 R hi ⟨t,u,rfl⟩ s6 hy3 k
      obtain⟨b,z,c,ys,rfl,h1,h2,h3,h4⟩:=sh hy3;refine⟨b,_,rfl,(s5.trans s6).tup (SqT.of h1),rfl,_,_,rfl,_,_,rfl,rfl,_,rfl,Or.inl ⟨c,ys,rfl,.inr ((s5.trans s6).tup (SqT.of h2)),k _ _ _ ⟨_,_,rfl⟩ (aS.refl _) ?_⟩⟩;rw[getD_some hy3,h4]
     intro vs2 H6 l2 hvl2 hF2 s6 hl6;have e2:vs2=xs.map fun y=>V.int (cG H y):=zz hvl2 hF2;subst e2;have s7:aS H5 (upd H6 l2 (.lst (xs.map fun y=>V.int (cG H y)))):=s6.trans (az hl6);have n2:SqL K (upd H6 l2 (.lst (xs.map fun y=>V.int (cG H y)))) l2 (xs.map fun y=>V.int (cG H y)):=SqL.of aw;generalize upd H6 l2 (.lst (xs.map fun y=>V.int (cG H y)))=H7 at s7 n2;have ek1:(xs.map fun y=>(fw (aW H y):Key)).map kV=xs.map fun y=>V.str (aW H y):=by rw[bg];rfl
     have ek2:(xs.map fun y=>(eX (cG H y:Int):Key)).map kV=xs.map fun y=>V.int (cG H y):=by rw[bg];rfl
     refine⟨l1,xs.map fun y=>(fw (aW H y):Key),rfl,by rw[ek1];exact s7.seq n1,by rw[ai];omega,fun c1 hc1=>?_⟩;refine .inr (.inr ⟨c1,_,rfl,aw,?_⟩);have s8:aS H7 (upd H7 c1 (_root_.Q.AX c1 (_root_.Q.met (xs.map fun y=>(fw (aW H y):Key))).length)):=az hc1;generalize upd H7 c1 (_root_.Q.AX c1 (_root_.Q.met (xs.map fun y=>(fw (aW H y):Key))).length)=H8 at s8;refine Or.inl ⟨l1,_,rfl,.inl (s8.seq (s7.seq n1)),?_⟩;show iz K .Eq (.int ((_root_.Q.met (xs.map fun y=>(fw (aW H y):Key))).length:Int)) (.int ((xs.map fun y=>V.str (aW H y)).length:Int)) H8 _;rw[vM];refine⟨_,rfl,?_⟩;have hnd:decide (((_root_.Q.met (xs.map fun y=>(fw (aW H y):Key))).length:Int)=((xs.map fun y=>V.str (aW H y)).length:Int))=decide ((xs.map (aW H)).Nodup):=by
      rw[decide_eq_decide,ai];have hm:(xs.map fun y=>(fw (aW H y):Key)).Nodup↔(xs.map (aW H)).Nodup:=by
       have :(xs.map fun y=>(fw (aW H y):Key))=(xs.map (aW H)).map fw:=by rw[bg];rfl
       rw[this];exact vy _
      constructor
      ·intro z
       refine hm.mp (_root_.Q.xH ?_);rw[ai];exact u6 z
      ·intro z
       rw[_root_.Q.D5 (hm.mpr z),ai]
     rw[hnd];have s9:aS H H8:=s5.trans (s7.trans s8);cases en:decide ((xs.map (aW H)).Nodup)with
     |false=>
      rw[en,dN]at qq;rw[if_neg aD];exact qq H8 s9
     |true=>
      rw[en,eP]at qq;rw[if_pos rfl];refine⟨l2,xs.map fun y=>(eX (cG H y:Int):Key),rfl,by rw[ek2];exact s8.seq n2,by rw[ai];omega,fun c2 hc2=>?_⟩;refine .inr (.inr ⟨c2,_,rfl,aw,?_⟩);show iz K .LtE (.int ((_root_.Q.met (xs.map fun y=>(eX (cG H y:Int):Key))).length:Int)) (.int 1) _ Q;rw[G3];have hone:decide (((_root_.Q.met (xs.map fun y=>(eX (cG H y:Int):Key))).length:Int)<=1)=decide (∀y∈xs,∀z∈xs,cG H y=cG H z):=by
       rw[decide_eq_decide];have h1:((_root_.Q.met (xs.map fun y=>(eX (cG H y:Int):Key))).length:Int)<=1↔(_root_.Q.met (xs.map fun y=>(eX (cG H y:Int):Key))).length<=1:=by omega
       rw[h1,_root_.Q.met_one];constructor
       ·intro z y hy1 y' hy2
        have :=z _ (ao.mpr ⟨y,hy1,rfl⟩) _ (ao.mpr ⟨y',hy2,rfl⟩)
        injection this with this;omega
       ·intro z k1 hk1 k2 hk2
        obtain⟨y,hy1,rfl⟩:=ao.mp hk1;obtain⟨y',hy2,rfl⟩:=ao.mp hk2;rw[z y hy1 y' hy2]
      rw[hone];exact qq _ (s9.trans (az hc2))
   ·rw[decide_eq_true (by omega:(40:Int)<xs.length),if_pos rfl]
    have q1:Q (.bl (decide (xs.length<=40)&&(xs.all (dk H)&&(decide ((xs.map (aW H)).Nodup)&&decide (∀y∈xs,∀z∈xs,cG H y=cG H z))))) H:=q0 H (aS.refl H);rw[decide_eq_false hle,dN]at q1;exact q1
 |_=>exact q H (aS.refl H)
noncomputable def XC(K:af)(C:Addr):Prop:=cE K (.ref C)=true/\PySem.W.excIn K C bmV "ValueError.__new__"=true
theorem GF:(1:Nat)<=sizeLine:=by decide
noncomputable def wQ(C:Addr):Sp:=fun vs H Q E=>∃x,vs=[x]/\Kn4 H x/\(dR H x=true->∀H',aS H H'->Q .non H')/\(dR H x=false->∀H',aS H H'->E (.ref C) none H')
theorem uE{G:Gam}{K:af}{C:Addr}(g1:G.fn "is_table" 1=some (spT,[]))(v1:G.val "NoTable"=some (.ref C))(xc:XC K C):
  Sat G K (wQ C) pb oM:=by
 rintro vs H Q E ⟨x,rfl,hk,q1,q2⟩;unfold pb;change wpB G K _ _ _ [some x] H;walk_at "wp";refine⟨_,_,g1,x,rfl,hk,fun H1 s1=>⟨_,rfl,?_⟩⟩;cases e:dR H x with
 |true=>
  rw[if_neg (by simp)];exact q1 e H1 s1
 |false=>
  rw[if_pos (by rfl)];exact⟨C,v1,xc.1,xc.2,GF,q2 e H1 s1⟩
noncomputable def count(H:Hp):V->Nat
 |.ref a=>match eD (H a)with
  |some (y::_)=>cG H y
  |_=>0
 |_=>0
theorem eT{H:Hp}{x:V}(h:dR H x=true):∃a xs,x=.ref a/\eD (H a)=some xs/\xs.length<=40/\(∀y∈xs,dk H y=true)/\(xs.map (aW H)).Nodup/\∀y∈xs,cG H y=count H x:=by
 cases x with
 |ref a=>
  have h':(match eD (H a)with |some xs=>decide (xs.length<=40)&&(xs.all (dk H)&&(decide ((xs.map (aW H)).Nodup)&&decide (∀y∈xs,∀z∈xs,cG H y=cG H z))) |none=>false)=true:=h;split at h'
  ·rename_i xs e
   rw[aL,aL,aL,decide_eq_true_eq,decide_eq_true_eq,decide_eq_true_eq,bE]at h';obtain⟨h1,h2,h3,h4⟩:=h';refine⟨a,xs,rfl,e,h1,h2,h3,fun y hy=>?_⟩;show _=(match eD (H a)with |some (y::_)=>cG H y|_=>0);rw[e];cases xs with
   |nil=>cases hy
   |cons z r=>exact h4 y hy z (.head _)
  ·cases h'
 |_=>cases h
noncomputable def wY(C:Addr):Sp:=fun vs H Q E=>∃x,vs=[x]/\Kn4 H x/\(dR H x=true->∀H',aS H H'->Q (.int (count H x)) H')/\(dR H x=false->∀H',aS H H'->E (.ref C) none H')
theorem rV{G:Gam}{K:af}{C:Addr}(g1:G.fn "need_table" 1=some (wQ C,[])):
  Sat G K (wY C) ni m9:=by
 rintro vs H Q E ⟨x,rfl,hk,q1,q2⟩;unfold ni;change wpB G K _ _ _ [some x] H;walk_at "wp";refine⟨_,_,g1,x,rfl,hk,fun e H1 s1=>?_,q2⟩;obtain⟨a,xs,rfl,h1,h2,h3,h4,h5⟩:=eT e;have sq:SqL K H1 a xs:=s1.seq (kU h1);refine Or.inl ⟨a,xs,rfl,.inl sq,?_⟩;show iz K .Eq (.int (xs.length:Int)) (.int 0) H1 _;rw[vM];refine⟨_,rfl,?_⟩;cases xs with
 |nil=>
  rw[if_pos (by rfl)];have z:=q1 e H1 s1;have ec:count H (.ref a)=0:=by
   show(match eD (H a)with |some (y::_)=>cG H y|_=>0)=0;rw[h1]
  rw[ec]at z;exact z
 |cons y r=>
  rw[if_neg (by simp;omega)];obtain⟨b,z,c,ys,rfl,k1,k2,_,_,_,_,k8⟩:=gZ (h3 y (.head _));refine .inl ⟨a,_,0,.ref b,rfl,rfl,sq,cN (j:=0) rfl,?_⟩;refine .inr (.inl ⟨b,_,1,.ref c,rfl,rfl,s1.tup (SqT.of k1),rfl,?_⟩);refine Or.inl ⟨c,ys,rfl,.inr (s1.tup (SqT.of k2)),?_⟩;have w:=q1 e H1 s1;rw[<-h5 _ (.head _),k8]at w;exact w
noncomputable def isPlace(H:Hp)(x:V):V->Bool
 |.int i=>decide (0<=i/\i<count H x)
 |_=>false
noncomputable def p8(H:Hp):V->List V
 |.ref a=>match dF (H a)with
  |some [_,.ref b]=>(dF (H b)).getD []
  |_=>[]
 |_=>[]
noncomputable def at_(H:Hp)(i:Int)(y:V):V:=(p8 H y).getD i.toNat .non
theorem jW{H:Hp}{x:V}(h:dk H x=true):∃a b,x=.ref a/\H a=some (.tup [.str (aW H x),.ref b])/\H b=some (.tup (p8 H x))/\(p8 H x).length=cG H x/\∀y∈p8 H x,cD y=true:=by
 obtain⟨a,z,b,ys,rfl,h1,h2,_,_,h6,h7,h8⟩:=gZ h;have e:p8 H (.ref a)=ys:=by
  show(match dF (H a)with |some [_,.ref b]=>(dF (H b)).getD [] |_=>[])=ys;rw[h1];show(dF (H b)).getD []=ys;rw[h2];rfl
 refine⟨a,b,rfl,by rw[h7];exact h1,by rw[e];exact h2,by rw[e,h8],by rw[e];exact h6⟩
theorem BS{H:Hp}{x y:V}{i:Int}(h:dk H y=true)(hc:cG H y=count H x)(hi:isPlace H x (.int i)=true):atI (p8 H y) i=some (at_ H i y)/\cD (at_ H i y)=true:=by
 have hi':0<=i/\i<count H x:=of_decide_eq_true hi;obtain⟨a,b,_,_,_,h4,h5⟩:=jW h;have hlt:i.toNat<(p8 H y).length:=by omega
 have e:(p8 H y)[i.toNat]? =some (at_ H i y):=by
  unfold at_;rw[ag,ae hlt];rfl
 refine⟨?_,h5 _ (aG e)⟩;have :=cN (j:=i.toNat) e
 rwa [show((i.toNat:Nat):Int)=i by omega]at this
theorem gM{v:V}(h:cD v=true):v=.int 0\/v=.int 1:=by
 cases v with
 |int i=>
  have h':(i==0||i==1)=true:=h;rw[dj,beq_iff_eq,beq_iff_eq]at h';rcases h' with rfl|rfl
  ·exact .inl rfl
  ·exact .inr rfl
 |_=>cases h
theorem vP{J:It}{Hc:Hp->Prop}{g:TG}{tc:TT}{te:TE}{Q:VK}{τ0:L2.St}{H1:Hp}{xs:List V}(S:ug J xs.length (fun i x _=>xs[i]? =some x) Hc)(hn:xs.length<=sizeLine)(hc:∀H,aS H1 H->Hc H)
  (t:V->Bool)(f:V->V)(T:L2.St->Prop)(hT:T τ0)
  (step:∀x τ H3 (Rt:L2.St->V->Hp->Prop)(Rf:L2.St->Hp->Prop),x∈xs->T τ->aS H1 H3->(∀τ' H6,T τ'->aS H3 H6->t x=true->Rt τ' (f x) H6)->(∀τ' H6,T τ'->aS H3 H6->t x=false->Rf τ' H6)->
   g x τ H3 fun τ4 H4=>tc τ4 H4 fun b H5=>if b=true then te τ4 H5 (Rt τ4)else Rf τ4 H5)
  (fin:∀H2 l,aS H1 H2->H2 l=none->Q (.ref l) (upd H2 l (.lst ((xs.filter t).map f)))):Dg J g tc te τ0 H1 Q:=by
 refine⟨fun i m τ acc H2=>m=xs.length-i/\i<=xs.length/\T τ/\acc=((xs.take i).filter t).map f/\aS H1 H2,⟨xs.length,by simp,a7 _,hT,by simp,aS.refl _⟩,?_⟩;rintro i m τ acc H2 ⟨rfl,hi,ht,rfl,sm⟩;have q:=hc H2 sm;by_cases hlt:i<xs.length
 ·refine .inr ⟨S.go i H2 q hlt,fun τ' acc' H'=>T τ'/\acc'=((xs.take (i+1)).filter t).map f/\aS H1 H',fun τ' acc' H' ⟨a,b,c⟩=>⟨xs.length-(i+1),by omega,rfl,hlt,a,b,c⟩,fun x H3 y=>?_⟩
  obtain⟨y1,y2⟩:=S.yld i H2 x H3 q hlt y;have e:xs.take (i+1)=xs.take i++[x]:=by rw[dc,y1];rfl
  have hlen:(((xs.take i).filter t).map f).length<=i:=by
   rw[ai];refine ba (List.length_filter_le _ _) ?_;rw[bR];omega
  refine step x τ H3 _ _ (aG y1) ht (sm.trans y2) (fun τ' H6 h1 h2 h3=>⟨by omega,h1,?_,(sm.trans y2).trans h2⟩) (fun τ' H6 h1 h2 h3=>⟨h1,?_,(sm.trans y2).trans h2⟩)
  ·rw[e,kK,cH]
   simp[h3]
  ·rw[e,kK,cH]
   simp[h3]
 ·have e:i=xs.length:=by omega
  subst e;rw[eQ];exact .inl ⟨S.stop _ H2 q (ax _),fun l hl'=>fin H2 l sm hl'⟩
end Cp
namespace Lt
open PySem R
noncomputable def uN:List Str:=["_law_script","_law_k"]
noncomputable def ng:List Str:=["_law_script","_law_k"]
noncomputable def nN:CB:=
  (.cons (.iff (.cmp .Lt (.var 1) (.bfn .len (.cons (.var 0) .nil)))
  (.cons (.ret (.idx (.var 0) (.var 1)))
  .nil)
  .nil)
  (.cons (.ret (.con (.int 0)))
  .nil))
end Lt
namespace Lt
open PySem PySem.Spec PyProof.Rows L2 R Cp
theorem C1{i j:Int}(h0:0<=j)(h1:j<18446744073709551616):BX i j:=.inr ⟨by omega,by omega⟩
theorem qJ{i j:Int}(h0:0<=i)(h1:i<18446744073709551616):BX i j:=.inl ⟨by omega,by omega⟩
noncomputable def w6(K:af):Sp:=fun vs H Q _=>∃(a:Addr)(ns:List Int)(k:Nat),vs=[.ref a,.int k]/\SqL K H a (ns.map V.int)/\Q (.int (ns.getD k 0)) H
theorem wp_cell{G:Gam}{K:af}:Sat G K (w6 K) nN ng:=by
 rintro vs H Q E ⟨a,ns,k,rfl,hs,q⟩;unfold nN;change wpB G K _ _ _ [some (.ref a),some (.int k)] H;walk_at "wp";refine Or.inl ⟨a,_,rfl,.inl hs,?_⟩;show iz K .Lt (.int (k:Int)) (.int ((ns.map V.int).length:Int)) H _;rw[GY,ai];refine⟨_,rfl,?_⟩;by_cases hk:k<ns.length
 ·rw[decide_eq_true (by omega:(k:Int)<(ns.length:Int)),if_pos rfl]
  refine .inl ⟨a,_,k,_,rfl,rfl,hs,cN (j:=k) (v:=.int (ns.getD k 0)) ?_,q⟩;rw[ak,ae hk,ag,ae hk];rfl
 ·rw[decide_eq_false (by omega:¬(k:Int)<(ns.length:Int)),if_neg aD]
  rw[ag,bB (by omega)]at q;exact q
theorem mod2(x:Int):cD (.int (x%2))=true:=by
 have h0:0<=x%2:=bG _ (by decide);have h1:x%2<2:=bV _ (by decide);have h:x%2=0\/x%2=1:=by omega
 rcases h with h|h<;>rw[h]<;>rfl
noncomputable def xO(x:Int):Nat:=97+(x%26).toNat
theorem lett_ok(x:Int):ja (xO x)=true:=by
 have h0:0<=x%26:=bG _ (by decide);have h1:x%26<26:=bV _ (by decide);unfold ja xO;exact decide_eq_true (by omega)
theorem G1{x y:Int}(h:xO x=xO y):x%26=y%26:=by
 have h0:0<=x%26:=bG _ (by decide);have h1:0<=y%26:=bG _ (by decide);unfold xO at h;have e:=Nat.add_left_cancel h;rw[<-Int.toNat_of_nonneg h0,<-Int.toNat_of_nonneg h1,e]
noncomputable abbrev mkS(l:List Nat):Str:=⟨l.toArray⟩
theorem mk_app(a b:List Nat):mkS a++mkS b=mkS (a++b):=by
 show(⟨a.toArray++b.toArray⟩:Str)=⟨(a++b).toArray⟩;rw[List.append_toArray]
theorem sV(a:List Nat):(mkS a).length=a.length:=by show a.toArray.size=_;simp
theorem HV(l:List Nat)(k:Nat):BI (mkS l) none (some (k:Int))=mkS (l.take k):=by
 unfold BI;rw[HT.xk,HT.FK,sV];show mkS _=_;congr 1;show((l.toArray.toList.drop 0).take (min k l.length-0))=l.take k;rw[yH,EO];show l.take (min k l.length)=l.take k;by_cases h:k<=l.length
 ·rw[Nat.min_eq_left h]
 ·rw[Nat.min_eq_right (by omega),eQ,eN (by omega)]
theorem Bn:∀j:Fin 26,LETTERS.cps.toList[j.val]? =some (97+j.val):=by decide+kernel
theorem BR(x:Int):atI LETTERS.cps.toList (x%26)=some (xO x):=by
 have h0:0<=x%26:=bG _ (by decide);have h1:x%26<26:=bV _ (by decide);obtain⟨j,hj⟩:=dD h0;rw[hj];refine cN ?_;have :=Bn ⟨j,by omega⟩;rw[this];unfold xO;rw[hj];rfl
theorem xN:LETTERS.length<=sizeLine:=by decide+kernel
theorem short{n:Nat}(h:n<=40):n<=sizeLine:=ba h (by decide)
theorem mk1(x:Nat):(⟨#[x]⟩:Str)=mkS [x]:=rfl
end Lt
namespace Q
open PySem PySem.Spec PySem.W PyProof.Rows L2
theorem zl{ks:List Str}(nd:ks.Nodup):(ord ks).Perm (aq ks.length):=by
 unfold ord;split
 ·exact dW _
 ·have P:=(fv (r8 nd) (by omega)).1
  have :=gI.mp P.perm
  simpa using this
theorem range_getD{α:Type}(d:α)(ys:List α):(aq ys.length).map (fun i=>ys.getD i d)=ys:=by
 apply cK
 ·simp
 ·intro i h1 h2
  simp[h2]
theorem gc{α:Type}(d:α){ks:List Str}{ys:List α}(nd:ks.Nodup)(hl:ks.length=ys.length):(sortBy d ks ys).Perm ys:=by
 unfold sortBy;have h:=(zl nd).map fun i=>ys.getD i d;rw[hl,range_getD]at h;exact h
theorem iS{ks:List Str}(nd:ks.Nodup):(sortBy ("":Str) ks ks).Pairwise fun a b=>tlt a b=true:=by
 unfold sortBy ord;split
 ·rename_i h
  rw[range_getD]
  match ks,h with
  | [],_=>exact .nil
  | [x],_=>simp
  |_::_::_,h=>simp at h;omega
 ·rename_i h
  obtain⟨P,U,_⟩:=fv (r8 nd) (by omega:1<=ks.length);rw[eY];intro i j hi hj hij;have hi':i<ks.length:=by simpa[P.size]using hi
  have hj':j<ks.length:=by simpa[P.size]using hj
  have u:=U i j hij hj';rw[cJ,cJ];have e:∀(k:Nat)(hk:k<(run (lZ ks) (cV ks.length)).toList.length),(run (lZ ks) (cV ks.length)).toList[k]=at' (run (lZ ks) (cV ks.length)) k:=fun k hk=>by
   have hk':k<(run (lZ ks) (cV ks.length)).size:=by simpa using hk
   simp[at',hk']
  rw[e,e];exact u
theorem Dv{x y:Str}(a:tlt x y=true)(b:tlt y x=true):False:=by
 have c:=vb a b;unfold tlt at c;exact List.lt_irrefl _ (of_decide_eq_true c)
theorem j8:∀{l m:List Str},l.Perm m->l.Pairwise (fun a b=>tlt a b=true)->m.Pairwise (fun a b=>tlt a b=true)->l=m
 | [],m,p,_,_=>by rw[List.nil_perm.mp p]
 |x::l,[],p,_,_=>by simpa using p.length_eq
 |x::l,y::m,p,h1,h2=>by
  rw[List.pairwise_cons]at h1 h2;have e:x=y:=by
   by_cases e:x=y
   ·exact e
   ·have hx:x∈m:=by
     have :=p.mem_iff.mp (aI (a:=x) (l:=l))
     rcases aB.mp this with z|z
     ·exact absurd z e
     ·exact z
    have hy:y∈l:=by
     have :=p.mem_iff.mpr (aI (a:=y) (l:=m))
     rcases aB.mp this with z|z
     ·exact absurd z.symm e
     ·exact z
    exact(Dv (h1.1 y hy) (h2.1 x hx)).elim
  subst e;rw[j8 (List.perm_cons x |>.mp p) h1.2 h2.2]
theorem qy{α:Type}(d:α)(f:α->Str)(p:α->Bool){ys:List α}(nd:(ys.map f).Nodup):((sortBy d (ys.map f) ys).filter p).map f=sortBy ("":Str) ((ys.filter p).map f) ((ys.filter p).map f):=by
 have nd2:((ys.filter p).map f).Nodup:=nd.sublist (pQ.map _);refine j8 ?_ ?_ (iS nd2)
 ·exact(((gc d nd (by simp)).filter p).map f).trans (gc ("":Str) nd2 rfl).symm
 ·have h:((sortBy d (ys.map f) ys).map f).Pairwise fun a b=>tlt a b=true:=by
   have r:=iS nd;unfold sortBy at r⊢;rw[bg];have e:(ord (ys.map f)).map (f∘fun i=>ys.getD i d)=(ord (ys.map f)).map fun i=>(ys.map f).getD i ("":Str):=by
    apply cm
    intro i hi;have hi':i<ys.length:=by
     have :=(zl nd).mem_iff.mp hi
     simpa using this
    show f (ys.getD i d)=(ys.map f).getD i ("":Str);rw[ag,ag,ak,ae hi'];rfl
   rw[e];exact r
  exact h.sublist (pQ.map _)
end Q
namespace Lt
open PySem PySem.Spec PyProof.Rows L2 R Cp
mutual
theorem o5:∀d:D,eqD d d=true
 |.non=>rfl
 |.bl b=>by cases b<;>rfl
 |.int i=>by show(i==i)=true;simp
 |.str x=>by show(x==x)=true;simp
 |.tup ds=>qh ds
 |.lst ds=>qh ds
theorem qh:∀ds:List D,lr ds ds=true
 | []=>rfl
 |d::ds=>by show(eqD d d&&lr ds ds)=true;rw[o5 d,qh ds];rfl
end
theorem Cb{K:af}{H:Hp}:∀zs:List V,(∀z∈zs,cD z=true)->∃ds,fg K H ds zs/\gv ds=0
 | [],_=>⟨[],rfl,rfl⟩
 |z::zs,h=>by
  obtain⟨ds,h1,h2⟩:=Cb zs fun y hy=>h y (.tail _ hy);rcases gM (h z (.head _))with rfl|rfl
  ·exact⟨.int 0::ds,⟨_,_,rfl,rfl,h1⟩,by show max 0 (gv ds)=0;rw[h2];rfl⟩
  ·exact⟨.int 1::ds,⟨_,_,rfl,rfl,h1⟩,by show max 0 (gv ds)=0;rw[h2];rfl⟩
theorem qz{K:af}{H:Hp}:∀ys:List V,(∀y∈ys,dk H y=true)->∃ds,fg K H ds ys/\gv ds<=2
 | [],_=>⟨[],rfl,by decide⟩
 |y::ys,h=>by
  obtain⟨ds,h1,h2⟩:=qz ys fun z hz=>h z (.tail _ hz);obtain⟨a,b,rfl,k1,k2,_,k4⟩:=jW (h y (.head _));obtain⟨es,g1,g2⟩:=Cb (K:=K) (H:=H) _ k4;refine⟨.tup [.str (aW H (.ref a)),.tup es]::ds,⟨_,_,rfl,⟨a,_,rfl,SqT.of k1,_,_,rfl,rfl,_,_,rfl,⟨b,_,rfl,SqT.of k2,g1⟩,rfl⟩,h1⟩,?_⟩;show max (max 0 (max (gv es+1) 0)+1) (gv ds)<=2;rw[g2];omega
end Lt
namespace L2
open PySem PySem.Spec PyProof.Rows
section
variable {κ α:Type}[DecidableEq κ](kf:α->κ)(vf:α->V)
noncomputable def oY(acc:List (κ×V))(y:α):List (κ×V):=if(eI acc (kf y)).isSome then acc else putK acc (kf y) (vf y)
noncomputable def fnd(ys:List α):List (κ×V):=ys.foldl (oY kf vf) []
theorem Hz(acc:List (κ×V))(y:α)(k:κ):eI (oY kf vf acc y) k=if(eI acc k).isSome then eI acc k else if k=kf y then some (vf y)else none:=by
 unfold oY;cases h:eI acc (kf y)with
 |some v=>
  show eI acc k=_;cases hk:eI acc k with
  |some u=>rfl
  |none=>
   rw[if_neg (by simp),if_neg];intro e;rw[e,h]at hk;cases hk
 |none=>
  rw[if_neg (by simp),Fc];by_cases e:k=kf y
  ·rw[if_pos e,e,h]
   simp
  ·rw[if_neg e]
   cases hk:eI acc k<;>simp[e]
theorem fndS_nd{acc:List (κ×V)}(y:α)(h:(acc.map (·.1)).Nodup):((oY kf vf acc y).map (·.1)).Nodup:=by
 unfold oY;cases e:eI acc (kf y)with
 |some v=>exact h
 |none=>rw[if_neg (by simp)];exact nd_putK _ h e
theorem HA(acc:List (κ×V))(y:α):(oY kf vf acc y).length<=acc.length+1:=by
 unfold oY;split
 ·omega
 ·exact qD _ _ _
theorem zM:∀(ys:List α)(acc:List (κ×V)),(ys.foldl (oY kf vf) acc).length<=acc.length+ys.length
 | [],acc=>ax _
 |y::ys,acc=>by
  have :=zM ys (oY kf vf acc y)
  have :=HA kf vf acc y
  simp only[eF,bS];omega
theorem CT:∀(ys:List α){acc:List (κ×V)},(acc.map (·.1)).Nodup->((ys.foldl (oY kf vf) acc).map (·.1)).Nodup
 | [],_,h=>h
 |y::ys,_,h=>CT ys (fndS_nd kf vf y h)
theorem zL:∀(ys:List α)(acc:List (κ×V))(k:κ),eI (ys.foldl (oY kf vf) acc) k=if(eI acc k).isSome then eI acc k else(ys.find? fun y=>decide (kf y=k)).map vf
 | [],acc,k=>by
  show eI acc k=_;cases eI acc k<;>rfl
 |y::ys,acc,k=>by
  rw[eF,zL ys,Hz];cases hk:eI acc k with
  |some u=>simp
  |none=>
   simp only[EW,aE,if_false];by_cases e:k=kf y
   ·rw[if_pos e,iJ]
    simp[e]
   ·have e':¬kf y=k:=fun z=>e z.symm
    rw[if_neg e,iJ];simp[e']
theorem xU(ys:List α)(k:κ):eI (fnd kf vf ys) k=(ys.find? fun y=>decide (kf y=k)).map vf:=by
 unfold fnd;rw[zL];rfl
theorem fnd_nd(ys:List α):((fnd kf vf ys).map (·.1)).Nodup:=CT kf vf ys gJ
theorem fnd_len(ys:List α):(fnd kf vf ys).length<=ys.length:=by
 have :=zM kf vf ys []
 rw[m7,ur]at this;exact this
theorem xV{ys:List α}{k:κ}:k∈(fnd kf vf ys).map (·.1)↔∃y∈ys,kf y=k:=by
 constructor
 ·intro h
  cases e:eI (fnd kf vf ys) k with
  |none=>exact absurd h (yL e)
  |some v=>
   rw[xU]at e;obtain⟨y,hy,_⟩:=Aw.mp e;exact⟨y,Aj hy,by have :=List.find?_some hy;simpa using this⟩
 ·rintro⟨y,hy,e⟩
  cases h:eI (fnd kf vf ys) k with
  |some v=>exact valV_in h
  |none=>
   rw[xU,Option.map_eq_none_iff,kJ]at h;exact absurd e (by have :=h y hy;simpa using this)
theorem GN:∀{l m:List κ},l.Nodup->(∀x∈l,x∈m)->l.length<=m.length
 | [],_,_,_=>a7 _
 |a::l,m,h,hs=>by
  obtain⟨h1,h2⟩:=bU.mp h;have ha:=hs a (.head _);have :=GN (l:=l) (m:=m.erase a) h2 fun x hx=>(ou (fun e:x=a=>h1 (by rw[<-e];exact hx))).mpr (hs x (.tail _ hx));rw[Ay ha]at this;have :=Dl ha;simp only[bS];omega
theorem fnd_all{ys:List α}{ks:List κ}(hk:ks.Nodup)(hs:∀y∈ys,kf y∈ks):(fnd kf vf ys).length<ks.length↔∃k∈ks,∀y∈ys,kf y≠k:=by
 have hsub:∀k∈(fnd kf vf ys).map (·.1),k∈ks:=fun k h=>by
  obtain⟨y,hy,e⟩:=(xV kf vf).mp h;rw[<-e];exact hs y hy
 have hnd:=fnd_nd kf vf ys;constructor
 ·intro hl
  apply aR
  intro hno;have hall:∀k∈ks,k∈(fnd kf vf ys).map (·.1):=fun k hk=>by
   apply aR
   intro hn;exact hno ⟨k,hk,fun y hy e=>hn ((xV kf vf).mpr ⟨y,hy,e⟩)⟩
  have :=GN hk hall
  rw[ai]at this;omega
 ·rintro⟨k,hkm,hk2⟩
  have hn:k∉(fnd kf vf ys).map (·.1):=fun h=>by
   obtain⟨y,hy,e⟩:=(xV kf vf).mp h;exact hk2 y hy e
  have :(k::(fnd kf vf ys).map (·.1)).Nodup:=bU.mpr ⟨hn,hnd⟩;have :=GN this (fun x hx=>by
   rcases aB.mp hx with rfl|hx
   ·exact hkm
   ·exact hsub x hx)
  rw[bS,ai]at this;omega
end
end L2
namespace Kc
open PySem R
noncomputable def p9:List Str:=["copies","one","other"]
noncomputable def kQ:List Str:=["copies","one","other","found","name","readings"]
noncomputable def kX:CB:=
  (.cons (.asg (.name 3) (.dicT))
  (.cons (.forr (.tup (.cons (.name 4) (.cons (.name 5) .nil))) (.seq (.var 0))
  (.cons (.expr (.setd (.var 3) (.tup (.cons (.idx (.var 5) (.var 1)) (.cons (.idx (.var 5) (.var 2)) .nil))) (.var 4)))
  .nil))
  (.cons (.iff (.cmp .Lt (.bfn .lend (.cons (.var 3) .nil)) (.bfn .len (.cons (.glo "KINDS") .nil)))
  (.cons (.ret (.con .none))
  .nil)
  .nil)
  (.cons (.ret (.bfn .tuple (.cons (.comp ["kind"] [3] (.name 0) (.seq (.glo "KINDS")) .no (.idxd (.var 1) (.var 0))) .nil)))
  .nil))))
end Kc
namespace Kc
open PySem PySem.Spec PyProof.Rows L2 R Cp Lt
theorem iC{J:It}{n:Nat}{it:Nat->V->Hp->Prop}{Hc:Hp->Prop}{g:TG}{tb:TS}{D:Ends}{σ:L2.St}{H:Hp}(S:ug J n it Hc)(Pv:Nat->L2.St->Hp->Prop)(h0:Pv 0 σ H)(hl:∀i σ H,i<=n->Pv i σ H->Hc H)
  (hs:∀i x σ H H' (D2:Ends),i<n->Pv i σ H->it i x H'->aS H H'->(∀σ2 H2,Pv (i+1) σ2 H2->D2.nx σ2 H2)->D2.rt=D.rt->g x σ H' fun σ2 H2=>tb D2 σ2 H2)(hd:∀σ H,Pv n σ H->D.nx σ H):ForB J g tb D σ H:=
 CQ S Pv h0 hl (fun i x σ H H' a b c d=>hs i x σ H H' _ a b c d (fun _ _ h=>h) rfl) hd
theorem iA{us:List Value}(h:us.length=1):∃a,us=[a]:=by
 cases us with
 |nil=>exact nomatch h
 |cons a r=>exact⟨a,by rw[aX.mp (pN h)]⟩
theorem la{us:List Value}(h:us.length=2):∃a b,us=[a,b]:=by
 cases us with
 |nil=>exact nomatch h
 |cons a r=>
  obtain⟨b,e⟩:=iA (pN h);exact⟨a,b,by rw[e]⟩
theorem oD{us:List Value}(h:us.length=3):∃a b c,us=[a,b,c]:=by
 cases us with
 |nil=>exact nomatch h
 |cons a r=>
  obtain⟨b,c,e⟩:=la (pN h);exact⟨a,b,c,by rw[e]⟩
theorem cT{α:Type}{F:α->Prop}{vs:List V}{n:Nat}(h:∃a,F a)(k:∀a,F a->vs.length=n):vs.length=n:=let⟨a,f⟩:=h;k a f
theorem i2{P:Prop}{l vs:List V}{n:Nat}(h:vs=l/\P)(e:l.length=n):vs.length=n:=by rw[h.1];exact e
noncomputable def num(H:Hp)(i:Int)(y:V):Int:=match at_ H i y with
 |.int n=>n
 |_=>0
noncomputable def KP:List (Int×Int):=[(0,0),(0,1),(1,0),(1,1)]
noncomputable def nW(k:Int×Int):List Key:=[.inl k.1,.inl k.2]
noncomputable def kf(H:Hp)(i j:Int)(y:V):List Key:=nW (num H i y,num H j y)
noncomputable def kc(H:Hp)(xs:List V)(i j:Int):Bool:=KP.all fun k=>xs.any fun y=>decide (num H i y=k.1/\num H j y=k.2)
noncomputable def firstOf(H:Hp)(xs:List V)(i j:Int)(k:Int×Int):V:=((xs.find? fun y=>decide (kf H i j y=nW k)).map fun y=>V.str (aW H y)).getD .non
noncomputable def Kinds(K:af)(kd:Addr):Prop:=∃a0 a1 a2 a3:Addr,∀H:Hp,SqT K H kd [.ref a0,.ref a1,.ref a2,.ref a3]/\SqT K H a0 [.int 0,.int 0]/\SqT K H a1 [.int 0,.int 1]/\SqT K H a2 [.int 1,.int 0]/\SqT K H a3 [.int 1,.int 1]
theorem Kinds.at{K:af}{kd:Addr}(h:Kinds K kd):∃as:List V,as.length=4/\(∀H:Hp,SqT K H kd as)/\∀(H:Hp)(i:Nat) x,as[i]? =some x->∃(b:Addr)(k:Int×Int),x=.ref b/\KP[i]? =some k/\SqT K H b ((nW k).map kV):=by
 obtain⟨a0,a1,a2,a3,h⟩:=h;refine⟨[.ref a0,.ref a1,.ref a2,.ref a3],rfl,fun H=>(h H).1,fun H i x e=>?_⟩;obtain⟨_,h0,h1,h2,h3⟩:=h H
 match i,e with
 | 0,e=>cases e;exact⟨a0,_,rfl,rfl,h0⟩
 | 1,e=>cases e;exact⟨a1,_,rfl,rfl,h1⟩
 | 2,e=>cases e;exact⟨a2,_,rfl,rfl,h2⟩
 | 3,e=>cases e;exact⟨a3,_,rfl,rfl,h3⟩
 |n+4,e=>simp at e
theorem xF{H:Hp}{x y:V}{i:Int}(h:dk H y=true)(hc:cG H y=count H x)(hi:isPlace H x (.int i)=true):at_ H i y=.int (num H i y)/\(num H i y=0\/num H i y=1):=by
 have :=(BS h hc hi).2
 unfold num;rcases gM this with e|e
 ·rw[e];exact⟨rfl,.inl rfl⟩
 ·rw[e];exact⟨rfl,.inr rfl⟩
theorem He{k l:Int×Int}(h:nW k=nW l):k=l:=by
 unfold nW at h;injection h with h1 h2
 injection h2 with h2 _;injection h1 with h1;injection h2 with h2;exact Prod.ext h1 h2
theorem Ha:(KP.map nW).Nodup:=by decide+kernel
theorem kf_eq{H:Hp}{i j:Int}{y:V}{k:Int×Int}:kf H i j y=nW k↔(num H i y=k.1/\num H j y=k.2):=by
 constructor
 ·intro h
  have :=He h
  rw[<-this];exact⟨rfl,rfl⟩
 ·rintro⟨h1,h2⟩
  unfold kf;rw[h1,h2]
theorem tG{H:Hp}{xs:List V}{i j:Int}(vf:V->V)(hs:∀y∈xs,kf H i j y∈KP.map nW):(fnd (kf H i j) vf xs).length<4↔kc H xs i j=false:=by
 rw[show(4:Nat)=(KP.map nW).length from rfl,fnd_all (kf H i j) vf Ha hs];unfold kc;rw[List.all_eq_false];constructor
 ·rintro⟨k,hk,h⟩
  obtain⟨p,hp,rfl⟩:=ao.mp hk;refine⟨p,hp,?_⟩;intro z;obtain⟨y,hy,e⟩:=cw.mp z;exact h y hy (kf_eq.mpr (of_decide_eq_true e))
 ·rintro⟨p,hp,h⟩
  refine⟨nW p,ao.mpr ⟨p,hp,rfl⟩,fun y hy e=>h ?_⟩;exact cw.mpr ⟨y,hy,decide_eq_true (kf_eq.mp e)⟩
theorem kf_in{H:Hp}{x:V}{xs:List V}{i j:Int}(h3:∀y∈xs,dk H y=true)(h5:∀y∈xs,cG H y=count H x)(hi:isPlace H x (.int i)=true)(hj:isPlace H x (.int j)=true):∀y∈xs,kf H i j y∈KP.map nW:=by
 intro y hy;have ei:=(xF (h3 y hy) (h5 y hy) hi).2;have ej:=(xF (h3 y hy) (h5 y hy) hj).2;unfold kf;refine ao.mpr ⟨_,?_,rfl⟩;rcases ei with e|e<;>rcases ej with f|f<;>rw[e,f]<;>simp[KP]
noncomputable def wX:Sp:=fun vs H Q _=>∃a xs i j H0,vs=[.ref a,.int i,.int j]/\aS H0 H/\dR H0 (.ref a)=true/\eD (H0 a)=some xs/\isPlace H0 (.ref a) (.int i)=true/\isPlace H0 (.ref a) (.int j)=true/\
 (kc H0 xs i j=false->∀H',aS H H'->Q .non H')/\(kc H0 xs i j=true->∀H' l,aS H H'->H l=none->H' l=some (.tup (KP.map (firstOf H0 xs i j)))->Q (.ref l) H')
theorem E6{G:Gam}{K:af}{kd:Addr}(v1:G.val "KINDS"=some (.ref kd))(hk:Kinds K kd):
  Sat G K wX kX kQ:=by
 rintro vs H Q E ⟨a,xs,i,j,H0,rfl,s0,ht,hx,hi,hj,q1,q2⟩;unfold kX;change wpB G K _ _ _ [some (.ref a),some (.int i),some (.int j),none,none,none] H;walk_at "wp";intro d hd;obtain⟨a',xs',ea,h1,h2,h3,h4,h5⟩:=eT ht;cases ea;rw[hx]at h1;cases h1;obtain⟨as,hal,hka,hkb⟩:=hk.at;have sq:∀{H1:Hp},aS H0 H1->SqL K H1 a xs:=fun s1=>s1.seq (kU hx);have sd:aS H (upd H d (.dT [])):=az hd;refine jb (dB rfl (sq (s0.trans sd)) (iC eL (fun k σ H'=>aS H H'/\H' d=some (.dT (fnd (kf H0 i j) (fun y=>V.str (aW H0 y)) (xs.take k)))/\∃u v,σ=[some (.ref a),some (.int i),some (.int j),some (.ref d),u,v])
  ⟨sd,aw,none,none,rfl⟩ (fun k σ H' _ p=>sq (s0.trans p.1)) ?_ ?_))
 ·rintro k y σ H1 H2 D2 hk1 ⟨s1,e1,u,v,rfl⟩ hy s2 hD _
  have hm:=aG hy;have ei:=xF (h3 y hm) (h5 y hm) hi;have ej:=xF (h3 y hm) (h5 y hm) hj;have gi:=(BS (h3 y hm) (h5 y hm) hi).1;have gj:=(BS (h3 y hm) (h5 y hm) hj).1;obtain⟨b,c,rfl,k1,k2,k3,k4⟩:=jW (h3 y hm);have s3:=s0.trans (s1.trans s2);refine⟨b,_,rfl,s3.tup (SqT.of k1),rfl,_,_,rfl,_,_,rfl,rfl,?_⟩;walk_at "wp";refine⟨.inr (.inr (.inl ⟨rfl,.inr ⟨_,s2 _ _ e1⟩⟩)),?_⟩;refine .inr (.inl ⟨c,_,i,_,rfl,rfl,s3.tup (SqT.of k2),gi,?_⟩);refine .inr (.inl ⟨c,_,j,_,rfl,rfl,s3.tup (SqT.of k2),gj,short (by simp),fun p hp=>?_⟩);have s4:aS H2 (upd H2 p (.tup [at_ H0 i (.ref b),at_ H0 j (.ref b)])):=az hp;have hf:(fnd (kf H0 i j) (fun y=>V.str (aW H0 y)) (xs.take k)).length<=40:=ba (fnd_len _ _ _) (by rw[bR];omega);have et:xs.take (k+1)=xs.take k++[V.ref b]:=by rw[dc,hy];rfl
  have ef:fnd (kf H0 i j) (fun y=>V.str (aW H0 y)) (xs.take (k+1))=oY (kf H0 i j) (fun y=>V.str (aW H0 y)) (fnd (kf H0 i j) (fun y=>V.str (aW H0 y)) (xs.take k)) (.ref b):=by
   unfold fnd;rw[et,List.foldl_append];rfl
  refine⟨d,p,_,kf H0 i j (.ref b),_,rfl,rfl,s4 _ _ (s2 _ _ e1),?_,cP hf (by decide),fun z hz=>?_,fun hz=>?_⟩
  ·rw[aw,ei.1,ej.1]
   rfl
  ·refine hD _ _ ⟨s1.trans (s2.trans s4),?_,_,_,rfl⟩
   rw[ef];unfold oY;rw[hz];exact s4 _ _ (s2 _ _ e1)
  ·refine hD _ _ ⟨fN (s1.trans (s2.trans s4)) hd,?_,_,_,rfl⟩
   rw[ef];unfold oY;rw[hz];exact aw
 ·rintro σ H1 ⟨s1,e1,u,v,rfl⟩
  rw[eQ]at e1;walk_at "wp";refine⟨d,_,rfl,e1,_,v1,Or.inl ⟨kd,as,rfl,.inr (hka _),?_⟩⟩;rw[hal];show iz K .Lt (.int _) (.int ((4:Nat):Int)) H1 _;rw[GY];refine⟨_,rfl,?_⟩;have hfi:=tG (fun y=>V.str (aW H0 y)) (kf_in h3 h5 hi hj);cases hf:kc H0 xs i j with
  |false=>
   have :=hfi.mpr hf
   rw[decide_eq_true (by omega),if_pos rfl];exact q1 hf H1 s1
  |true=>
   have hge:¬(fnd (kf H0 i j) (fun y=>V.str (aW H0 y)) xs).length<4:=fun z=>by rw[hfi.mp z]at hf;cases hf
   rw[decide_eq_false (by omega),if_neg aD];refine dA ⟨_,v1,.inr (.inl ⟨kd,rfl,⟨_,hka _⟩,?_⟩)⟩;refine di xj (by rw[hal];exact short (by decide)) (fun H2 _=>hka H2) (fun n v _=>v=firstOf H0 xs i j (KP.getD n (0,0))) (fun _ _ _ _ _ h=>h) (fun τ=>∃t,τ=[t,some (.ref d)]) ⟨none,rfl⟩ ?_ ?_
   ·rintro n y τ H2 R hn ⟨t,rfl⟩ s2 hy k
    obtain⟨b,p,rfl,hp,hb⟩:=hkb H2 n y hy;walk_at "wp";have hall:xs.any (fun y=>decide (num H0 i y=p.1/\num H0 j y=p.2))=true:=by
     unfold kc at hf;exact bE.mp hf p (aG hp)
    obtain⟨y0,hy0,e0⟩:=cw.mp hall;cases hfi:xs.find? (fun y=>decide (kf H0 i j y=nW p))with
    |none=>
     rw[kJ]at hfi;exact absurd (decide_eq_true (kf_eq.mpr (of_decide_eq_true e0))) (hfi y0 hy0)
    |some y1=>
     refine⟨d,b,_,nW p,V.str (aW H0 y1),rfl,rfl,s2 _ _ e1,hb,?_,?_⟩
     ·rw[xU,hfi]
      rfl
     ·refine k _ _ _ ⟨_,rfl⟩ (aS.refl _) ?_
      rw[getD_some hp];unfold firstOf;rw[hfi];rfl
   ·intro vs H2 l hvl hF s2 hl2
    have ev:vs=KP.map (firstOf H0 xs i j):=by
     rw[hal]at hvl;apply cK
     ·rw[hvl];rfl
     ·intro n m1 m2
      have :=hF n vs[n] (by simp[m1])
      rw[this,cJ,ag,ae (by simpa using m2)];rfl
    subst ev;refine⟨l,_,rfl,.inl ⟨SqL.of aw,fun b hb=>?_⟩⟩;have s3:aS H (upd H2 l (.lst (KP.map (firstOf H0 xs i j)))):=s1.trans (s2.trans (az hl2));exact q2 hf _ b (s3.trans (az hb)) (s3.free hb) aw
end Kc
namespace K21
open PySem R
noncomputable def Ba:List Str:=["_law_cell","_law_place"]
noncomputable def sR:List Str:=["_law_cell","_law_place","_law_own","_law_number"]
noncomputable def pj:CB:=
  (.cons (.ret (.bin .Mod (.bin .Mult (.var 3) (.var 3)) (.con (.int 2147483587))))
  .nil)
noncomputable def ly:CB:=
  (.cons (.asg (.name 3) (.bin .Mod (.bin .Mult (.bin .Add (.bin .Mod (.bin .FloorDiv (.var 0) (.con (.int 2))) (.bin .Pow (.con (.int 10)) (.con (.int 30)))) (.con (.int 1))) (.bin .Add (.con (.int 48271)) (.bin .Mult (.bin .Mult (.con (.int 7919)) (.var 1)) (.var 1)))) (.con (.int 2147483629))))
  pj)
noncomputable def lz:CB:=
  (.cons (.iff (.and (.cmp .Eq (.bin .Mod (.var 0) (.con (.int 2))) (.con (.int 1))) (.cmp .NotEq (.var 2) (.con (.int 0))))
  (.cons (.ret (.bin .Mod (.var 2) (.con (.int 2147483648))))
  .nil)
  .nil)
  ly)
noncomputable def tS:CB:=
  (.cons (.asg (.name 2) (.bin .RShift (.var 0) (.bin .Add (.con (.int 2)) (.bin .Mult (.con (.int 31)) (.bin .Mod (.var 1) (.con (.int 64)))))))
  lz)
noncomputable def zj:List Str:=["_law_cell","_law_many"]
noncomputable def qB:List Str:=["_law_cell","_law_many","_law_letters","_law_size","_law_at","_law_names_here","_law_k","_law_name","_law_j"]
noncomputable def ny:CB:=
  (.cons (.ret (.var 5))
  .nil)
noncomputable def lH:CB:=
  (.cons (.expr (.meth1 .append (.var 5) (.cut (.var 7) .no (.yes (.bin .Add (.bin .Add (.var 4) (.con (.int 1))) (.bin .Mod (.bin .Add (.bin .Mult (.var 6) (.var 6)) (.var 3)) (.bin .Sub (.var 3) (.var 4))))))))
  .nil)
noncomputable def lI:CB:=
  (.cons (.forr (.name 8) (.range1 (.var 3))
  (.cons (.asg (.name 7) (.bin .Add (.var 7) (.idx (.var 2) (.bin .Mod (.bin .Add (.call "_law_draw" (.cons (.var 0) (.cons (.bin .Add (.con (.int 10)) (.var 8)) .nil))) (.bin .Mult (.bin .Mult (.con (.int 7)) (.var 6)) (.bfn .int (.cons (.cmp .Eq (.var 8) (.var 4)) .nil)))) (.con (.int 26))))))
  .nil))
  lH)
noncomputable def nC:CB:=
  (.cons (.forr (.name 6) (.range1 (.var 1))
  (.cons (.asg (.name 7) (.con (.str "")))
  lI))
  ny)
noncomputable def nF:CB:=
  (.cons (.asg (.name 5) (.lst .nil))
  nC)
noncomputable def nG:CB:=
  (.cons (.asg (.name 4) (.bin .Mod (.call "_law_draw" (.cons (.var 0) (.cons (.con (.int 2)) .nil))) (.var 3)))
  nF)
noncomputable def nH:CB:=
  (.cons (.asg (.name 3) (.bin .Add (.con (.int 1)) (.bin .Mod (.call "_law_draw" (.cons (.var 0) (.cons (.con (.int 1)) .nil))) (.con (.int 8)))))
  nG)
noncomputable def qN:CB:=
  (.cons (.asg (.name 2) (.con (.str "abcdefghijklmnopqrstuvwxyz")))
  nH)
end K21
namespace K21
open PySem PySem.Spec PyProof.Rows L2 R Cp Lt Kc
theorem FH{K:af}{H:Hp}{Q:VK}{i j:Int}:jh K .LShift (.int i) (.int j) H Q↔EB i j/\Q (.int (i*2^j.toNat)) H:=by simp[jh,rI]
theorem int_b{K:af}{H:Hp}{Q:VK}{b:Bool}:rBf K .int [.bl b] H Q↔Q (.int (if b then 1 else 0)) H:=by simp[rBf]
noncomputable def own(c k:Int):Int:=c/2^(2+31*(k%64)).toNat
noncomputable def nb(c k:Int):Int:=(c/2%10^Int.toNat 30+1)*(48271+7919*k*k)%2147483629
noncomputable def draw(c k:Int):Int:=if c%2=1/\own c k≠0 then own c k%2147483648 else nb c k*nb c k%2147483587
theorem CY(c k:Int):0<=draw c k:=by
 unfold draw;split
 ·exact bG _ (by decide)
 ·exact bG _ (by decide)
noncomputable def jB:Sp:=fun vs H Q _=>∃c k:Int,vs=[.int c,.int k]/\0<=k/\k<=200/\Q (.int (draw c k)) H
theorem wp_draw{G:Gam}{K:af}:Sat G K jB tS sR:=by
 rintro vs H Q E ⟨c,k,rfl,hk0,hk1,q⟩;unfold tS;change wpB G K _ _ _ [some (.int c),some (.int k),none,none] H;walk_at "wp";have hm:0<=k%64:=bG _ (by decide);refine⟨by decide,qJ (by decide) (by decide),by omega,?_⟩;have rest:¬(c%2=1/\own c k≠0)->wpB G K (fun _=>E) ly {nx:=fun _ H'=>Q .non H',rt:=Q} [some (.int c),some (.int k),some (.int (own c k)),none] H:=fun z=>by
  have hkk:0<=7919*k*k/\7919*k*k<=316760000:=by
   have h1:0<=k*k:=Int.mul_nonneg hk0 hk0;have h2:k*k<=200*200:=Int.mul_le_mul hk1 hk1 hk0 (by decide);rw[Int.mul_assoc];omega
  have hnb:0<=nb c k/\nb c k<2147483629:=⟨bG _ (by decide),bV _ (by decide)⟩;unfold draw at q;rw[if_neg z]at q;unfold ly pj;walk_at "wp";exact⟨⟨by decide,by decide⟩,⟨by decide,by decide,by decide⟩,by decide,qJ (by decide) (by decide),C1 hk0 (by omega),C1 (by omega) (by omega),by decide,qJ hnb.1 (by omega),by decide,q⟩
 change wpB G K _ lz _ [some (.int c),some (.int k),some (.int (own c k)),none] H;generalize ho:own c k=w at rest⊢;unfold lz;walk_at "wp";refine⟨by decide,?_⟩;by_cases h1:c%2=1
 ·rw[decide_eq_true h1,if_pos rfl]
  by_cases h2:w=0
  ·rw[decide_eq_true h2]
   exact rest fun z=>z.2 h2
  ·rw[decide_eq_false h2]
   unfold draw at q;rw[ho,if_pos ⟨h1,h2⟩]at q;exact⟨by decide,q⟩
 ·rw[decide_eq_false h1]
  exact rest fun z=>h1 z.1
noncomputable def size(c:Int):Nat:=(1+draw c 1%8).toNat
noncomputable def att(c:Int):Nat:=(draw c 2%(size c:Int)).toNat
theorem size_eq(c:Int):1+draw c 1%8=(size c:Int)/\1<=size c/\size c<=8:=by
 have h0:0<=draw c 1%8:=bG _ (by decide);have h1:draw c 1%8<8:=bV _ (by decide);unfold size;omega
theorem BQ(c:Int):draw c 2%(size c:Int)=(att c:Int)/\att c<size c:=by
 have hs:=size_eq c;have h0:0<=draw c 2%(size c:Int):=bG _ (by omega);have h1:draw c 2%(size c:Int)<(size c:Int):=bV _ (by omega);unfold att;omega
noncomputable def sgn(c:Int)(k j:Nat):Nat:=xO (draw c (10+(j:Int))+7*(k:Int)*(if(j:Int)=(att c:Int)then 1 else 0))
noncomputable def full(c:Int)(k:Nat):List Nat:=(aq (size c)).map (sgn c k)
noncomputable def tL(c:Int)(k:Nat):Nat:=att c+1+(k*k+size c)%(size c-att c)
noncomputable def nm(c:Int)(k:Nat):Str:=mkS ((full c k).take (tL c k))
theorem oW(c:Int)(k:Nat):(full c k).length=size c:=by unfold full;simp
theorem xW(c:Int)(k:Nat):att c+1<=tL c k/\tL c k<=size c:=by
 have h:=(BQ c).2;have :=k6 (k*k+size c) (show 0<size c-att c by omega);unfold tL;omega
theorem GL(c:Int)(k:Nat):iB (nm c k)=true:=by
 have h1:=xW c k;have h2:=size_eq c;have hl:(nm c k).length=tL c k:=by
  unfold nm;rw[sV,bR,oW];omega
 unfold iB;rw[hl,aL];refine⟨decide_eq_true (by omega),?_⟩;show((full c k).take (tL c k)).toArray.toList.all ja=true;rw[pO,bE];intro y hy;have hy':=jv hy;unfold full at hy';obtain⟨j,_,rfl⟩:=ao.mp hy';exact lett_ok _
theorem Bh{c:Int}{i j:Nat}(hi:i<15)(hj:j<15)(h:nm c i=nm c j):i=j:=by
 have e:(full c i).take (tL c i)=(full c j).take (tL c j):=by
  have :=congrArg (fun z:Str=>z.cps.toList) h
  simpa[nm]using this
 have ha:=(BQ c).2;have at_i:∀k:Nat,((full c k).take (tL c k))[att c]? =some (xO (draw c (10+(att c:Int))+7*(k:Int))):=fun k=>by
  have hc:=xW c k;rw[fA (by omega)];unfold full;rw[ak,a6 ha];show some (sgn c k (att c))=_;unfold sgn;rw[if_pos rfl,Int.mul_one]
 have e2:=congrArg (fun l:List Nat=>l[att c]?) e;simp only[at_i]at e2;have e3:=G1 (aT e2);omega
noncomputable def wR:Sp:=fun vs H Q _=>∃(c:Int)(m:Nat),vs=[.int c,.int m]/\m<=15/\∀H' l,aS H H'->H l=none->H' l=some (.lst ((aq m).map fun k=>V.str (nm c k)))->Q (.ref l) H'
theorem E3{G:Gam}{K:af}(g1:G.fn "_law_draw" 2=some (jB,[])):
  Sat G K wR qN qB:=by
 rintro vs H Q E ⟨c,m,rfl,hm,q⟩;unfold qN nH nG nF;change wpB G K _ _ _ [some (.int c),some (.int m),none,none,none,none,none,none,none] H;walk_at "wp";refine⟨_,_,g1,c,1,rfl,by decide,by decide,?_⟩;have hs:=size_eq c;have ha:=BQ c;walk_at "wp";refine⟨by decide,?_⟩;rw[hs.1];refine⟨_,_,g1,c,2,rfl,by decide,by decide,?_⟩;walk_at "wp";refine⟨by omega,?_⟩;rw[ha.1];refine⟨short (by simp),fun l hl=>?_⟩;unfold nC;walk_at "wp";refine jb ?_;walk_at "wp";refine⟨(m:Int),rfl,by omega,by omega,?_⟩;refine iC dP (fun k σ H'=>aS H H'/\H' l=some (.lst ((aq k).map fun k=>V.str (nm c k)))/\∃u v w,σ=[some (.int c),some (.int m),some (.str LETTERS),some (.int (size c)),some (.int (att c)),some (.ref l),u,v,w])
  ⟨az hl,aw,none,none,none,rfl⟩ (fun _ _ _ _ _=>trivial) ?_ ?_
 ·rintro k x σ H1 H2 D2 hk ⟨s1,e1,u,v,w,rfl⟩ rfl s2 hD _
  have e2:H2 l=some (.lst ((aq k).map fun k=>V.str (nm c k))):=s2 _ _ e1;have s12:aS H H2:=s1.trans s2;walk_at "wp";simp only[d7];unfold lI;walk_at "wp";refine jb ?_;walk_at "wp";refine⟨(size c:Int),rfl,by omega,by omega,?_⟩;refine iC dP (fun j σ H'=>aS H2 H'/\∃w,σ=[some (.int c),some (.int m),some (.str LETTERS),some (.int (size c)),some (.int (att c)),some (.ref l),some (.int k),some (.str (mkS ((full c k).take j))),w])
   ⟨aS.refl _,w,rfl⟩ (fun _ _ _ _ _=>trivial) ?_ ?_
  ·rintro j x σ H3 H4 D3 hj ⟨s3,w,rfl⟩ rfl s4 hD3 _
   have hj':j<size c:=by omega
   walk_at "wp"
   simp only[d7];refine⟨_,_,g1,c,10+(j:Int),rfl,by omega,by omega,?_⟩;walk_at "wp";refine⟨qJ (by decide) (by decide),?_⟩;rw[int_b];walk_at "wp";have ei:(if decide ((j:Int)=(att c:Int))=true then(1:Int)else 0)=if(j:Int)=(att c:Int)then 1 else 0:=by
    by_cases z:(j:Int)=(att c:Int)
    ·rw[decide_eq_true z,if_pos rfl,if_pos z]
    ·rw[decide_eq_false z,if_neg aD,if_neg z]
   rw[ei];refine⟨C1 (by split <;>omega) (by split <;>omega),by decide,_,xN,BR _,?_,hD3 _ _ ⟨s3.trans s4,some (.int j),?_⟩⟩
   ·rw[mk1,sV,sV,bR,oW]
    exact short (by simp;omega)
   ·have ef:(full c k)[j]? =some (sgn c k j):=by
     unfold full;rw[ak,a6 hj'];rfl
    rw[mk1,mk_app,dc,ef];rfl
  ·rintro σ H3 ⟨s3,w,rfl⟩
   unfold lH;walk_at "wp";have hc:=xW c k;have ec:(att c:Int)+1+((k:Int)*(k:Int)+(size c:Int))%((size c:Int)-(att c:Int))=(tL c k:Int):=by
    unfold tL;have :(size c:Int)-(att c:Int)=((size c-att c:Nat):Int):=by omega
    rw[this];push_cast;rfl
   have ef:(full c k).take (size c)=full c k:=eN (by rw[oW];exact ax _);rw[show((size c:Int)).toNat=size c from aP _,ef];refine⟨.inl ⟨rfl,_,SqL.of (s3 _ _ e2)⟩,qJ (by omega) (by omega),by omega,?_⟩;rw[ec,HV];refine⟨by rw[sV,oW];exact short (by omega),l,_,_,rfl,rfl,s3 _ _ e2,cP (by simp;omega:((aq k).map fun k=>V.str (nm c k)).length<=40) (by decide),hD _ _ ⟨fN (s12.trans s3) hl,?_,_,_,_,rfl⟩⟩;rw[aw,List.range_succ,cH];rfl
 ·rintro σ H1 ⟨s1,e1,u,v,w,rfl⟩
  unfold ny;walk_at "wp";rw[show((m:Int)).toNat=m from aP _]at e1;exact q H1 l s1 hl e1
noncomputable def Dr(H:Hp)(nf:Nat->Str)(n:Nat)(ys:List V):Prop:=∀(i:Nat) y,ys[i]? =some y->∃b r zs,y=.ref b/\H b=some (.tup [.str (nf i),.ref r])/\H r=some (.tup zs)/\zs.length=n/\∀z∈zs,cD z=true
theorem o6{H:Hp}{nf:Nat->Str}{n:Nat}{ys:List V}(hnf:∀i,iB (nf i)=true)(d:Dr H nf n ys)(hn:n<=60){i:Nat}{y:V}(e:ys[i]? =some y):dk H y=true/\aW H y=nf i/\cG H y=n/\Kn3 H y:=by
 obtain⟨b,r,zs,rfl,h1,h2,h3,h4⟩:=d i y e;have ar:dG H (.ref r)=true:=by
  show(match dF (H r)with |some xs=>decide (xs.length<=60)&&xs.all cD|none=>false)=true;rw[h2];show(decide (zs.length<=60)&&zs.all cD)=true;rw[decide_eq_true (by omega),eP,bE];exact h4
 have hl:(nf i).length<=20000:=by
  have :=hnf i
  unfold iB at this;rw[aL,decide_eq_true_eq]at this;omega
 refine⟨?_,?_,?_,⟨G7 h1,fun z e=>nomatch e⟩,fun a xs e hx=>?_⟩
 ·show(match dF (H b)with |some [n,r]=>isName n&&dG H r|_=>false)=true
  rw[h1];show(iB (nf i)&&dG H (.ref r))=true;rw[hnf,ar];rfl
 ·show(match dF (H b)with |some (.str z::_)=>z|_=>("":Str))=_
  rw[h1];rfl
 ·show(match dF (H b)with |some [_,.ref b]=>(dF (H b)).elim 0 jy|_=>0)=n
  rw[h1];show(dF (H r)).elim 0 jy=n;rw[h2];exact h3
 ·injection e with e
  subst e;rw[h1]at hx;cases hx;refine⟨by show 2<=20000;decide,fun y hy=>?_⟩;simp only[aB,dy,or_false]at hy;rcases hy with rfl|rfl
  ·exact⟨⟨kn_str,fun z e=>by injection e with e;rw[<-e];exact hl⟩,fun a xs e=>nomatch e⟩
  ·refine⟨⟨G7 h2,fun z e=>nomatch e⟩,fun a xs e hx=>?_⟩
   injection e with e;subst e;rw[h2]at hx;cases hx;refine⟨by omega,fun z hz=>?_⟩;rcases gM (h4 z hz)with rfl|rfl
   ·exact⟨G8,fun z e=>nomatch e⟩
   ·exact⟨G8,fun z e=>nomatch e⟩
theorem tJ{H:Hp}{nf:Nat->Str}{n:Nat}{ys:List V}{t:Addr}(hnf:∀i,iB (nf i)=true)(hinj:∀i j,i<ys.length->j<ys.length->nf i=nf j->i=j)(ht:H t=some (.lst ys))(d:Dr H nf n ys)(hl:ys.length<=40)(hn:n<=60):Kn4 H (.ref t)/\dR H (.ref t)=true/\(∀y∈ys,dk H y=true)/\∀y∈ys,cG H y=n:=by
 have at':∀y∈ys,∃i,ys[i]? =some y:=fun y hy=>bJ.mp hy;have cp:∀y∈ys,dk H y=true:=fun y hy=>let⟨i,e⟩:=at' y hy;(o6 hnf d hn e).1;have ct:∀y∈ys,cG H y=n:=fun y hy=>let⟨i,e⟩:=at' y hy;(o6 hnf d hn e).2.2.1;refine⟨⟨⟨kn_lst ht,fun z e=>nomatch e⟩,fun a xs e hx=>?_⟩,?_,cp,ct⟩
 ·injection e with e
  subst e;rw[ht]at hx;cases hx;exact⟨by omega,fun y hy=>let⟨i,e⟩:=at' y hy;(o6 hnf d hn e).2.2.2⟩
 ·show(match eD (H t)with |some xs=>decide (xs.length<=40)&&(xs.all (dk H)&&(decide ((xs.map (aW H)).Nodup)&&decide (∀y∈xs,∀z∈xs,cG H y=cG H z))) |none=>false)=true
  rw[ht];show(decide (ys.length<=40)&&(ys.all (dk H)&&(decide ((ys.map (aW H)).Nodup)&&decide (∀y∈ys,∀z∈ys,cG H y=cG H z))))=true;rw[decide_eq_true hl,eP,aL,aL,bE,decide_eq_true_eq,decide_eq_true_eq];refine⟨cp,?_,fun y hy z hz=>by rw[ct y hy,ct z hz]⟩;show List.Pairwise (fun a b=>a≠b) _;rw[eY];intro i j hi hj hij e;rw[ai]at hi hj;rw[cJ,cJ,(o6 hnf d hn (ae hi)).2.1,(o6 hnf d hn (ae hj)).2.1]at e;have :=hinj i j hi hj e;omega
theorem pow2{j:Nat}(h:j<30):EC 0 ((2:Int)^j):=by
 have h1:(2:Nat)^j<2^30:=Nat.pow_lt_pow_right (by decide) h;have h2:0<(2:Nat)^j:=Nat.pow_pos (by decide);have e:((2:Int)^j)=((2^j:Nat):Int):=by push_cast;rfl
 rw[e];constructor
 ·omega
 ·exact Int.ofNat_lt.mpr h1
theorem oS{vs:List V}(h:∀(i:Nat) v,vs[i]? =some v->∃m:Int,v=.int m):∃ns:List Int,vs=ns.map V.int:=by
 induction vs with
 |nil=>exact⟨[],rfl⟩
 |cons v vs ih=>
  obtain⟨m,rfl⟩:=h 0 v rfl;obtain⟨ns,rfl⟩:=ih fun i w e=>h (i+1) w (by simpa using e);exact⟨m::ns,rfl⟩
theorem o7(ns:List Int)(lo hi:Option Int):∃ms:List Int,rh (ns.map V.int) lo hi=ms.map V.int:=by
 refine oS fun i v e=>?_;have hm:=aG e;unfold rh at hm;obtain⟨m,_,rfl⟩:=ao.mp (List.mem_of_mem_drop (jv hm));exact⟨m,rfl⟩
end K21
namespace K22
open PySem R
noncomputable def qX:List Str:=["_law_readings","_law_some"]
noncomputable def lF:List Str:=["_law_readings","_law_some"]
noncomputable def lG:CB:=
  (.cons (.ret (.bfn .tuple (.cons (.comp ["_law_j"] [1,0] (.name 0) (.range1 (.bfn .len (.cons (.var 0) .nil))) .no (.ite (.cmp .In (.var 0) (.var 1)) (.bin .Sub (.con (.int 1)) (.idx (.var 2) (.var 0))) (.idx (.var 2) (.var 0)))) .nil)))
  .nil)
noncomputable def zk:List Str:=["_law_cells","_law_many"]
noncomputable def qC:List Str:=["_law_cells","_law_many","_law_seed","_law_nodes","_law_links","_law_fresh","_law_k","_law_number","_law_some","_law_j","_law_at"]
noncomputable def nJ:CB:=
  (.cons (.ret (.tup (.cons (.var 3) (.cons (.var 4) .nil))))
  .nil)
noncomputable def iD:CB:=
  (.cons (.expr (.meth1 .append (.var 3) (.call "_law_otherwise" (.cons (.idx (.var 3) (.var 10)) (.cons (.var 8) .nil)))))
  .nil)
noncomputable def jX:CB:=
  (.cons (.expr (.meth1 .append (.var 4) (.tup (.cons (.var 10) (.cons (.bfn .len (.cons (.var 3) .nil)) (.cons (.bfn .sorti (.cons (.var 8) .nil)) .nil))))))
  iD)
noncomputable def jc:CB:=
  (.cons (.iff (.cmp .NotEq (.var 8) (.lst .nil))
  (.cons (.asg (.name 10) (.bin .Mod (.call "_law_draw" (.cons (.idx (.var 0) (.var 6)) (.cons (.bin .Add (.con (.int 41)) (.bin .Mult (.con (.int 4)) (.var 6))) .nil))) (.bfn .len (.cons (.var 3) .nil))))
  jX)
  .nil)
  .nil)
noncomputable def jd:CB:=
  (.cons (.forr (.name 9) (.range1 (.bin .Add (.con (.int 1)) (.bin .FloorDiv (.bin .Mod (.var 7) (.con (.int 7))) (.con (.int 5)))))
  (.cons (.iff (.cmp .NotEq (.var 5) (.lst .nil))
  (.cons (.expr (.meth1 .append (.var 8) (.meth1 .pop (.var 5) (.bin .Mod (.bin .FloorDiv (.var 7) (.idx (.lst (.cons (.con (.int 7)) (.cons (.con (.int 112)) .nil))) (.var 9))) (.bfn .len (.cons (.var 5) .nil))))))
  .nil)
  .nil)
  .nil))
  jc)
noncomputable def lJ:CB:=
  (.cons (.asg (.name 8) (.lst .nil))
  jd)
noncomputable def kl:CB:=
  (.cons (.forr (.name 6) (.range1 (.bfn .len (.cons (.var 0) .nil)))
  (.cons (.asg (.name 7) (.call "_law_draw" (.cons (.idx (.var 0) (.var 6)) (.cons (.bin .Add (.con (.int 40)) (.bin .Mult (.con (.int 4)) (.var 6))) .nil))))
  lJ))
  nJ)
noncomputable def nK:CB:=
  (.cons (.asg (.name 5) (.lrng (.var 1)))
  kl)
noncomputable def nL:CB:=
  (.cons (.asg (.name 4) (.lst .nil))
  nK)
noncomputable def km:CB:=
  (.cons (.asg (.name 3) (.lst (.cons (.bfn .tuple (.cons (.comp ["_law_j"] [2] (.name 0) (.range1 (.var 1)) .no (.bin .Mod (.bin .FloorDiv (.var 1) (.bin .LShift (.con (.int 1)) (.var 0))) (.con (.int 2)))) .nil)) .nil)))
  nL)
noncomputable def nM:CB:=
  (.cons (.iff (.cmp .NotEq (.var 0) (.lst .nil))
  (.cons (.asg (.name 2) (.call "_law_draw" (.cons (.idx (.var 0) (.con (.int 0))) (.cons (.con (.int 20)) .nil))))
  .nil)
  .nil)
  km)
noncomputable def qO:CB:=
  (.cons (.asg (.name 2) (.con (.int 1)))
  nM)
noncomputable def A9:List Str:=["_law_cells","_law_nodes"]
noncomputable def sQ:List Str:=["_law_cells","_law_nodes","_law_held_here","_law_k","_law_number"]
noncomputable def pf:CB:=
  (.cons (.ret (.var 2))
  .nil)
noncomputable def mf:CB:=
  (.cons (.iff (.or (.cmp .Gt (.bin .Mod (.var 4) (.con (.int 5))) (.con (.int 0))) (.cmp .Eq (.var 2) (.lst .nil)))
  (.cons (.expr (.meth1 .append (.var 2) (.bin .Mod (.var 3) (.bfn .len (.cons (.var 1) .nil)))))
  .nil)
  (.cons (.expr (.meth1 .append (.var 2) (.bin .Mod (.bin .FloorDiv (.var 4) (.con (.int 5))) (.bfn .len (.cons (.var 1) .nil)))))
  .nil))
  .nil)
noncomputable def ph:CB:=
  (.cons (.forr (.name 3) (.range1 (.bfn .len (.cons (.var 0) .nil)))
  (.cons (.asg (.name 4) (.call "_law_draw" (.cons (.idx (.var 0) (.var 3)) (.cons (.bin .Add (.con (.int 60)) (.var 3)) .nil))))
  mf))
  pf)
noncomputable def tR:CB:=
  (.cons (.asg (.name 2) (.lst .nil))
  ph)
end K22
namespace K22
open PySem PySem.Spec PyProof.Rows L2 R Cp Lt Kc K21
theorem jV{K:af}{H:Hp}{t p:Addr}{fs:List Int}(et:SqL K H t (fs.map V.int))(ep:H p=some (.lst [])):∃d d',Rep K H d (.ref t)/\Rep K H d' (.ref p)/\hgt d<=30/\eqD d d'=decide (fs=[]):=by
 refine⟨.lst (fs.map D.int),.lst [],⟨t,_,rfl,et,fg.ints fs⟩,⟨p,[],rfl,SqL.of ep,rfl⟩,by show gv (fs.map D.int)+1<=30;rw[vI];decide,?_⟩;cases fs with
 |nil=>rfl
 |cons x r=>
  rw[decide_eq_false (by simp)];rfl
theorem gY:∀(l:List Int)(z:Nat)(h:z<l.length),(l[z]::l.eraseIdx z).Perm l
 | [],_,h=>absurd h (gh _)
 |a::l,0,_=>dW _
 |a::l,z+1,h=>by
  have h':z<l.length:=by simpa using h
  exact(jI a l[z] (l.eraseIdx z)).trans ((gY l z h').cons a)
section
variable {G:Gam}{K:af}
section
variable {E:XS}{D2:Ends}{H:Hp}{a nd lk fr sm:Addr}{ns:List Int}{n k:Nat}{sd d0:Int}{ys ls:List V}
theorem oU{ns:List Int}(hk':k<ns.length):(ns.map V.int)[k]? =some (.int (ns.getD k 0)):=by
 rw[ak,ae hk',ag,ae hk'];rfl
end
end
noncomputable def AS(K:af):Sp:=fun vs H Q _=>∃(a nd:Addr)(ns:List Int)(ys:List V),vs=[.ref a,.ref nd]/\SqL K H a (ns.map V.int)/\SqL K H nd ys/\ns.length<=14/\ys≠[]/\
 ∀(H':Hp)(l:Addr)(hs:List Int),aS H H'->H l=none->H' l=some (.lst (hs.map V.int))->hs.length=ns.length->(∀h∈hs,0<=h/\h<ys.length)->Q (.ref l) H'
section
variable {G:Gam}{K:af}
theorem wp_held(g1:G.fn "_law_draw" 2=some (jB,[])):
  Sat G K (AS K) tR sQ:=by
 rintro vs H Q E ⟨a,nd,ns,ys,rfl,ha,hnd,hns,hy0,q⟩;unfold tR ph;change wpB G K _ _ _ [some (.ref a),some (.ref nd),none,none,none] H;walk_at "wp";have hyl:0<ys.length:=eK.mpr hy0;refine⟨short (by simp),fun l hl=>?_⟩;have s1:aS H (upd H l (.lst [])):=az hl;refine jb ?_;walk_at "wp";refine Or.inl ⟨a,_,rfl,.inl (s1.seq ha),_,rfl,by rw[ai];omega,by rw[ai];omega,?_⟩;refine iC dP (fun k σ H'=>aS H H'/\∃hs:List Int,H' l=some (.lst (hs.map V.int))/\hs.length=k/\(∀h∈hs,0<=h/\h<ys.length)/\∃u v,σ=[some (.ref a),some (.ref nd),some (.ref l),u,v])
  ⟨s1,[],aw,rfl,by simp,none,none,rfl⟩ (fun _ _ _ _ _=>trivial) ?_ ?_
 ·rintro k x σ H1 H2 D2 hk ⟨s2,hs,e1,e2,e3,u,v,rfl⟩ rfl s3 hD _
  have hk':k<ns.length:=by simpa using hk
  have s4:=s2.trans s3;have e1:=s3 _ _ e1;walk_at "wp";simp only[d7];refine⟨_,_,g1,.inl ⟨a,_,k,_,rfl,rfl,s4.seq ha,cN (oU hk'),?_⟩⟩;walk_at "wp";refine⟨_,_,rfl,by omega,by omega,?_⟩;have hd0:=CY (ns.getD k 0) (60+(k:Int));generalize draw (ns.getD k 0) (60+(k:Int))=d0 at hd0⊢;unfold mf;walk_at "wp";refine⟨by decide,?_⟩;have fin:∀(H5:Hp)(w:Int),aS H2 H5->xv (.ref l) [.int (w%(ys.length:Int))] H5 fun _ H'=>D2.nx [some (.ref a),some (.ref nd),some (.ref l),some (V.int k),some (V.int d0)] H':=by
   intro H5 w s5;refine⟨l,hs.map V.int,_,rfl,rfl,s5 _ _ e1,cP (by rw[ai];omega:(hs.map V.int).length<=40) (by decide),hD _ _ ⟨fN (s4.trans s5) hl,hs++[w%(ys.length:Int)],by rw[aw,cH];rfl,by simp[e2],fun h hh=>?_,_,_,rfl⟩⟩;rcases bF.mp hh with hh|hh
   ·exact e3 h hh
   ·rw[aC]at hh
    subst hh;exact⟨bG _ (by omega),bV _ (by omega)⟩
  by_cases h5:(0:Int)<d0%5
  ·rw[decide_eq_true h5,if_pos rfl,if_pos trivial]
   refine⟨.inl ⟨rfl,_,SqL.of e1⟩,Or.inl ⟨nd,ys,rfl,.inl (s4.seq hnd),?_⟩⟩;walk_at "wp";exact⟨by omega,fin H2 _ (aS.refl _)⟩
  ·rw[decide_eq_false h5,if_neg aD]
   refine⟨short (by simp),fun p0 hp0=>?_⟩;generalize hX:upd H2 p0 _=H3;obtain⟨s5,e0⟩:=xK hX hp0;clear hX;obtain⟨d,d',r1,r2,r3,r4⟩:=jV (K:=K) (SqL.of (s5 _ _ e1)) e0;refine⟨d,d',r1,r2,r3,_,rfl,?_⟩;rw[r4];by_cases hf:hs=[]
   ·rw[decide_eq_true hf,if_pos rfl]
    refine⟨.inl ⟨rfl,_,SqL.of (s5 _ _ e1)⟩,Or.inl ⟨nd,ys,rfl,.inl ((s4.trans s5).seq hnd),?_⟩⟩;walk_at "wp";exact⟨by omega,fin H3 _ s5⟩
   ·rw[decide_eq_false hf,if_neg aD]
    refine⟨.inl ⟨rfl,_,SqL.of (s5 _ _ e1)⟩,⟨by decide,by decide⟩,Or.inl ⟨nd,ys,rfl,.inl ((s4.trans s5).seq hnd),?_⟩⟩;walk_at "wp";exact⟨by omega,fin H3 _ s5⟩
 ·rintro σ H1 ⟨s2,hs,e1,e2,e3,u,v,rfl⟩
  unfold pf;walk_at "wp";exact q H1 l hs s2 hl e1 (by simp at e2;omega) e3
theorem Em(xs:List V):(rh xs (some 2) (some 16)).length<=14:=by
 unfold rh;rw[bR,show HT.sIx xs.length xs.length (some 16)=min 16 xs.length from HT.xk _ _ 16,show HT.sIx xs.length 0 (some 2)=min 2 xs.length from HT.xk _ _ 2];omega
end
end K22
namespace Lm
open PySem PySem.Spec PySem.W PyProof.Rows L2 Q
noncomputable abbrev Kp(h h':Heap):Prop:=∀b o,h.get? b=some o->h'.get? b=some o
section
variable {prog:Program}{w:World}{A:Around}{E:Value->Shared->Prop}{s:Shared}
theorem Ig{Q:Value->Shared->Prop}{qual x:Str}{params:Arguments}{scope:Scope}{pm ctv k:Value}{c' f b:Addr}{p1 p2 p3:Pos}{j:Nat}{its:Array Value}
  (hf:s.heap.get? f=some (kla_obj "<lambda>" qual params (.Subscript (.Name x p1) (.Constant (.int 0) j p2) p3) scope [] pm c' ctv))(hc:s.heap.CodeRec (.ref c') qual)(hroom:A.depth<jl)(hnl:s.heap.NoLimit)
  (hb:∀v,oh (kla_fn "<lambda>" qual params (.Subscript (.Name x p1) (.Constant (.int 0) j p2) p3) scope [] pm (.ref c') ctv) ⟨[v],[]⟩=pure [(x,v)])
  (hx:scope.names.lookup x=some .local)(hd:(x==("__debug__":Str))=false)(hk:scope.kind=.function)(hcell:∀y∈scope.names,y.2≠.cell)(hco:scope.isCoroutine=false)(hgen:scope.isGenerator=false)
  (ht:IsTup s.heap b its)(h0:its[0]? =some k)(h:∀h' t',Kp s.heap h'->Q k {s with heap:=h',toks:=t'}):wpAny (model prog w) A (call (.ref f) [.ref b]) Q E s:=by
 refine wpAny_call (kla_callFunE hroom hf rfl hco hgen rfl hc ?_);rw[hb];refine aj (wpAny_newFunctionEnv hcell (fun y hy=>?_) (fun h₁ hns hsb=>⟨hnl.fresh _ hsb,?_⟩) hk)
 ·have e:y=(x,.ref b):=by simpa using hy
  rw[e];exact hx
 have hk₁:Kp s.heap h₁:=fun b o e=>hsb.extBut b o (aJ (av e)) (ah _ e);refine kla_codeExpr (Subscript_ (EE (wpAny_loadName_local hk hx hns (v:=.ref b) (by simp) ?_) hd));refine wpAny_Constant_int ?_;have ht':IsTup h₁ b its:=by
  obtain⟨o,e,c⟩:=ht;exact⟨o,hk₁ _ _ e,c⟩
 have hsz:0<its.size:=by
  rcases Nat.eq_zero_or_pos its.size with z|z
  ·rw[Array.getElem?_eq_none (by omega)]at h0;cases h0
  ·exact z
 exact pI (x:=k) ht'.typeIs slot_tuple_getitem.lookup
  (getItem_tuple (j:=0) (Q:=fun r s'=>r=k/\_) ht' (by decide) (by decide) (by rw[mR (by decide) (by omega)];rfl) h0 ⟨rfl,h _ _ hk₁⟩) rfl
noncomputable def Keys(prog:Program)(w:World)(A:Around)(f:Value)(vs:List Value)(ks:List Str)(h0:Heap):Prop:=
 ∀(i:Nat)(v:Value)(k:Str),vs[i]? =some v->ks[i]? =some k->∀(s1:Shared)(E:Value->Shared->Prop)(Q':Value->Shared->Prop),Kp h0 s1.heap->
  (∀t h' t',Kp s1.heap h'->Q' (.str k t) {s1 with heap:=h',toks:=t'})->wpAny (model prog w) A (call f [v]) Q' E s1
theorem strs_snoc{k:Str}{t:Tok}:∀{vs:List Value}{ks:List Str},yu vs ks->yu (vs++[.str k t]) (ks++[k])
 |_,_,.nil=>.cons k t .nil
 |_,_,.cons y u h=>.cons y u (strs_snoc h)
theorem B4{a kS:Addr}{kv out:List Value}{e e1:Nat}{st:SortSt}{P:eA->Shared->Prop}(hout:(arrOf st).map (·.2)=dZ out)(hz:out.length<64)(hkz:kv.length<64)(hf:failedOf st=none)
  (hk:s.heap.get? kS=some (seqObj "list" kv.toArray e))(ha:s.heap.get? a=some (seqObj "list" #[] e1))(hne:kS≠a)
  (h:∀h' c,(∀b o,b≠a->b≠kS->s.heap.get? b=some o->h'.get? b=some o)->h'.get? a=some (seqObj "list" out.toArray c)->P (.done (.ret .none)) {s with heap:=h'}):
  wpAny (model prog w) A (ksk_tail a false e1 (.ref kS) st) P E s:=by
 have s1:=bC s.heap kS (aY fun _=>(#[]:Array Value));have ha1:(s.heap.update kS (aY fun _=>(#[]:Array Value))).get? a=some (seqObj "list" #[] e1):=(s1.2 a (cb hne)).trans ha;have s2:=bC (s.heap.update kS (aY fun _=>(#[]:Array Value))) a (aY fun _=>dZ out);obtain⟨c2,hc2⟩:∃c2,((s.heap.update kS (aY fun _=>(#[]:Array Value))).update a (aY fun _=>dZ out)).get? a=some (seqObj "list" (dZ out) c2):=⟨_,pL ha1 fun _=>dZ out⟩;unfold ksk_tail;try dsimp only
 rw[hout];refine aa (fQ hk rfl ?_ (by rw[ay];exact fm hkz) (a7 _));refine aa (gu ?_);refine aa (rA ha1 rfl ?_);refine aa (fQ ha1 rfl ?_ (a7 _) (by simpa using B5 hz));rw[hf];simp only[bne_self_eq_false,aE,if_false];exact aj (h _ c2 (fun b o h1 h2 q=>(s2.2 b h1).trans ((s1.2 b h2).trans q)) hc2)
theorem end_ok{a kS:Addr}{kv vs:List Value}{ks:List Str}{e e1:Nat}{P:eA->Shared->Prop}(nd:ks.Nodup)(r:yu kv ks)(hl:ks.length=vs.length)(h64:vs.length<64)
  (hk:s.heap.get? kS=some (seqObj "list" kv.toArray e))(ha:s.heap.get? a=some (seqObj "list" #[] e1))(hne:kS≠a)
  (h:∀h' c,(∀b o,b≠a->b≠kS->s.heap.get? b=some o->h'.get? b=some o)->h'.get? a=some (seqObj "list" (fF (lZ ks) vs).toArray c)->P (.done (.ret .none)) {s with heap:=h'}):
  wpAny (model prog w) A (ksk_end a false vs.toArray e1 (.ref kS) (dZ kv)) P E s:=by
 have hv:vs.toArray.size=vs.length:=by simp
 have hkl:=sg r;have hlen:kv.length=vs.length:=hkl.trans hl;unfold ksk_end;simp only[aE,if_false];by_cases hn:vs.length<2
 ·have eo:fF (lZ ks) vs=vs:=if_pos hn
  rw[eo]at h;rw[if_pos (by rw[hv];exact hn),if_pos (by rw[hv];exact hn)];refine aa (aj (aa ?_));rw[StateT.run_pure];refine aj (B4 (out:=vs) ?_ h64 (by omega) rfl hk ha hne h);show(kv.toArray.zip vs.toArray).map (·.2)=vs.toArray;apply IK;simp[List.map_snd_zip,hlen]
 ·have h2:2<=vs.length:=by omega
  have eo:fF (lZ ks) vs=(run (lZ ks) (cV vs.length)).toList.map fun i=>vs.getD i .none:=if_neg hn;rw[eo]at h;rw[if_neg (by rw[hv];exact hn),if_neg (by rw[hv];exact hn)];obtain⟨κ,hk1,hk2⟩:=Ez (prog:=prog) (w:=w) (A:=A) (h0:=s.heap) r (by omega) s (fun _ _ q=>q);have T:Tot (lZ ks) vs.length:=by rw[<-hl];exact r8 nd
  obtain⟨P1,U1,O1⟩:=fv T (by omega:1<=vs.length);refine aa (hk1 _ _ (aa ?_));have key:=kat_run (prog:=prog) (w:=w) (A:=A) (E:=E) (κ:=κ) (ks:=kv) (vs:=vs) (s:=s)
   (Q:=fun st' s'=>s'=s/\arrOf st'=(run (lZ ks) (cV vs.length)).map (kas_item (kv.toArray.zip vs.toArray))/\failedOf st'=none)
   (G:=fun p s'=>s'=s/\p=run (lZ ks) (cV vs.length)) hlen h2 h64
   (fun p st' s' _ e1 e2 e3=>⟨e3.1,by rw[e1,e3.2],e2⟩)
   (wp_run (S:=fun s'=>s'=s) (fun i j C s' hi hj hij hs hC=>by
    subst hs;exact hk2 i j C (by omega) (by omega) hij (hC _ rfl)) _ _ O1 rfl fun s' hs=>⟨hs,rfl⟩)
  refine fP key ?_ fun _ _ z=>z;rintro⟨⟨⟩,st'⟩ s' ⟨rfl,har,hf⟩;exact B4 (kat_snds hlen har) (by rw[ai,aO,P1.size];exact h64) (by omega) hf hk ha hne h
theorem FE{a:Addr}{n:Nat}{h0:Heap}{f:Value}{vs:List Value}{ks:List Str}{P:eA->Shared->Prop}(nd:ks.Nodup)(hl:ks.length=vs.length)(ho:s.heap.get? a=some (seqObj "list" vs.toArray n))
  (k0:∀b o,h0.get? b=some o->s.heap.get? b=some o/\b≠a)(h64:vs.length<64)(ky:Keys prog w A f vs ks h0)
  (h:∀h' t' c,(∀b o,b≠a->s.heap.get? b=some o->h'.get? b=some o)->h'.get? a=some (seqObj "list" (fF (lZ ks) vs).toArray c)->P (.done (.ret .none)) {s with heap:=h',toks:=t'}):
  wpAny (model prog w) A (ksk_tree a f false) P E s:=by
 have hv:vs.toArray.size=vs.length:=by simp
 have ha0:a<s.heap.objs.size:=av ho;have s1:=bC s.heap a (aY fun _=>(#[]:Array Value));obtain⟨e1,ho1⟩:∃e1,(s.heap.update a (aY fun _=>(#[]:Array Value))).get? a=some (seqObj "list" #[] e1):=⟨_,pL ho fun _=> #[]⟩;unfold ksk_tree;refine aa (listItems_at ho rfl ?_);refine aa (fQ ho rfl ?_ (by rw[hv];exact fm h64) (a7 _));refine aa (rA ho1 rfl ?_);refine aa (wpAny_newTuple ?_ (show vs.length<=_ from fm h64));refine aa (j4 ?_ (a7 _));refine bf ?_;have ha1:((s.heap.update a (aY fun _=>(#[]:Array Value))).push (seqObj "tuple" vs.toArray 0)).get? a=some (seqObj "list" #[] e1):=ah _ ho1;have kp1:∀b o,b≠a->s.heap.get? b=some o->((s.heap.update a (aY fun _=>(#[]:Array Value))).push (seqObj "tuple" vs.toArray 0)).get? b=some o:=fun b o hb q=>ah _ ((s1.2 b hb).trans q);have hsz:s.heap.objs.size<((s.heap.update a (aY fun _=>(#[]:Array Value))).push (seqObj "tuple" vs.toArray 0)).objs.size:=by rw[uY,uC];omega
 show wpAny _ _ (ksk_rest a f false vs.toArray e1 (.ref ((s.heap.update a (aY fun _=>(#[]:Array Value))).push (seqObj "tuple" vs.toArray 0)).objs.size)) _ _
  {s with heap:=((s.heap.update a (aY fun _=>(#[]:Array Value))).push (seqObj "tuple" vs.toArray 0)).push (seqObj "list" #[] 0)}
 generalize(s.heap.update a (aY fun _=>(#[]:Array Value))).push (seqObj "tuple" vs.toArray 0)=h1 at ha1 kp1 hsz⊢;have hne:h1.objs.size≠a:=dq (fY ha0 hsz);unfold ksk_rest;refine aa (gw ?_)
 first
  |rw[List.forIn_toArray]
  | (rw[<-kG];simp only[pO])
  |rw[<-kG]
 refine aa (ksk_fold (fun i s'=>∃h2 t2 kv e,s'={s with heap:=h2,toks:=t2}/\yu kv (ks.take i)/\h2.get? h1.objs.size=some (seqObj "list" (dZ kv) e)/\h2.get? a=some (seqObj "list" #[] e1)/\∀b o,b≠a->s.heap.get? b=some o->h2.get? b=some o)
  vs 0 _ ⟨_,s.toks,[],0,rfl,by rw[List.take_zero];exact .nil,au _ rfl,ah _ ha1,fun b o hb q=>ah _ (kp1 b o hb q)⟩ ?_ ?_)
 ·rintro j x s' hx ⟨h2,t2,kv,e,rfl,r,hk,ha,kp⟩
  rw[ur]at r;have hj:j<vs.length:=(aF.mp hx).1;have hkj:ks[j]? =some (ks[j]'(by omega)):=ae (by omega);have hkv:kv.length=j:=by rw[sg r,bR];omega
  refine aa (uw (ky j x _ hx hkj _ _ _ (fun b o q=>kp b o (k0 b o q).2 (k0 b o q).1) fun t h3 t3 k3=>?_));have s3:=bC h3 h1.objs.size (aY (·.push (iK (ks[j]'(by omega)) t)));have ea:(dZ kv).push (iK (ks[j]'(by omega)) t)=dZ (kv++[iK (ks[j]'(by omega)) t]):=by simp
  obtain⟨c2,hc2⟩:∃c2,(h3.update h1.objs.size (aY (·.push (iK (ks[j]'(by omega)) t)))).get? h1.objs.size=some (seqObj "list" (dZ (kv++[iK (ks[j]'(by omega)) t])) c2):=⟨_,by rw[<-ea];exact pL (k3 _ _ hk) (·.push _)⟩;try dsimp only
  refine aa (fQ (k3 _ _ hk) rfl ?_ (by rw[ay];exact fm (by omega)) (ba (m6 (Array.size_push ..)) (by rw[ay];exact B5 (by omega))));refine aj ⟨rfl,_,t3,kv++[iK (ks[j]'(by omega)) t],c2,rfl,?_,hc2,(s3.2 a (cb hne)).trans (k3 _ _ ha),fun b o hb q=>(s3.2 b (aJ (fY (av q) hsz))).trans (k3 _ _ (kp b o hb q))⟩;rw[ur,dc,hkj];exact strs_snoc r
 ·rintro s' ⟨h2,t2,kv,e,rfl,r,hk,ha,kp⟩
  rw[ur,eN (by omega)]at r;try dsimp only
  refine aa (listItems_at hk rfl ?_);exact end_ok nd r hl h64 hk ha hne fun h' c k q=>h h' t2 c (fun b o hb z=>k b o hb (aJ (fY (av z) hsz)) (kp b o hb z)) q
theorem AW{l q:Addr}{vs:List Value}{ks:List Str}{Q:Value->Shared->Prop}(nd:ks.Nodup)(hlk:ks.length=vs.length)(hl:s.heap.IsList l vs.toArray)(h64:vs.length<64)(ky:Keys prog w A.in1.in1 (.ref q) vs ks s.heap)
  (h:∀h' t' c,Kp s.heap h'->h'.get? (s.heap.objs.size+1)=some (seqObj "list" (fF (lZ ks) vs).toArray c)->Q (.ref (s.heap.objs.size+1)) {s with heap:=h',toks:=t'}):
  wpAny (model prog w) A (call (.builtin "sorted") [.ref l] [(cZ "key",.ref q)]) Q E s:=by
 refine call_function_entry_kw Aq yo yr (ksk_s1 _ _) ?_;unfold Builtin.«sorted»;refine aa (m:=EK "sorted" 1 1 _) (aj ?_);refine aa (collect_list hl ?_ (by simpa using fm h64));refine aa (j4 ?_ (show vs.length<=_ from fm h64));have hz:((s.heap.push (seqObj "list" #[] 0)).update s.heap.objs.size (aY (·++vs.toArray))).objs.size=s.heap.objs.size+1:=by rw[uC,uY]
 have kp:Kp s.heap ((s.heap.push (seqObj "list" #[] 0)).update s.heap.objs.size (aY (·++vs.toArray))):=fun b o e=>by
  have hb:=av e;rw[aN _ _ (dq hb)];exact ah _ e
 have hg:(((s.heap.push (seqObj "list" #[] 0)).update s.heap.objs.size (aY (·++vs.toArray))).push (seqObj "list" vs.toArray 0)).get? (s.heap.objs.size+1)=some (seqObj "list" vs.toArray 0):=by
  rw[<-hz];exact au _ rfl
 show wpAny _ _ _ _ _ {s with heap:=((s.heap.push (seqObj "list" #[] 0)).update s.heap.objs.size (aY (·++vs.toArray))).push (seqObj "list" vs.toArray 0)};rw[hz];have kp2:Kp s.heap (((s.heap.push (seqObj "list" #[] 0)).update s.heap.objs.size (aY (·++vs.toArray))).push (seqObj "list" vs.toArray 0)):=fun b o e=>ah _ (kp b o e);generalize((s.heap.push (seqObj "list" #[] 0)).update s.heap.objs.size (aY (·++vs.toArray))).push (seqObj "list" vs.toArray 0)=h1 at hg kp2⊢;refine aa (bf (wpAny_call_entry_kw rm ⟨_,hg,rfl⟩ pM ?_ (ksk_l1 _ _)));show wpAny (model prog w) A.in1.in1 (Builtin.«list.sort» ⟨[.ref (s.heap.objs.size+1)],[(cZ "key",.ref q)]⟩) _ _ _;rw[ksk_t1];exact FE (s:={s with heap:=h1}) nd hlk hg (fun b o e=>⟨kp2 b o e,aJ (a9 (av e))⟩) h64 ky fun h' t' c k z=>⟨_,rfl,aj ⟨_,rfl,h h' t' c (fun b o e=>k b o (aJ (a9 (av e))) (kp2 b o e)) z⟩⟩
end
structure Tb where
 P:Addr
 pos:Pos
 q:Str
noncomputable def Tab(T:Tb)(H:Hp):Prop:=H T.P=some (.tbl #[])\/∃c' oc u vs t,H T.P=some (.tbl #[rawInt T.pos.line,rawInt T.pos.col,.ref c'])/\H c'=some (.frz oc u)/\oc.data=.fields vs/\vs[1]? =some (.str T.q t)
structure Gr(T:Tb)(H H':Hp):Prop where
 keep:∀b o,b≠T.P->H b=some o->H' b=some o
 tab:Tab T H->Tab T H'
theorem Gr.refl(T:Tb)(H:Hp):Gr T H H:=⟨fun _ _ _ e=>e,fun t=>t⟩
theorem Gr.trans{T:Tb}{H H1 H2:Hp}(a:Gr T H H1)(b:Gr T H1 H2):Gr T H H2:=⟨fun c o n e=>b.keep c o n (a.keep c o n e),fun t=>b.tab (a.tab t)⟩
theorem Gr.of{T:Tb}{H H':Hp}(e:aS H H'):Gr T H H':=
 ⟨fun b o _ q=>e b o q,fun t=>by
  rcases t with t|⟨c',oc,u,vs,tk,h1,h2,h3,h4⟩
  ·exact .inl (e _ _ t)
  ·exact .inr ⟨c',oc,u,vs,tk,e _ _ h1,e _ _ h2,h3,h4⟩⟩
theorem Tab.ne{T:Tb}{H:Hp}(t:Tab T H){b:Addr}{o:HO}(e:H b=some o)(n:∀ps,o≠.tbl ps):b≠T.P:=by
 intro z;subst z;rcases t with t|⟨c',oc,u,vs,tk,h1,h2,h3,h4⟩
 ·rw[t]at e;exact n _ (aT e).symm
 ·rw[h1]at e;exact n _ (aT e).symm
section
variable {K:af}{T:Tb}{H H':Hp}{a:Addr}{xs:List V}
theorem Gr.at(g:Gr T H H')(t:Tab T H){o:HO}(e:H a=some o)(n:∀ps,o≠.tbl ps):H' a=some o:=g.keep a o (t.ne e n) e
theorem Gr.lst(g:Gr T H H')(t:Tab T H)(e:H a=some (.lst xs)):H' a=some (.lst xs):=g.at t e fun _ z=>by cases z
theorem Gr.yP(g:Gr T H H')(t:Tab T H)(e:H a=some (.tup xs)):H' a=some (.tup xs):=g.at t e fun _ z=>by cases z
theorem Gr.frz(g:Gr T H H')(t:Tab T H){o:Obj}{u:HO}(e:H a=some (.frz o u)):H' a=some (.frz o u):=g.at t e fun _ z=>by cases z
theorem Gr.seq(g:Gr T H H')(t:Tab T H)(h:SqL K H a xs):SqL K H' a xs:=by
 rcases h with(h|⟨o,h⟩) |h
 ·exact .inl (.inl (g.lst t h))
 ·exact .inl (.inr ⟨o,g.frz t h⟩)
 ·exact .inr h
theorem Gr.tup(g:Gr T H H')(t:Tab T H)(h:SqT K H a xs):SqT K H' a xs:=by
 rcases h with(h|⟨o,h⟩) |h
 ·exact .inl (.inl (g.yP t h))
 ·exact .inl (.inr ⟨o,g.frz t h⟩)
 ·exact .inr h
end
theorem un_tab{P:Program}{w:World}{fs:List Addr}{H:Hp}{h h':Heap}{p c':Addr}{oc:Obj}{ps more:Array Value}(hok:HOk P w H h)(hx:∀b o,b≠p->h.get? b=some o->h'.get? b=some o)(hP:H p=some (.tbl ps))(hge:h.objs.size<=c')
  (hp':h'.get? p=some (tabObj (ps++more)))(hc:h'.get? c'=some oc):
  Un fs [] H (upd (upd H c' (.frz oc (.ext fun _=>True))) p (.tbl (ps++more))) h h'/\HOk P w (upd (upd H c' (.frz oc (.ext fun _=>True))) p (.tbl (ps++more))) h':=by
 have hn:H c'=none:=hok.fresh hge;have ne:c'≠p:=cb (ck hP hn);have out:∀{b:Addr}{o:HO},H b=some o->b≠p->upd (upd H c' (.frz oc (.ext fun _=>True))) p (.tbl (ps++more)) b=some o:=fun{b o} e n=>by
  rw[bh n,bh (ck e hn)];exact e
 have nt:∀{b:Addr}{o:HO},H b=some o->(∀vs,o≠.tbl vs)->b≠p:=fun{b o} e n z=>by
  subst z;rw[hP]at e;exact n _ (aT e).symm
 refine⟨⟨fun b o e n _ _=>hx b o (fun z=>by rw[z,hP]at n;cases n) e,fun b o e n _ _=>⟨o.slots,hx b o (fun z=>by rw[z,hP]at n;cases n) e⟩,fun b o e n _=>?_,fun b o e _=>?_,fun b xs e=>out e (nt e fun _ z=>by cases z),
  fun b o u e=>out e (nt e fun _ z=>by cases z),fun b vs e=>?_⟩,fun b o e=>?_⟩
 ·have hb:b≠p:=fun z=>by rw[z,hP]at n;cases n
  rw[bh hb,bh (aJ (bc (av e) hge))];exact n
 ·by_cases hb:b=p
  ·exact⟨_,by rw[hb];exact hp'⟩
  ·exact⟨o,hx b o hb e⟩
 ·by_cases hb:b=p
  ·subst hb
   rw[hP]at e;cases e;exact⟨more,aw⟩
  ·exact⟨#[],by rw[out e hb];simp⟩
 ·by_cases hb:b=p
  ·subst hb
   rw[aw]at e;cases e;exact hp'
  ·rw[bh hb]at e
   by_cases hc2:b=c'
   ·subst hc2
    rw[aw]at e;cases e;exact⟨hc,trivial,⟨_,hc⟩,fun _ _ _ _=>trivial⟩
   ·rw[bh hc2]at e
    refine(hok b o e).mY (fun d v hd q=>hx d v ?_ q) (fun d q=>out q (nt q fun _ z=>by cases z)) fun d xs q=>out q (nt q fun _ z=>by cases z);rcases hd with z|z
    ·rw[z];exact hb
    ·exact nt z fun _ y=>by cases y
noncomputable def BM(mg:Str->Option Value)(h:Heap):Prop:=∃bm ob,mg "__builtins__"=some (.ref bm)/\bm≠lN/\bm≠bM/\h.get? bm=some ob/\ob.cls=.type "module"/\ob.dict=some lN/\ob.data=.plain
noncomputable def rSortK(K:af)(T:Tb):List V->Hp->VK->Prop:=fun xs H Q=>∃a ys ks,xs=[V.ref a]/\SqL K H a ys/\ks.length<64/\ks.Nodup/\mK H ys ks/\Tab T H/\
 ∀H2 l,Gr T H H2->H2 l=none->Q (.ref l) (upd H2 l (.lst (sortBy .non ks ys)))
noncomputable def se(K:af)(T:Tb)(te:TE):TE:=fun σ H Q=>jS te pU σ H fun xs H1=>rSortK K T xs H1 Q
structure Iw(env:Env)(params:Arguments)(x:Str)(body:Expr)(scope:Scope):Prop where
 cl:EJ scope env=pure []
 df:defaultsOf params env=([],[])
 bd:∀(qual:Str)(pm ctv v:Value)(c':Addr),oh (kla_fn "<lambda>" qual params body scope [] pm (.ref c') ctv) ⟨[v],[]⟩=pure [(x,v)]
 lk:scope.names.lookup x=some .local
 dbg:(x==("__debug__":Str))=false
 kd:scope.kind=.function
 nc:∀y∈scope.names,y.2≠.cell
 co:scope.isCoroutine=false
 gn:scope.isGenerator=false
section
variable {X:Cx}{e:Expr}{te:TE}{T:Tb}{c:Addr}{p kp pos p1 p2 p3:Pos}{x:Str}{j:Nat}{params:Arguments}{scope:Scope}
theorem rL{prog:Program}{w:World}{A:Around}{H:Hp}{s:Shared}{f c':Addr}{qual:Str}{pm ctv:Value}(O:Iw X.env params x (.Subscript (.Name x p1) (.Constant (.int 0) j p2) p3) scope)(ok:HOk X.prog X.w H s.heap)
  (hf:s.heap.get? f=some (kla_obj "<lambda>" qual params (.Subscript (.Name x p1) (.Constant (.int 0) j p2) p3) scope [] pm c' ctv))(hc:s.heap.CodeRec (.ref c') qual)(hroom:A.depth<jl)(hnl:s.heap.NoLimit):
  ∀{ys:List V}{ks:List Str}{vs:List Value},mK H ys ks->bO ys vs->Keys prog w A (.ref f) vs ks s.heap
 |_,_,_,.nil,.nil=>fun i v k h1=>by simp at h1
 |_,_,_,.cons y t,.cons r q=>by
  intro i v k h1 h2 s1 E Q' kp hq;cases i with
  |zero=>
   obtain⟨a,rest,rfl,ea⟩:=y;cases r;have e1:v=aV a:=by simpa using h1.symm
   subst e1;obtain⟨_,its,rv,o,g1,g2,n,g3⟩:=ok a _ ea;cases rv with
   |cons r0 _=>
    obtain⟨tk,rfl⟩:=r0;obtain rfl:=aT h2;exact Ig (kp _ _ hf) (hc.keeps kp) hroom (hnl.keeps kp) (fun v=>O.bd _ _ _ v _) O.lk O.dbg O.kd O.nc O.co O.gn ⟨o,kp _ _ g1,g2,n,g3⟩ (by simp) fun h' t' k'=>hq tk h' t' k'
  |succ i=>exact rL O ok hf hc hroom hnl t q i v k (by simpa using h1) (by simpa using h2) s1 E Q' kp hq
theorem vh{pins:List (Addr×Obj)}{σ:L2.St}{H:Hp}{s:Shared}{Q:VK}{a f c':Addr}{ys:List V}{ks:List Str}{pm ctv:Value}(O:Iw X.env params x (.Subscript (.Name x p1) (.Constant (.int 0) j p2) p3) scope)(I:Inv X pins σ H s)
  (hf:s.heap.get? f=some (kla_obj "<lambda>" T.q params (.Subscript (.Name x p1) (.Constant (.int 0) j p2) p3) scope [] pm c' ctv))(hc:s.heap.CodeRec (.ref c') T.q)(hroom:X.A.depth<jl)
  (hq:SqL X.K H a ys)(h64:ks.length<64)(nd:ks.Nodup)(hk:mK H ys ks)(q:∀l,H l=none->Q (.ref l) (upd H l (.lst (sortBy .non ks ys)))):
  wpAny (model X.prog X.w) X.A (call (.builtin "sorted") [.ref a] [(cZ "key",.ref f)]) (EP X pins σ Q) X.xe s:=by
 obtain⟨its,r',pl,hz⟩:=I.list hq;have hl:ks.length=ys.length:=qx hk;have hlen:=r'.length;have hv:ks.length=its.length:=by omega
 refine AW nd hv pl.isList (by omega) (rL (A:=X.A.in1.in1) O I.hok hf hc hroom I.nolimit hk r') fun h' t' cc k hc'=>?_;have hz2:(sortBy V.non ks ys).length<=sizeLine:=by
  unfold sortBy;rw[ai,ord_len ks nd];omega
 exact⟨.ref (s.heap.objs.size+1),_,I.laid (t':=t') k (d8 _) (show dQ X.prog X.w _ _ _ (.lst (sortBy .non ks ys))from⟨hz2,_,cc,GC nd hl r',hc'⟩),rfl,q _ (I.hok.fresh (d8 _))⟩
theorem Gj(he:PE X e te)(hs:bP [e] X.env=(false,eval e X.env)::bP [] X.env)(hg:Gl X "sorted")(hm:X.mg "sorted"=none)(hcode:X.env.code=.ref c)(hC:CodeHd X.base c T.P)(hq:X.env.qual++"<lambda>"=T.q)(hb:BM X.mg X.base)
  (O:Iw X.env params x (.Subscript (.Name x p1) (.Constant (.int 0) j p2) p3) scope)(hroom:X.A.depth<jl):
  PE X (.Call (.Name "sorted" p) [e] [⟨some (cZ "key"),.Lambda params (.Subscript (.Name x p1) (.Constant (.int 0) j p2) p3) scope T.pos,kp⟩] pos) (se X.K T te):=by
 intro pins s σ H Q I h;refine gz (iR (u:=.builtin "sorted") I hg hm (by decide+kernel) ?_);refine callWith_kw (thn (gS he j9 hs pos pins s σ H _ I h) fun us s1 ⟨vs,H1,I1,r,a,ys,ks,ev,sq,h64,nd,hk,tb,q⟩=>?_) (by rw[hs];rfl) (by rw[hs];rfl);subst ev;obtain⟨u,rfl,rx⟩:=vals1 r;cases rx;obtain⟨bm,ob,b1,b2,b0,b3,b4,b5,b6⟩:=hb;have hgs:s1.heap.Ns bM X.mg:=I1.mod.glob.keeps I1.bk;have hbP:bm≠T.P:=fun z=>by
  have n:=(I1.bs _ _ b3).2;rw[z]at n;rcases tb with t|⟨_,_,_,_,_,t,_⟩<;>(rw[t]at n;cases n)
 have hgP:bM≠T.P:=fun z=>by
  obtain⟨o,es,ep,g1,g2,_⟩:=I1.mod.glob;have n:=(I1.bs _ _ g1).2;rw[z]at n;rcases tb with t|⟨_,_,_,_,_,t,_⟩<;>(rw[t]at n;cases n)
 have hB:s1.heap.BuiltinsAt X.mg T.P:=⟨bm,ob,b1,b2,b0,hbP,I1.bk _ _ b3,b4,b5,b6⟩;refine kws_cons (kla_eval O.df ?_);rw[hq];rcases tb with t|⟨c',oc,u,vs,tk,t,hcT,hoc,hvs⟩
 ·refine kla_makeFunction (mg:=X.mg) O.cl I1.ok.glob hgs hcode (hC.keeps I1.bk) (ps:= #[]) (I1.hok _ _ t) True.intro rfl hgP hB fun c' ctv h' tk hx hge hlt hrec htb=>kws_nil ?_
  obtain⟨c2,oc,vs,t2,ec,hoc,hd,hv⟩:=hrec;cases ec;have hx':∀b o,b≠T.P->s1.heap.get? b=some o->(h'.push (kla_obj "<lambda>" T.q params (.Subscript (.Name x p1) (.Constant (.int 0) j p2) p3) scope [] ((X.mg "__name__").getD .none) c' ctv)).get? b=some o:=fun b o n e=>ah _ (hx b o n e);obtain⟨un,ok⟩:=un_tab (fs:=frs X.stack) I1.hok hx' t hge (ah _ htb) (ah _ hoc);have I2:=I1.call (g':=s1.gens) (t':=tk) (d':=s1.drawn) un ok I1.bare (fun b z=>absurd z (by simp));have tb1:Tab T H1:=.inl t;have gr:Gr T H1 (upd (upd H1 c' (.frz oc (.ext fun _=>True))) T.P (.tbl (#[]++ #[rawInt T.pos.line,rawInt T.pos.col,aV c']))):=by
   have hn:H1 c'=none:=I1.hok.fresh hge;refine⟨fun b o n e=>by rw[bh n,bh (ck e hn)];exact e,fun _=>.inr ⟨c',oc,.ext fun _=>True,vs,t2,?_,?_,hd,hv⟩⟩
   ·rw[aw];simp
   ·rw[bh (cb (ck t hn)),aw]
  exact vh O I2 (au _ rfl) ⟨c',oc,vs,t2,rfl,ah _ hoc,hd,hv⟩ hroom (gr.seq tb1 sq) h64 nd (Paired.Bj hk fun v k ⟨b,rest,e1,e2⟩=>⟨b,rest,e1,gr.yP tb1 e2⟩) (q _ · gr)
 ·refine kla_makeFunctionHit (mg:=X.mg) O.cl I1.ok.glob hgs hcode (hC.keeps I1.bk) (I1.hok _ _ t) (by simp[TriplesOk,rawInt]) (cv:=.ref c') (by simp[codeAmong,rawInt]) hB fun ctv h' tk hk' hsz=>kws_nil ?_
  have I2:=I1.call (H':=H1) (h':=h'.push (kla_obj "<lambda>" T.q params (.Subscript (.Name x p1) (.Constant (.int 0) j p2) p3) scope [] ((X.mg "__name__").getD .none) c' ctv)) (g':=s1.gens) (t':=tk) (d':=s1.drawn) (ch:=[])
   (Un.kept fun b o e=>ah _ (hk' b o e)) (I1.hok.kept fun b o e=>ah _ (hk' b o e)) I1.bare (fun b z=>absurd z (by simp))
  exact vh O I2 (au _ rfl) ⟨c',oc,vs,_,rfl,ah _ (hk' _ _ (I1.hok _ _ hcT).1),hoc,hvs⟩ hroom sq h64 nd hk fun l hl=>q H1 l (Gr.refl _ _) hl
end
end Lm
namespace Lm
open PySem PySem.Spec PySem.W PyProof.Rows L2 Q R
noncomputable def oQ(lx:Str)(p:Pos):Arguments:={posonlyargs:=[],args:=[⟨lx,none,p⟩],vararg:=none,kwonlyargs:=[],kw_defaults:=[],kwarg:=none,defaults:=[]}
noncomputable def isArg(lx:Str):List Arg->Bool
 |x::r=>r.isEmpty&&(x.annotation.isNone&&x.arg==lx)
 | []=>false
noncomputable def vH(lx:Str)(a:Arguments):Bool:=a.posonlyargs.isEmpty&&(a.vararg.isNone&&(a.kwonlyargs.isEmpty&&(a.kw_defaults.isEmpty&&(a.kwarg.isNone&&(a.defaults.isEmpty&&isArg lx a.args)))))
theorem je{a b:Bool}(h:(a&&b)=true):a=true/\b=true:=by rwa [aL]at h
theorem emp{α:Type}{l:List α}(h:l.isEmpty=true):l=[]:=List.isEmpty_iff.mp h
theorem non{α:Type}{l:Option α}(h:l.isNone=true):l=none:=gO.mp h
theorem Br{lx:Str}{a:Arguments}(h:vH lx a=true):∃p,a=oQ lx p:=by
 obtain⟨po,ar,va,ko,kd,kw,df⟩:=a;obtain⟨h1,h⟩:=je h;obtain⟨h2,h⟩:=je h;obtain⟨h3,h⟩:=je h;obtain⟨h4,h⟩:=je h;obtain⟨h5,h⟩:=je h;obtain⟨h6,h⟩:=je h;cases ar with
 |nil=>exact(aD h).elim
 |cons x r=>
  obtain⟨h7,h⟩:=je h;obtain⟨h8,h9⟩:=je h;obtain⟨y,an,p⟩:=x;cases emp h1;cases non h2;cases emp h3;cases emp h4;cases non h5;cases emp h6;cases emp h7;cases non h8;cases eq_of_beq h9;exact⟨p,rfl⟩
noncomputable def nY(lx:Str)(sc:Scope):Bool:=decide (sc.names=[(lx,.local)])&&(decide (sc.kind=.function)&&(decide (sc.isCoroutine=false)&&(decide (sc.isGenerator=false)&&(lx==("__debug__":Str))==false)))
noncomputable def isNm(lx:Str):Expr->Bool
 |.Name x _=>x==lx
 |_=>false
theorem CD{lx:Str}{e:Expr}(h:isNm lx e=true):∃p,e=.Name lx p:=by
 cases e with
 |Name x p=>cases eq_of_beq h;exact⟨p,rfl⟩
 |_=>exact(aD h).elim
noncomputable def isZero:Expr->Bool
 |.Constant c _ _=>decide (c=.int 0)
 |_=>false
theorem Ed{e:Expr}(h:isZero e=true):∃j p,e=.Constant (.int 0) j p:=by
 cases e with
 |Constant c j p=>cases of_decide_eq_true h;exact⟨j,p,rfl⟩
 |_=>exact(aD h).elim
noncomputable def CF(lx:Str):Expr->Bool
 |.Subscript a b _=>isNm lx a&&isZero b
 |_=>false
theorem Bu{lx:Str}{e:Expr}(h:CF lx e=true):∃p1 j p2 p3,e=.Subscript (.Name lx p1) (.Constant (.int 0) j p2) p3:=by
 cases e with
 |Subscript a b p=>
  obtain⟨h1,h2⟩:=je h;obtain⟨p1,rfl⟩:=CD h1;obtain⟨j,p2,rfl⟩:=Ed h2;exact⟨_,_,_,_,rfl⟩
 |_=>exact(aD h).elim
noncomputable def Ia(lx:Str)(pos:Pos):Expr->Bool
 |.Lambda params body scope lp=>decide (lp=pos)&&(vH lx params&&(nY lx scope&&CF lx body))
 |_=>false
theorem Ep{lx:Str}{pos:Pos}{e:Expr}(h:Ia lx pos e=true):∃pa scope p1 j p2 p3,e=.Lambda (oQ lx pa) (.Subscript (.Name lx p1) (.Constant (.int 0) j p2) p3) scope pos/\nY lx scope=true:=by
 cases e with
 |Lambda params body scope lp=>
  obtain⟨h1,h⟩:=je h;obtain⟨h2,h⟩:=je h;obtain⟨h3,h4⟩:=je h;cases of_decide_eq_true h1;obtain⟨pa,rfl⟩:=Br h2;obtain⟨p1,j,p2,p3,rfl⟩:=Bu h4;exact⟨_,_,_,_,_,_,rfl,h3⟩
 |_=>exact(aD h).elim
noncomputable def chkKw(lx:Str)(pos:Pos):List Keyword->Bool
 |k::r=>r.isEmpty&&(decide (k.arg=some (cZ "key"))&&Ia lx pos k.value)
 | []=>false
noncomputable def Ib(sc:Scope)(N:List Str)(ce:CE)(lx:Str)(pos:Pos):Expr->Bool
 |.Call f es ks _=>isNm "sorted" f&&(m4 sc "sorted"&&(o9 sc N (.cons ce .nil) es&&chkKw lx pos ks))
 |_=>false
noncomputable def chkTg(sc:Scope)(N:List Str)(i:Nat):List Expr->Bool
 |g::r=>r.isEmpty&&uT sc N true (.name i) g
 | []=>false
noncomputable def Ic(sc:Scope)(N:List Str)(i:Nat)(ce:CE)(lx:Str)(pos:Pos):Stmt->Bool
 |.Assign ts v _=>chkTg sc N i ts&&Ib sc N ce lx pos v
 |_=>false
theorem Er{sc:Scope}{N:List Str}{i:Nat}{ce:CE}{lx:Str}{pos:Pos}{s:Stmt}(h:Ic sc N i ce lx pos s=true):∃g e pa scope p1 j p2 p3 p kp cp sp,s=.Assign [g] (.Call (.Name "sorted" p) [e] [⟨some (cZ "key"),.Lambda (oQ lx pa) (.Subscript (.Name lx p1) (.Constant (.int 0) j p2) p3) scope pos,kp⟩] cp) sp/\
  uT sc N true (.name i) g=true/\m4 sc "sorted"=true/\dO sc N ce e=true/\nY lx scope=true:=by
 cases s with
 |Assign ts v sp=>
  obtain⟨h1,h2⟩:=je h;cases ts with
  |nil=>exact(aD h1).elim
  |cons g r=>
   obtain⟨h3,h4⟩:=je h1;cases emp h3;cases v with
   |Call f es ks cp=>
    obtain⟨h5,h2⟩:=je h2;obtain⟨h6,h2⟩:=je h2;obtain⟨h7,h8⟩:=je h2;obtain⟨p,rfl⟩:=CD h5;obtain⟨e,r',rfl,h9,h10⟩:=mJ h7;cases o8 h10;cases ks with
    |nil=>exact(aD h8).elim
    |cons k ks=>
     obtain⟨h11,h12⟩:=je h8;obtain⟨h13,h14⟩:=je h12;cases emp h11;obtain⟨ka,kv,kp⟩:=k;cases of_decide_eq_true h13;obtain⟨pa,scope,p1,j,p2,p3,e1,h15⟩:=Ep h14;cases e1;exact⟨_,_,_,_,_,_,_,_,_,_,_,_,rfl,h4,h6,h9,h15⟩
   |_=>exact(aD h2).elim
 |_=>exact(aD h).elim
noncomputable def chkK(sc:Scope)(N:List Str)(c1:CS)(i:Nat)(ce:CE)(lx:Str)(pos:Pos)(c2:CB):List Stmt->Bool
 |s1::r=>chkS sc N c1 s1&&rst r
 | []=>false
where rst:List Stmt->Bool
 |s2::rest=>Ic sc N i ce lx pos s2&&uU sc N c2 rest
 | []=>false
section
variable {P:Program}{w:World}{K:af}{mg:Str->Option Value}{base:Heap}
theorem HB{x qual:Str}{st:Stmt}{f c:Addr}{fd:gH}{N ps:List Str}{k:Nat}{G:Gam}{sp:Sp}{c1:CS}{i:Nat}{ce:CE}{lx:Str}{c2:CB}{T:Tb}(F:Fun K x qual st f fd)(hd:oJ N ps (aU st)=true)
  (hc:chkK (aU st) N c1 i ce lx T.pos c2 (bw st)=true)(hcd:fd.code=.ref c)(hC:CodeHd base c T.P)(hq:qual++".<locals>."++"<lambda>"=T.q)(hb:BM mg base)
  (hbd:∀(p:Pos)(body:Expr)(scope:Scope)(qual:Str)(pm ctv v:Value)(c':Addr),oh (kla_fn "<lambda>" qual (oQ lx p) body scope [] pm (.ref c') ctv) ⟨[v],[]⟩=pure [(lx,v)])
  (g:GOk P w K mg base (CXx P w) k G)(len:∀vs H Q E,sp vs H Q E->vs.length=ps.length)
  (h:∀vs H Q E,sp vs H Q E->uI (wpS G K (fun _=>E) c1) (uI (wM (se K T (wpE G K (fun _=>E) ce)) (l7 i)) (wpB G K (fun _=>E) c2)) {nx:=fun _ H'=>Q .non H',rt:=Q} (start N vs) H):jH P w K mg base (CXx P w) (k+1) f fd ps sp:=by
 have S:=zq hd;obtain⟨oc,od,kV,doc,pm,an,cdv,ct,osl,rfl,lk,hcd'⟩:=F.ex;have ecd:cdv=.ref c:=hcd;subst ecd;refine fn_of lk hcd' S len fun A outer s H vs Q E hr hsp=>?_;have o:Ok (CXx P w) G (fun _=>E) (aU st) N true (uR (CXx P w) P w K mg base N qual (aU st) f (.ref c) A outer s H E):=
  {names:=rfl,top:=fun _=>⟨rfl,rfl,rfl⟩,nd:=S.nd,loc:=fun _ z=>z,cel:=fun _ z=>z,fre:=fun y z=>absurd rfl (S.nofree _ (bj z)),glo:=fun _ z=>z,all:=fun _ _=>rfl,own:=fun _ _=>rfl,calm:=rfl,
   hu:=by have :=hr.units;show _+50<cLine;exact cP (Nat.add_le_add_left (by decide) _) this
   val:=g.val
   fn:=fun y n sp' dvs e=>by
    obtain⟨f',fd',ps',ds',j,hj,F',hm,hk,hb,hv⟩:=g.fn y n sp' dvs e;exact⟨f',fd',ps',ds',j,F',hr.mono hj,hm,hk,hb,hv⟩
   ini:=fun y n C sp' dvs e=>by
    obtain⟨f',fd',ps',ds',j,hj,M,F',hm,hb,hv⟩:=g.ini y n C sp' dvs e;exact⟨f',fd',ps',ds',j,M,F',hr.mono hj,hm,hb,hv⟩
   dic:=g.dic
   mak:=fun y n C sp' dvs e=>by
    obtain⟨f',fd',ps',ds',j,hj,M,F',hm,hb,hv⟩:=g.mak y n C sp' dvs e;exact⟨f',fd',ps',ds',j,M,F',hr.mono hj,hm,hb,hv⟩
   mth:=fun y n C sp' dvs e=>by
    obtain⟨f',fd',ps',ds',j,hj,c,M,F',hb,hv⟩:=g.mth y n C sp' dvs e;exact⟨f',fd',ps',ds',j,c,M,F',hr.mono hj,hb,hv⟩
   blt:=g.blt,px:=Dk,pass:=wc,made:=we,madeX:=ue,cx:=rfl}
 refine⟨_,?_,h vs H Q E hsp⟩;generalize hB:bw st=body at hc;cases body with
 |nil=>exact(aD hc).elim
 |cons s1 r=>
  obtain⟨h1,hc⟩:=je hc;cases r with
  |nil=>exact(aD hc).elim
  |cons s2 rest=>
  obtain⟨h2,h3⟩:=je hc;obtain⟨g',e,pa,scope,p1,j,p2,p3,p,kp,cp,sp',rfl,h4,h6,h7,h12⟩:=Er h2;obtain⟨n1,h12⟩:=je h12;obtain⟨n2,h12⟩:=je h12;obtain⟨n3,h12⟩:=je h12;obtain⟨n4,n5⟩:=je h12;rw[decide_eq_true_eq]at n1 n2 n3 n4;have hG:=pX (CX:=CXx P w) (fun _ _ _ _ _ z=>El z) (.name i) _ o h4;refine sE (FA (fun _ _ _ _ _ z=>El z) c1 s1 o (fun _ _ _ _ _=>S.kind) h1) (sE ?_ (pY (fun _ _ _ _ _ z=>El z) c2 rest o (fun _ _ _ _ _=>S.kind) h3));refine Ga (Gj (c:=c) (T:=T) (bI (fun _ _ _ _ _ z=>El z) ce e o h7) (cA h7 [] _) (o.gl h6) (g.blt _ (by decide+kernel)) rfl hC hq hb ?_ ?_) hG (GK rfl _ _ _) (sN h4 (fM _) _) (by rw[oK h4];rfl)
  ·refine⟨?_,rfl,fun qual pm ctv v c'=>hbd pa _ _ qual pm ctv v c',by rw[n1];simp,by simpa using n5,n2,?_,n3,n4⟩
   ·unfold EJ
    rw[n1];rfl
   ·rw[n1]
    intro z hz;have :z=(lx,d5.local):=by simpa using hz
    rw[this];exact fun z=>by cases z
  ·exact hr.depth
end
noncomputable def jE(K:af)(tabs:List Addr)(a:Addr)(vs:List Value)(ns:List Int):Hp:=fun b=>
 if b∈tabs then some (.tbl #[])else if b=a/\K.lookup a=none then some (.frz {cls:=.type "list",data:=.seq vs.toArray} (.lst (ns.map V.int)))else none
theorem Ea{P:Program}{w:World}{K:af}{mg mb:Str->Option Value}{CX:CXT}{k:Nat}{fa a:Addr}{fd:gH}{x:Str}{sp:Sp}{s₁:Shared}{vs:List Value}{ns:List Int}{tabs:List Addr}(KX:K.In s₁.heap)
  (hns:s₁.heap.Ns bM mg)(hb:s₁.heap.Ns lN mb)(hbb:∀x:Str,x≠"__name__"->mb x=fL x)(hlim:s₁.heap.NoLimit)(hg:s₁.gens= #[])(ha:s₁.heap.get? a=some {cls:=.type "list",data:=.seq vs.toArray})
  (hi:cf vs ns) (hl:ns.length<=sizeLine) (hr:kA k Dh) (hT:∀p∈tabs,s₁.heap.get? p=some (tabObj #[])/\isCodeTable s₁.heap p/\K.lookup p=none)
  (F:∀base:Heap,K.In base->base.Ns bM mg->(∀b o,s₁.heap.get? b=some o->o.cls≠.none->o.cls≠.type "list"->base.get? b=some o)->jH P w K mg base CX k fa fd [x] sp)
  (hbind:∀(s:Shared)(u:Value),BindsTo s fd ⟨[u],[]⟩ [(x,u)])
  (hsp:∀H:Hp,(∀p∈tabs,H p=some (.tbl #[]))->SqL K H a (ns.map V.int)->sp [.ref a] H (fun v _=>v=.bl true) fun _ _ _=>False) (hCX:∀H e s',CX [] H s₁ (fun _ _ _=>False) e s'->False):
  gT (model P w) Dh (.call (.ref fa) ⟨[.ref a],[]⟩) (fun r s'=>r=.ok (.ret (.bool true))/\OldK s₁.heap s'.heap/\s'.os=s₁.os/\mX s'.gens) s₁:=by
 have rv:=pR hi;have lenV:=hi.length;have cases3:∀b,(b∈tabs/\jE K tabs a vs ns b=some (.tbl #[]))\/(b=a/\K.lookup a=none/\jE K tabs a vs ns b=some (.frz {cls:=.type "list",data:=.seq vs.toArray} (.lst (ns.map V.int))))\/jE K tabs a vs ns b=none:=fun b=>by
  unfold jE;by_cases h1:b∈tabs
  ·exact .inl ⟨h1,if_pos h1⟩
  ·rw[if_neg h1]
   by_cases h2:b=a/\K.lookup a=none
   ·exact .inr (.inl ⟨h2.1,h2.2,if_pos h2⟩)
   ·exact .inr (.inr (if_neg h2))
 have tabH:∀p∈tabs,jE K tabs a vs ns p=some (.tbl #[]):=fun p hp=>if_pos hp;have haT:a∉tabs:=fun z=>by
  have :=(hT a z).1
  rw[ha]at this;cases this
 --what is neither a table nor a list is not tracked
 have untr:∀{b:Addr}{o:Obj},s₁.heap.get? b=some o->o.cls≠.none\/(∃es ep,o.data=.dict es ep)->o.cls≠.type "list"\/(∃es ep,o.data=.dict es ep)->jE K tabs a vs ns b=none:=fun{b o} e h1 h2=>by
  rcases cases3 b with⟨q,_⟩ |⟨rfl,_⟩ |q
  ·have :=(hT b q).1
   rw[e]at this;cases this;rcases h1 with z|⟨_,_,z⟩
   ·exact absurd rfl z
   ·cases z
  ·rw[ha]at e;cases e
   rcases h2 with z|⟨_,_,z⟩
   ·exact absurd rfl z
   ·cases z
  ·exact q
 have nsK:∀{b:Addr}{m:Str->Option Value},s₁.heap.Ns b m->(zH s₁.heap (jE K tabs a vs ns)).Ns b m:=fun{b m} ⟨o,es,ep,e,d,r⟩=>⟨o,es,ep,tE e (untr e (.inr ⟨_,_,d⟩) (.inr ⟨_,_,d⟩)),d,r⟩;have hKb:K.In (zH s₁.heap (jE K tabs a vs ns)):=fun b o e=>tE (KX b o e) (by
  rcases cases3 b with⟨q,_⟩ |⟨rfl,z,_⟩ |q
  ·rw[(hT b q).2.2]at e;cases e
  ·rw[z]at e;cases e
  ·exact q)
 have hok:HOk P w (jE K tabs a vs ns) s₁.heap:=fun b o e=>by
  rcases cases3 b with⟨q,z⟩ |⟨rfl,_,z⟩ |z
  ·rw[z]at e;cases e
   exact(hT b q).1
  ·rw[z]at e;cases e
   exact⟨ha,by rw[ai];exact hl,vs,_,rv,ha⟩
  ·rw[z]at e;cases e
 have hS:SqL K (jE K tabs a vs ns) a (ns.map V.int):=by
  cases hk:K.lookup a with
  |none=>
   refine .inl (.inr ⟨{cls:=.type "list",data:=.seq vs.toArray},?_⟩);unfold jE;rw[if_neg haT,if_pos ⟨rfl,hk⟩]
  |some o=>
   have e:=KX a o hk;rw[ha]at e;cases e;exact .inr ⟨_,vs.toArray,_,hk,rfl,rfl,rfl,by rw[ay,lenV];exact hl,by simpa using rv⟩
 have hM:Mod K mg (zH s₁.heap (jE K tabs a vs ns)):=⟨hKb,nsK hns,⟨mb,nsK hb,hbb⟩,let⟨mc,h1,h2⟩:=hlim;⟨mc,nsK h1,h2⟩⟩;have e0:Env0 P w K mg (zH s₁.heap (jE K tabs a vs ns)) Dh [] s₁ (jE K tabs a vs ns):=⟨rfl,hM,fun b o e=>of_hidT e,m6 (Ei _ _),trivial,fun b hb=>absurd (show b∈([]:List Addr)from hb) (by simp),hok,.of_eq hg⟩;have f0:=F _ hKb (nsK hns) fun b o e h1 h2=>tE e (untr e (.inl h1) (.inl h2));refine lC (f0.run Dh [] s₁ (jE K tabs a vs ns) ⟨[.ref a],[]⟩ [.ref a] [.ref a] _ _ hr e0 (hbind s₁ (.ref a)) (.cons rfl .nil) (hsp _ tabH hS)) fun r s' h=>?_;cases r with
 |error e=>exact(hCX _ e s' h).elim
 |ok fl=>
  cases fl with
  |next =>exact kE h
  |brk=>exact kE h
  |cont=>exact kE h
  |ret u=>
   obtain⟨v,H',os,bare,un,hok',r',q⟩:=h;have q':v=.bl true:=q;subst q';obtain rfl:u=yt true:=r';have kept:∀b o,s₁.heap.get? b=some o->b∉tabs->s'.heap.get? b=some o:=fun b o e nt=>by
    rcases cases3 b with⟨z,_⟩ |⟨rfl,_,z⟩ |z
    ·exact absurd z nt
    ·have z2:=un.frzs b _ _ z
     obtain⟨e2,_⟩:=hok' b _ z2;rw[ha]at e;cases e;exact e2
    ·exact un.keep b o e z (by intro z;exact absurd (show b∈([]:List Addr)from z) (by simp)) (by simp)
   have grown:∀b∈tabs,∃more,s'.heap.get? b=some (tabObj (#[]++more)):=fun b hb=>by
    obtain⟨more,z⟩:=un.tbls b _ (tabH b hb);exact⟨more,hok' b _ z⟩
   refine⟨rfl,⟨fun b o e=>?_,fun b o e=>?_⟩,os,bare⟩
   ·by_cases hb:b∈tabs
    ·obtain⟨e1,ct,_⟩:=hT b hb
     rw[e]at e1;cases e1;obtain⟨more,z⟩:=grown b hb;exact .inr (.inl ⟨ct,rfl,#[],more,rfl,z⟩)
    ·exact .inl (kept b o e hb)
   ·by_cases hb:b∈tabs
    ·obtain⟨more,z⟩:=grown b hb
     exact⟨_,z⟩
    ·exact⟨o,kept b o e hb⟩
theorem bm_of{mg:Str->Option Value}{h:Heap}(hg:h.Ns bM mg)(hb:∃bm ob,mg "__builtins__"=some (.ref bm)/\bm≠lN/\h.get? bm=some ob/\ob.cls=.type "module"/\ob.dict=some lN/\ob.data=.plain):BM mg h:=by
 obtain⟨bm,ob,b1,b2,b3,b4,b5,b6⟩:=hb;refine⟨bm,ob,b1,b2,fun q=>?_,b3,b4,b5,b6⟩;obtain⟨o,es,ep,e,hd,_⟩:=hg;rw[q,e]at b3;cases b3;rw[hd]at b6;cases b6
theorem E9{l:PySem.W.OpenLaw}{n k:Nat}{q:Program}{loose:List Str}{XP:(Str->Option Value)->Heap->Prop}{YP:World->Heap->Prop}{d:DefRec}{K:Params->af}{CX:CXT}{sp:af->Sp}{x:Str}{tabs:List Addr}
  (hn:l.most=some n)(hn2:n<=sizeLine)(hdf:d.params.defaults=[])(hr:kA k Dh)(hY:∀(w:World)(h:Heap),YP w h->(K w.params).In h)
  (hT:∀(w:World)(s₀:Shared)(mg mb:Str->Option Value)(h:Heap),Ground q loose [] XP w s₀ mg mb h->YP w h->∀p∈tabs,h.get? p=some (tabObj #[])/\isCodeTable h p/\(K w.params).lookup p=none)
  (F:∀(w:World)(mg:Str->Option Value)(fa:Addr)(h:Heap),(K w.params).In h->h.Ns bM mg->mg d.name=some (.ref fa)->
   ∃fd:gH,(∀(s:Shared)(u:Value),BindsTo s fd ⟨[u],[]⟩ [(x,u)])/\
    ∀base:Heap,(K w.params).In base->base.Ns bM mg->BM mg base->jH l.prog w (K w.params) mg base CX k fa fd [x] (sp (K w.params)))
  (hsp:∀(K:af)(H:Hp)(a:Addr)(ns:List Int),ns.length<=n->(∀p∈tabs,H p=some (.tbl #[]))->SqL K H a (ns.map V.int)->sp K [.ref a] H (fun v _=>v=.bl true) fun _ _ _=>False)
  (hCX:∀(H:Hp)(s:Shared)(e:Value)(s':Shared),CX [] H s (fun _ _ _=>False) e s'->False):
  PySem.W.WalkO q loose XP YP l.row.toRowW d [] (fun f vs=>PySem.call f vs):=by
 refine Att.Ab hn hdf fun w s₀ s₁ mg mb fa o pm cd doc a vs ns G Y ho hd hcd hmg hobj hints hlen hg=>?_;have KX:=hY w _ Y;obtain⟨fd,hb,hF⟩:=F w mg fa _ KX G.T.g hmg;have hbm:=bm_of G.T.g G.T.bmain;refine Ea KX G.T.g G.T.b G.T.builtins G.T.nolimit hg hobj hints (ba hlen hn2) hr (hT w s₀ mg mb _ G Y) (fun base k1 k2 k3=>hF base k1 k2 ?_) hb (fun H t S=>hsp _ H a ns hlen t S) fun H e s'=>hCX H s₁ e s';obtain⟨bm,ob,b1,b2,b0,b3,b4,b5,b6⟩:=hbm;exact⟨bm,ob,b1,b2,b0,k3 bm ob b3 (by rw[b4];nofun) (by rw[b4];decide),b4,b5,b6⟩
end Lm
namespace Cp
open PySem PySem.Spec PyProof.Rows L2 R Lm
noncomputable def oH:List Str:=["table"]
noncomputable def ji:List Str:=["table","ordered"]
noncomputable def ku:CS:=.expr (.call "need_table" (.cons (.var 0) .nil))
noncomputable def kq:CB:=.cons (.ret (.comp ["name","readings"] [] (.tup (.cons (.name 0) (.cons (.name 1) .nil))) (.seq (.var 1)) .no (.tup (.cons (.var 0) (.cons (.bfn .tuple (.cons (.bfn .list (.cons (.var 1) .nil)) .nil)) .nil))))) .nil
theorem _root_.Lm.Gr.free{T:Tb}{H H':Hp}(g:Gr T H H')(t:Tab T H){l:Addr}(h:H' l=none):H l=none:=by
 cases e:H l with
 |none=>rfl
 |some o=>
  by_cases n:l=T.P
  ·rcases g.tab t with z|⟨_,_,_,_,_,z,_⟩
   ·rw[n,z]at h;cases h
   ·rw[n,z]at h;cases h
  ·rw[g.keep l o n e]at h;cases h
noncomputable def srt(H:Hp):V->List V
 |.ref a=>match eD (H a)with
  |some ys=>_root_.Q.sortBy .non (ys.map (aW H)) ys
  |none=>[]
 |_=>[]
noncomputable def Copied(H H':Hp)(us zs:List V):Prop:=zs.length=us.length/\∀(i:Nat) z,zs[i]? =some z->∃b r,z=.ref b/\H' b=some (.tup [.str (aW H (us.getD i .non)),.ref r])/\H' r=some (.tup (p8 H (us.getD i .non)))
noncomputable def wU(C:Addr)(T:Tb):Sp:=fun vs H Q E=>∃x,vs=[x]/\Kn4 H x/\Tab T H/\(dR H x=true->∀H' l zs,Gr T H H'->H l=none->H' l=some (.lst zs)->Copied H H' (srt H x) zs->Q (.ref l) H')/\(dR H x=false->∀H',aS H H'->E (.ref C) none H')
theorem tk_of{H H':Hp}(s:aS H H'):∀{xs:List V},(∀y∈xs,dk H y=true)->_root_.Q.mK H' xs (xs.map (aW H))
 | [],_=>.nil
 |y::xs,h=>by
  obtain⟨a,b,e,h1,_⟩:=jW (h y (.head _));exact .cons ⟨a,_,e,s _ _ h1⟩ (tk_of s fun z hz=>h z (.tail _ hz))
theorem uD{G:Gam}{K:af}{C:Addr}{T:Tb}(g1:G.fn "need_table" 1=some (wQ C,[])):
  ∀vs H Q E,wU C T vs H Q E->uI (R.wpS G K (fun _=>E) ku) (uI (wM (se K T (wpE G K (fun _=>E) (.var 0))) (l7 1)) (wpB G K (fun _=>E) kq)) {nx:=fun _ H'=>Q .non H',rt:=Q} (L2.start ji vs) H:=by
 rintro vs H Q E ⟨x,rfl,hk,tb,q1,q2⟩;unfold ku kq;change uI _ _ _ [some x,none] H;unfold se;walk_at "wp";refine⟨_,_,g1,x,rfl,hk,fun e H1 s1=>?_,q2⟩;obtain⟨a,ys,rfl,h1,h2,h3,h4,h5⟩:=eT e;have tb1:Tab T H1:=(Gr.of s1).tab tb;refine⟨a,ys,ys.map (aW H),rfl,s1.seq (kU h1),by rw[ai];omega,h4,tk_of s1 h3,tb1,fun H2 l gr hl=>?_⟩;have eu:srt H (.ref a)=_root_.Q.sortBy V.non (ys.map (aW H)) ys:=by
  show(match eD (H a)with |some ys=>_root_.Q.sortBy V.non (ys.map (aW H)) ys|none=>[])=_;rw[h1]
 have zp:(_root_.Q.sortBy V.non (ys.map (aW H)) ys).Perm ys:=_root_.Q.gc V.non h4 (by simp);have q0:=q1 e;rw[eu]at q0;generalize _root_.Q.sortBy V.non (ys.map (aW H)) ys=us at zp q0⊢;have gr0:Gr T H (upd H2 l (.lst us)):=(Gr.of s1).trans (gr.trans (Gr.of (az hl)));have el:upd H2 l (.lst us) l=some (.lst us):=aw;generalize upd H2 l (.lst us)=H3 at gr0 el⊢;have hul:us.length<=40:=by rw[zp.length_eq];exact h2
 refine dA (dB rfl (SqL.of el) (di eL (ba hul (by decide)) (fun H4 s4=>SqL.of (s4 _ _ el)) (fun i v H'=>∃b r,v=V.ref b/\H' b=some (.tup [.str (aW H (us.getD i .non)),.ref r])/\H' r=some (.tup (p8 H (us.getD i .non))))
  (fun i v H4 H5 s5 ⟨b,r,z1,z2,z3⟩=>⟨b,r,z1,s5 _ _ z2,s5 _ _ z3⟩) (fun τ=>∃t u,τ=[t,u]) ⟨none,none,rfl⟩ ?_ ?_))
 ·rintro j y τ H4 R hi ⟨t,u,rfl⟩ s4 hy k
  have hm:y∈ys:=zp.mem_iff.mp (aG hy);obtain⟨b,c,rfl,k1,k2,k3,k4⟩:=jW (h3 y hm);have f1:=s4 _ _ (gr0.yP tb k1);have f2:=s4 _ _ (gr0.yP tb k2);refine⟨b,_,rfl,SqT.of f1,rfl,_,_,rfl,_,_,rfl,rfl,?_⟩;walk_at "wp";refine⟨c,_,rfl,.inr (SqT.of f2),fun l1 hl1=>⟨l1,_,rfl,.inl ⟨SqL.of aw,fun r hr=>⟨ba (by simp :_<=2) (by decide),fun p hp=>k _ _ _ ⟨_,_,rfl⟩ ((az hl1).trans ((az hr).trans (az hp))) ?_⟩⟩⟩⟩;rw[getD_some hy];exact⟨p,r,rfl,aw,by rw[bh (ck aw hp)];exact aw⟩
 ·intro vs H4 l2 hvl hF s4 hl2
  have gr4:Gr T H H4:=gr0.trans (Gr.of s4);have s5:aS H4 (upd H4 l2 (.lst vs)):=az hl2;refine q0 _ l2 vs (gr4.trans (Gr.of s5)) (gr4.free tb hl2) aw ⟨hvl,fun i z hz=>?_⟩;obtain⟨b,r,z1,z2,z3⟩:=hF i z hz;exact⟨b,r,z1,s5 _ _ z2,s5 _ _ z3⟩
end Cp
namespace K22
open PySem R
noncomputable def p_clash:List Str:=["table"]
noncomputable def Ct:List Str:=["table","copies","count","one","other","names"]
noncomputable def v7:CB:=
  (.cons (.ret (.con .none))
  .nil)
noncomputable def v8:CB:=
  (.cons (.forr (.name 3) (.range1 (.var 2))
  (.cons (.forr (.name 4) (.range2 (.bin .Add (.var 3) (.con (.int 1))) (.var 2))
  (.cons (.asg (.name 5) (.call "first_of_kinds" (.cons (.var 1) (.cons (.var 3) (.cons (.var 4) .nil)))))
  (.cons (.iff (.cmp .IsNot (.var 5) (.con .none))
  (.cons (.ret (.tup (.cons (.var 3) (.cons (.var 4) (.cons (.var 5) .nil)))))
  .nil)
  .nil)
  .nil)))
  .nil))
  v7)
noncomputable def v9:CB:=
  (.cons (.asg (.name 2) (.call "place_count" (.cons (.var 1) .nil)))
  v8)
noncomputable def C9:CB:=
  (.cons (.asg (.name 1) (.call "table_list" (.cons (.var 0) .nil)))
  v9)
end K22
namespace K22
open PySem PySem.Spec PyProof.Rows L2 R Cp Lt Kc K21 Lm
noncomputable def cd(H:Hp)(y:V):Str×List V:=(aW H y,p8 H y)
noncomputable def DT(i:Int)(p:Str×List V):Int:=match p.2.getD i.toNat .non with
 |.int n=>n
 |_=>0
noncomputable def isK(i j:Int)(k:Int×Int)(p:Str×List V):Bool:=decide (DT i p=k.1/\DT j p=k.2)
noncomputable def oX(rows:List (Str×List V))(i j:Int):Bool:=KP.all fun k=>rows.any (isK i j k)
noncomputable def Cr(rows:List (Str×List V))(i j:Int)(k:Int×Int):Str:=((rows.find? (isK i j k)).map (·.1)).getD ""
theorem CN{H:Hp}{xs:List V}{i j:Int}:kc H xs i j=oX (xs.map (cd H)) i j:=by
 unfold kc oX;congr 1;funext k;rw[List.any_map];rfl
theorem GO{H:Hp}{xs:List V}{i j:Int}(h:kc H xs i j=true):KP.map (firstOf H xs i j)=(KP.map (Cr (xs.map (cd H)) i j)).map V.str:=by
 rw[bg];refine cm fun k hk=>?_;have hall:xs.any (fun y=>decide (num H i y=k.1/\num H j y=k.2))=true:=by
  unfold kc at h;exact bE.mp h k hk
 have ep:(fun y=>decide (kf H i j y=nW k))=(isK i j k)∘(cd H):=by
  funext y
  exact decide_eq_decide.mpr kf_eq
 show firstOf H xs i j k=V.str (Cr (xs.map (cd H)) i j k);unfold firstOf Cr;rw[ep,List.find?_map];obtain⟨y0,hy0,e0⟩:=cw.mp hall;cases hf:xs.find? ((isK i j k)∘(cd H))with
 |none=>
  rw[kJ]at hf;exact absurd e0 (hf y0 hy0)
 |some y=>rfl
structure First(rows:List (Str×List V))(n i j:Nat):Prop where
 ij:i<j
 jn:j<n
 four:oX rows i j=true
 no:∀a b:Nat,a<b->b<n->(a<i\/a=i/\b<j)->oX rows a b=false
noncomputable def NoC(rows:List (Str×List V))(n:Nat):Prop:=∀a b:Nat,a<b->b<n->oX rows a b=false
noncomputable def Res(H:Hp)(rows:List (Str×List V))(n:Nat)(v:V):Prop:=(v=.non/\NoC rows n)\/∃(i j:Nat)(a l:Addr),v=.ref a/\First rows n i j/\H a=some (.tup [.int i,.int j,.ref l])/\H l=some (.tup ((KP.map (Cr rows i j)).map V.str))
noncomputable def rowsOf(H:Hp)(x:V):List (Str×List V):=(srt H x).map (cd H)
theorem A2{H:Hp}{b r:Addr}{z:Str}{zs:List V}(h1:H b=some (.tup [.str z,.ref r]))(h2:H r=some (.tup zs)):cd H (.ref b)=(z,zs):=by
 have e1:aW H (.ref b)=z:=by
  show(match dF (H b)with |some (.str z::_)=>z|_=>("":Str))=_;rw[h1];rfl
 have e2:p8 H (.ref b)=zs:=by
  show(match dF (H b)with |some [_,.ref b]=>(dF (H b)).getD [] |_=>[])=zs;rw[h1];show(dF (H r)).getD []=zs;rw[h2];rfl
 unfold cd;rw[e1,e2]
theorem rF{H:Hp}{t:Addr}{ys:List V}(h:eD (H t)=some ys):srt H (.ref t)=_root_.Q.sortBy .non (ys.map (aW H)) ys:=by
 show(match eD (H t)with |some ys=>_root_.Q.sortBy V.non (ys.map (aW H)) ys|none=>[])=_;rw[h]
theorem DY{H:Hp}{x:V}(h:dk H x=true):iB (aW H x)=true:=by
 obtain⟨_,_,_,_,_,_,_,h4,_,_,h7,_⟩:=gZ h;rw[h7];exact h4
theorem tM{H H':Hp}{x:V}{l:Addr}{zs:List V}(e:dR H x=true)(el:H' l=some (.lst zs))(c:Copied H H' (srt H x) zs):
  Kn4 H' (.ref l)/\dR H' (.ref l)=true/\count H' (.ref l)=count H x/\zs.map (cd H')=rowsOf H x:=by
 obtain⟨a,ys,rfl,h1,h2,h3,h4,h5⟩:=eT e;have eu:=rF h1;have zp:(srt H (.ref a)).Perm ys:=by rw[eu];exact _root_.Q.gc V.non h4 (by simp)
 unfold rowsOf;generalize srt H (.ref a)=us at c zp⊢;have hul:us.length<=40:=by rw[zp.length_eq];exact h2
 have hu:∀u∈us,dk H u=true/\cG H u=count H (.ref a):=fun u hm=>⟨h3 u (zp.mem_iff.mp hm),h5 u (zp.mem_iff.mp hm)⟩;have nd:(us.map (aW H)).Nodup:=(zp.map (aW H)).nodup_iff.mpr h4;have get:∀{i:Nat}{z:V},zs[i]? =some z->us[i]? =some (us.getD i .non)/\us.getD i .non∈us:=fun{i z} hz=>by
  have hi:i<us.length:=by
   have :=(aF.mp hz).1
   rw[<-c.1];exact this
  have e:us[i]? =some (us.getD i .non):=by rw[ag,ae hi];rfl
  exact⟨e,aG e⟩
 let nf:Nat->Str:=fun i=>if i<us.length then aW H (us.getD i .non)else "a"
 have hnf:∀i,iB (nf i)=true:=fun i=>by
  show iB (if i<us.length then aW H (us.getD i .non)else "a")=true;split
  ·rename_i hi
   have e:us[i]? =some (us.getD i .non):=by rw[ag,ae hi];rfl
   exact DY (hu _ (aG e)).1
  ·decide+kernel
 have dr:Dr H' nf (count H (.ref a)) zs:=fun i z hz=>by
  obtain⟨b,r,hb,h6,h7⟩:=c.2 i z hz;obtain⟨g1,g2⟩:=get hz;have hi:i<us.length:=(aF.mp g1).1;obtain⟨c1,c2⟩:=hu _ g2;obtain⟨_,_,_,_,_,k3,k4⟩:=jW c1;refine⟨b,r,_,hb,?_,h7,by rw[k3,c2],k4⟩;show H' b=some (.tup [.str (if i<us.length then aW H (us.getD i .non)else "a"),.ref r]);rw[if_pos hi];exact h6
 have hn60:ys=[]\/count H (.ref a)<=60:=by
  cases ys with
  |nil=>exact .inl rfl
  |cons y r=>
   right
   rw[<-h5 y (.head _)];obtain⟨_,_,_,_,_,_,_,_,h60,_,_,h8⟩:=gZ (h3 y (.head _));rw[h8];exact h60
 have hinj:∀i j,i<zs.length->j<zs.length->nf i=nf j->i=j:=fun i j hi hj e=>by
  rw[c.1]at hi hj;have e':(if i<us.length then aW H (us.getD i .non)else "a")=(if j<us.length then aW H (us.getD j .non)else "a"):=e;rw[if_pos hi,if_pos hj]at e';have g:∀k (hk:k<us.length),(us.map (aW H))[k]'(by simpa using hk)=aW H (us.getD k .non):=fun k hk=>by
   rw[cJ,ag,ae hk];rfl
  rw[<-g i hi,<-g j hj]at e';exact(dY nd).mp e'
 have hz0:zs=[]↔us=[]:=by
  rw[<-aX,c.1,aX]
 have map_eq:zs.map (cd H')=us.map (cd H):=by
  apply gB
  intro i;rw[ak,ak];cases hz:zs[i]? with
  |none=>
   have :us.length<=i:=by
    have :=Ak.mp hz
    rw[c.1]at this;exact this
   rw[bB this];rfl
  |some z=>
   obtain⟨b,r,rfl,h6,h7⟩:=c.2 i z hz;rw[(get hz).1];show some (cd H' (.ref b))=some (cd H (us.getD i .non));rw[A2 h6 h7];rfl
 rcases hn60 with hy|hn60
 ·have hus:us=[]:=by rw[hy]at zp;exact List.perm_nil.mp zp
  have hzs:=hz0.mpr hus;subst hzs;have dr0:Dr H' nf 0 []:=fun i y e=>by simp at e
  obtain⟨t1,t2,_,_⟩:=tJ hnf (fun i j hi=>absurd hi (by simp)) el dr0 (by simp) (by decide);refine⟨t1,t2,?_,map_eq⟩;have e1:count H' (.ref l)=0:=by
   show(match eD (H' l)with |some (y::_)=>cG H' y|_=>0)=0;rw[el];rfl
  have e2:count H (.ref a)=0:=by
   show(match eD (H a)with |some (y::_)=>cG H y|_=>0)=0;rw[h1,hy]
  rw[e1,e2]
 ·obtain⟨t1,t2,_,t4⟩:=tJ hnf hinj el dr (by rw[c.1];exact hul) hn60
  refine⟨t1,t2,?_,map_eq⟩;cases zs with
  |nil=>
   have hus:=hz0.mp rfl;have hy:ys=[]:=by rw[hus]at zp;exact List.nil_perm.mp zp
   have e1:count H' (.ref l)=0:=by
    show(match eD (H' l)with |some (y::_)=>cG H' y|_=>0)=0;rw[el];rfl
   have e2:count H (.ref a)=0:=by
    show(match eD (H a)with |some (y::_)=>cG H y|_=>0)=0;rw[h1,hy]
   rw[e1,e2]
  |cons z r=>
   show(match eD (H' l)with |some (y::_)=>cG H' y|_=>0)=_;rw[el];exact t4 z (.head _)
noncomputable def wZ(C:Addr)(T:Tb):Sp:=fun vs H Q E=>∃x,vs=[x]/\Kn4 H x/\Tab T H/\(dR H x=true->∀H' v,Gr T H H'->Res H' (rowsOf H x) (count H x) v->Q v H')/\(dR H x=false->∀H',aS H H'->E (.ref C) none H')
theorem E7{G:Gam}{K:af}{C:Addr}{T:Tb}(g1:G.fn "table_list" 1=some (wU C T,[]))(g2:G.fn "place_count" 1=some (wY C,[]))(g3:G.fn "first_of_kinds" 3=some (wX,[])):
  Sat G K (wZ C T) C9 Ct:=by
 rintro vs H Q E ⟨x,rfl,hk,tb,q1,q2⟩;unfold C9 v9;change wpB G K _ _ _ [some x,none,none,none,none,none] H;walk_at "wp";refine⟨_,_,g1,x,rfl,hk,tb,fun e H1 l zs gr hl el cpd=>?_,q2⟩;obtain⟨kn,tt,ct,rows⟩:=tM e el cpd;have qq:=q1 e;generalize rowsOf H x=rw0 at rows qq;generalize hn:count H x=n at ct qq;refine⟨_,_,g2,.ref l,rfl,kn,fun _ H2 s2=>?_,fun z=>by rw[tt]at z;cases z⟩;rw[ct];have hx:eD (H1 l)=some zs:=by rw[el];rfl
 have pl:∀z:Nat,z<n->isPlace H1 (.ref l) (.int z)=true:=fun z hz=>decide_eq_true ⟨by omega,by omega⟩;have hn60:n<=60:=by
  obtain⟨a',xs',ea,f1,f2,f3,f4,f5⟩:=eT tt;cases ea;rw[hx]at f1;cases f1;rw[<-ct];cases zs with
  |nil=>
   show(match eD (H1 l)with |some (y::_)=>cG H1 y|_=>0)<=60;rw[el];exact a7 _
  |cons y r=>
   rw[<-f5 y (.head _)];obtain⟨_,_,_,_,_,_,_,_,h60,_,_,h8⟩:=gZ (f3 y (.head _));rw[h8];exact h60
 unfold v8;walk_at "wp";refine jb ?_;walk_at "wp";refine⟨(n:Int),rfl,by omega,by omega,?_⟩;refine iC dP (fun i σ H'=>aS H1 H'/\(∀a b:Nat,a<i->a<b->b<n->oX rw0 a b=false)/\∃u v w,σ=[some x,some (.ref l),some (.int n),u,v,w])
  ⟨s2,fun a b h=>absurd h (by omega),none,none,none,rfl⟩ (fun _ _ _ _ _=>trivial) ?_ ?_
 ·rintro i y σ H3 H4 D2 hi ⟨s3,no,u,v,w,rfl⟩ rfl s4 hD2 hr2
  have hi':i<n:=by omega
  walk_at "wp"
  simp only[d7];refine jb ?_;walk_at "wp";refine⟨_,_,rfl,⟨by omega,by omega,by omega,by omega⟩,?_⟩;refine iC dP (fun m σ H'=>aS H1 H'/\(∀b:Nat,i<b->b<i+1+m->oX rw0 i b=false)/\∃v w,σ=[some x,some (.ref l),some (.int n),some (.int i),v,w])
   ⟨s3.trans s4,fun b h1 h2=>absurd h2 (by omega),_,_,rfl⟩ (fun _ _ _ _ _=>trivial) ?_ ?_
  ·rintro m y σ H5 H6 D3 hm ⟨s5,no2,v,w,rfl⟩ rfl s6 hD3 hr3
   have hj:i+1+m<n:=by omega
   have ej:(i:Int)+1+(m:Int)=((i+1+m:Nat):Int):=by omega
   walk_at "wp"
   rw[ej];generalize hjj:i+1+m=j at hj no2⊢;have s7:aS H1 H6:=s5.trans s6;refine⟨_,_,g3,l,zs,i,j,H1,rfl,s7,tt,hx,pl i hi',pl j hj,fun f H7 s8=>?_,fun f H7 p s8 hp ep=>?_⟩
   ·show if(!decide (V.non=V.non))=true then _ else _
    rw[if_neg (by simp)];refine hD3 _ _ ⟨s7.trans s8,fun b h1 h2=>?_,_,_,rfl⟩;by_cases hb:b=j
    ·rw[hb,<-rows,<-CN]
     exact f
    ·exact no2 b h1 (by omega)
   ·show if(!decide (V.ref p=V.non))=true then _ else _
    rw[if_pos (by simp)];refine⟨short (by simp),fun a ha=>?_⟩;rw[hr3,hr2];refine qq _ _ (gr.trans (Gr.of (s7.trans (s8.trans (az ha))))) (.inr ⟨i,j,a,p,rfl,⟨by omega,hj,by rw[<-rows,<-CN];exact f,fun a' b' h1 h2 h3=>?_⟩,aw,?_⟩)
    ·rcases h3 with h3|⟨rfl,h3⟩
     ·exact no a' b' h3 h1 h2
     ·exact no2 b' h1 (by omega)
    ·rw[az ha _ _ ep,GO f,rows]
  ·rintro σ H5 ⟨s5,no2,v,w,rfl⟩
   refine hD2 _ _ ⟨s5,fun a b h1 h2 h3=>?_,_,_,_,rfl⟩;by_cases ha:a=i
   ·subst ha
    exact no2 b h2 (by omega)
   ·exact no a b (by omega) h2 h3
 ·rintro σ H3 ⟨s3,no,u,v,w,rfl⟩
  unfold v7;walk_at "wp";exact qq H3 .non (gr.trans (Gr.of s3)) (.inl ⟨rfl,fun a b h1 h2=>no a b (by simp;omega) h1 h2⟩)
theorem sY{α β:Type}{f:α->β}{ys:List α}(hf:∀a∈ys,∀b∈ys,f a=f b->a=b):∀{l m:List α},(∀a∈l,a∈ys)->(∀a∈m,a∈ys)->l.map f=m.map f->l=m
 | [],[],_,_,_=>rfl
 | [],_::_,_,_,e=>by simp at e
 |_::_,[],_,_,e=>by simp at e
 |a::l,b::m,h1,h2,e=>by
  rw[bp,bp]at e;injection e with e1 e2
  rw[hf a (h1 a (.head _)) b (h2 b (.head _)) e1,sY hf (fun x hx=>h1 x (.tail _ hx)) (fun x hx=>h2 x (.tail _ hx)) e2]
theorem DW{α β:Type}{f:α->β}{ys:List α}(nd:(ys.map f).Nodup):∀a∈ys,∀b∈ys,f a=f b->a=b:=fun a ha b hb e=>by
 obtain⟨i,hi,rfl⟩:=dz.mp ha;obtain⟨j,hj,rfl⟩:=dz.mp hb;have e':(ys.map f)[i]'(by simpa using hi)=(ys.map f)[j]'(by simpa using hj):=by rw[cJ,cJ];exact e
 have :=(dY nd).mp e'
 subst this;rfl
end K22
namespace Q
open PySem PySem.Spec PySem.W PyProof.Rows L2
theorem qb{ns:List Int}(nd:ns.Nodup):(oI ns).Perm (aq ns.length):=by
 unfold oI;split
 ·exact dW _
 ·have P:=(fv (Du nd) (by omega)).1
  have :=gI.mp P.perm
  simpa using this
theorem zm{ns:List Int}(nd:ns.Nodup)(h2:¬ns.length<2):(oI ns).Pairwise fun i j=>ltI ns i j=true:=by
 unfold oI;rw[if_neg h2];obtain⟨P,U,_⟩:=fv (Du nd) (by omega:1<=ns.length);rw[eY];intro i j hi hj hij;have hj':j<ns.length:=by simpa[P.size]using hj
 have u:=U i j hij hj';have e:∀(k:Nat)(hk:k<(run (ltI ns) (cV ns.length)).toList.length),(run (ltI ns) (cV ns.length)).toList[k]=at' (run (ltI ns) (cV ns.length)) k:=fun k hk=>by
  have hk':k<(run (ltI ns) (cV ns.length)).size:=by simpa using hk
  simp[at',hk']
 rw[e,e];exact u
end Q
namespace M3
open PySem
theorem and_nat(m n:Nat):iP (m:Int) (n:Int)=((m&&& n:Nat):Int):=by
 unfold iP;simp
theorem xor_bit{a b:Int}(ha:a=0\/a=1)(hb:b=0\/b=1):jQ a b=if a=b then 0 else 1:=by
 rcases ha with rfl|rfl<;>rcases hb with rfl|rfl<;>decide
noncomputable def num:List Bool->Nat->Nat
 | [],n=>n
 |b::bs,n=>num bs (n*2+b.toNat)
theorem sJ:∀(bs:List Bool)(b:Bool)(n:Nat),num (bs++[b]) n=num bs n*2+b.toNat
 | [],_,_=>rfl
 |c::bs,b,n=>sJ bs b _
theorem Cn:∀(bs:List Bool)(i:Nat),(num bs.reverse 0).testBit i=(bs[i]?).getD false
 | [],i=>by simp[num]
 |b::bs,i=>by
  rw[List.reverse_cons,sJ];cases i with
  |zero=>
   rw[Nat.testBit_zero];cases b<;>simp <;>omega
  |succ i=>
   rw[Nat.testBit_succ];have e:(num bs.reverse 0*2+b.toNat)/2=num bs.reverse 0:=by
    have hb:b.toNat<=1:=by cases b<;>decide
    omega
   rw[e,Cn bs i];simp
theorem and_sub{m n:Nat}:m&&& n=n↔∀i,n.testBit i=true->m.testBit i=true:=by
 constructor
 ·intro h i hi
  rw[<-h,Nat.testBit_and]at hi;exact(aL _ _▸hi).1
 ·intro h
  apply pJ
  intro i;rw[Nat.testBit_and];cases hn:n.testBit i with
  |true=>rw[h i hn];rfl
  |false=>simp
end M3
namespace M4
open Q
noncomputable def bl(f:Nat->Int)(n:Nat)(P:Nat->Bool):List Int:=(aq n).map fun p=>if P p=true then 1-f p else f p
theorem iE(f:Nat->Int)(n:Nat)(P:Nat->Bool):(bl f n P).length=n:=by simp[bl]
theorem iF{f:Nat->Int}{n:Nat}{P Q:Nat->Bool}(h:bl f n P=bl f n Q)(hf:∀p,p<n->f p=0\/f p=1){p:Nat}(hp:p<n):P p=Q p:=by
 have e:(bl f n P)[p]? =(bl f n Q)[p]? :=by rw[h]
 simp[bl,hp]at e;rcases hf p hp with z|z<;>cases hP:P p<;>cases hQ:Q p<;>simp[hP,hQ,z]at e⊢
noncomputable def sub(grp:Nat->Nat)(g p:Nat):Bool:=decide (grp p&&& g=g)
noncomputable def above(grp:Nat->Nat)(g p:Nat):Bool:=decide (grp p&&& g=g/\grp p≠g)
variable {f:Nat->Int}{n:Nat}{grp:Nat->Nat}(hf:∀p,p<n->f p=0\/f p=1)
include hf
theorem Aa{p:Nat}(hp:p<n):bl f n (sub grp (grp p))≠bl f n fun _=>false:=fun h=>by
 have :=iF h hf hp
 simp[sub]at this
theorem z9{p q:Nat}(hp:p<n)(hq:q<n)(hne:grp p≠grp q):bl f n (sub grp (grp p))≠bl f n (sub grp (grp q)):=fun h=>by
 have a:=iF h hf hp;have b:=iF h hf hq;simp[sub]at a b;exact hne (by rw[<-b,Nat.and_comm,a])
theorem HY{p q:Nat}(hp:p<n)(hq:q<n)(h1:bl f n (sub grp (grp p))=bl f n (above grp (grp q)))(h2:bl f n (sub grp (grp q))=bl f n (above grp (grp p))):False:=by
 have a:=iF h1 hf hp;have b:=iF h2 hf hq;simp[sub,above]at a b;exact a.2 (by rw[<-b.1,Nat.and_comm,a.1])
theorem B7{p:Nat}(hp:p<n):bl f n (above grp (grp p))≠bl f n (sub grp (grp p)):=fun h=>by
 have :=iF h hf hp
 simp[sub,above]at this
noncomputable def lo(a b:List Int):List Int:=if llt b a=true then b else a
noncomputable def hi(a b:List Int):List Int:=if llt a b=true then b else a
omit hf in
theorem lohi{a b c d:List Int}(h1:lo a b=lo c d)(h2:hi a b=hi c d)(nab:a≠b)(ncd:c≠d):(a=c/\b=d)\/(a=d/\b=c):=by
 have t1:=iT (cb nab);have t2:=iT (cb ncd);unfold lo at h1;unfold hi at h2;rw[t1,t2]at h1;cases x:llt a b<;>cases y:llt c d<;>rw[x,y]at h1 h2<;>simp only[Bool.not_false,dJ,if_true,aE,if_false]at h1 h2
 ·exact .inl ⟨h2,h1⟩
 ·exact .inr ⟨h2,h1⟩
 ·exact .inr ⟨h1,h2⟩
 ·exact .inl ⟨h1,h2⟩
theorem wa{p q:Nat}(hp:p<n)(hq:q<n)(hne:grp p≠grp q):
  lo (bl f n (above grp (grp p))) (bl f n (sub grp (grp p)))++hi (bl f n (above grp (grp p))) (bl f n (sub grp (grp p)))≠
  lo (bl f n (above grp (grp q))) (bl f n (sub grp (grp q)))++hi (bl f n (above grp (grp q))) (bl f n (sub grp (grp q))):=fun h=>by
 have len:∀P Q:Nat->Bool,(lo (bl f n P) (bl f n Q)).length=n:=fun P Q=>by unfold lo;split <;>exact iE _ _ _
 obtain⟨h1,h2⟩:=List.append_inj h ((len _ _).trans (len _ _).symm);rcases lohi h1 h2 (B7 hf hp) (B7 hf hq)with⟨_,z⟩ |⟨z1,z2⟩
 ·exact z9 hf hp hq hne z
 ·exact HY hf hp hq z2 z1.symm
end M4
namespace Q
open L2
theorem Dy{ns:List Int}(nd:ns.Nodup):∃qs:List Int,sortI ns=qs.map V.int/\qs.Perm ns:=by
 refine⟨(oI ns).map fun i=>ns.getD i 0,?_,?_⟩
 ·unfold sortI
  rw[bg];refine cm fun i hi=>?_;have hi':i<ns.length:=aK.mp ((qb nd).mem_iff.mp hi);show(ns.map V.int).getD i .non=V.int (ns.getD i 0);rw[ag,ag,ak,ae hi'];rfl
 ·have h:=(qb nd).map fun i=>ns.getD i 0
  rw[range_getD]at h;exact h
end Q
namespace M5
open M3 M4 Q L2
noncomputable def plc(n:Nat)(P:Nat->Bool):List Int:=((aq n).filter P).map fun p:Nat=>(p:Int)
theorem mG{n:Nat}{P:Nat->Bool}{i:Nat}(h:i<n):(i:Int)∈plc n P↔P i=true:=by
 unfold plc;rw[ao];constructor
 ·rintro⟨p,hp,e⟩
  have :p=i:=by omega
  rw[<-this];exact(eE.mp hp).2
 ·intro e
  exact⟨i,eE.mpr ⟨aK.mpr h,e⟩,rfl⟩
noncomputable def trn(zs:List Int)(ms:List Int):List Int:=(aq zs.length).map fun i:Nat=>if(i:Int)∈ms then 1-zs.getD i 0 else zs.getD i 0
theorem Ds{zs:List Int}{P:Nat->Bool}:trn zs (plc zs.length P)=bl (fun p=>zs.getD p 0) zs.length P:=by
 unfold trn bl;refine cm fun i hi=>?_;have hi:=aK.mp hi;by_cases h:P i=true
 ·rw[if_pos ((mG hi).mpr h),if_pos h]
 ·rw[if_neg (fun z=>h ((mG hi).mp z)),if_neg h]
theorem Dc{f:Nat->Int}{n:Nat}{P:Nat->Bool}{i:Nat}(h:i<n):(bl f n P).getD i 0=if P i=true then 1-f i else f i:=by
 unfold bl;rw[ag,ak,a6 h];rfl
theorem trn_bl{f:Nat->Int}{n:Nat}{S E:Nat->Bool}(h:∀p,E p=true->S p=true):trn (bl f n S) (plc n E)=bl f n fun p=>S p&& !E p:=by
 unfold trn;rw[iE];refine cm fun i hi=>?_;have hi:=aK.mp hi;rw[Dc hi];show _=if(S i&& !E i)=true then 1-f i else f i
 cases hE:E i with
 |true=>
  rw[if_pos ((mG hi).mpr hE),h i hE,if_pos rfl];show 1-(1-f i)=if(true&& !true)=true then _ else f i
  rw[if_neg (by simp)];omega
 |false=>
  rw[if_neg (fun z=>by rw[(mG hi).mp z]at hE;cases hE)];cases S i<;>rfl
theorem HD(zs:List Int):bl (fun p=>zs.getD p 0) zs.length (fun _=>false)=zs:=by
 unfold bl;apply cK
 ·simp
 ·intro i h1 h2
  simp[h2]
noncomputable def own(grp:Nat->Nat)(g p:Nat):Bool:=decide (grp p=g)
theorem own_sub{grp:Nat->Nat}{g p:Nat}(h:own grp g p=true):sub grp g p=true:=by
 have :grp p=g:=of_decide_eq_true h;refine decide_eq_true ?_;rw[this];exact ES g
theorem Iq(grp:Nat->Nat)(g:Nat):(fun p=>sub grp g p&& !own grp g p)=above grp g:=by
 funext p
 unfold sub own above;by_cases h1:grp p&&& g=g<;>by_cases h2:grp p=g<;>simp[h1,h2]
noncomputable def nB(f:Nat->Int)(n:Nat)(grp:Nat->Nat)(q:Int):List Int:=bl f n (sub grp q.toNat)
noncomputable def nA(f:Nat->Int)(n:Nat)(grp:Nat->Nat)(q:Int):List Int:=bl f n (above grp q.toNat)
noncomputable def fG(f:Nat->Int)(n:Nat)(grp:Nat->Nat)(qs:List Int):List (List Int):=bl f n (fun _=>false)::qs.map (nB f n grp)
noncomputable def brK(f:Nat->Int)(n:Nat)(grp:Nat->Nat)(qs:List Int):List (List Int×List Int):=qs.map fun q=>(lo (nA f n grp q) (nB f n grp q),hi (nA f n grp q) (nB f n grp q))
noncomputable def Grs(n:Nat)(grp:Nat->Nat)(qs:List Int):Prop:=qs.Nodup/\∀q∈qs,∃p,p<n/\q=(grp p:Int)
section
variable {f:Nat->Int}{n:Nat}{grp:Nat->Nat}{qs:List Int}(hf:∀p,p<n->f p=0\/f p=1)(hq:Grs n grp qs)
include hf hq
theorem GX{β:Type}{F:Int->β}(h:∀p q,p<n->q<n->grp p≠grp q->F (grp p:Int)≠F (grp q:Int)):(qs.map F).Nodup:=by
 refine bQ.mpr ?_;have p:List.Pairwise (fun a b=>a≠b) qs:=hq.1;refine(eG.mp p).imp ?_;rintro a b ⟨ha,hb,hne⟩;obtain⟨x,hx,rfl⟩:=hq.2 a ha;obtain⟨y,hy,rfl⟩:=hq.2 b hb;exact h x y hx hy (fun e=>hne (by rw[e]))
theorem sM:(fG f n grp qs).Nodup:=by
 unfold fG;refine bU.mpr ⟨fun z=>?_,GX hf hq fun p q hp hq' hne=>?_⟩
 ·obtain⟨q,hq',e⟩:=ao.mp z
  obtain⟨p,hp,rfl⟩:=hq.2 q hq';exact Aa hf hp (by unfold nB at e;rw[aP]at e;exact e)
 ·unfold nB
  rw[aP,aP];exact z9 hf hp hq' hne
theorem BN:((brK f n grp qs).map kW).Nodup:=by
 unfold brK;rw[bg];refine GX hf hq fun p q hp hq' hne=>?_;show lo (nA f n grp (grp p:Int)) (nB f n grp (grp p:Int))++hi (nA f n grp (grp p:Int)) (nB f n grp (grp p:Int))≠lo (nA f n grp (grp q:Int)) (nB f n grp (grp q:Int))++hi (nA f n grp (grp q:Int)) (nB f n grp (grp q:Int));unfold nA nB;rw[aP,aP];exact wa hf hp hq' hne
end
theorem DX{f:Nat->Int}{n:Nat}{grp:Nat->Nat}{qs:List Int}:∀k∈fG f n grp qs,k.length=n:=fun k hk=>by
 rcases aB.mp hk with rfl|hk
 ·exact iE _ _ _
 ·obtain⟨q,_,rfl⟩:=ao.mp hk
  exact iE _ _ _
theorem lo_len{a b:List Int}{n:Nat}(ha:a.length=n)(hb:b.length=n):(lo a b).length=n:=by unfold lo;split <;>assumption
theorem hi_len{a b:List Int}{n:Nat}(ha:a.length=n)(hb:b.length=n):(hi a b).length=n:=by unfold hi;split <;>assumption
theorem brK_len{f:Nat->Int}{n:Nat}{grp:Nat->Nat}{qs:List Int}:∀k∈brK f n grp qs,k.1.length=n/\k.2.length=n:=fun k hk=>by
 obtain⟨q,_,rfl⟩:=ao.mp hk;exact⟨lo_len (iE _ _ _) (iE _ _ _),hi_len (iE _ _ _) (iE _ _ _)⟩
theorem rN{n:Nat}{grp:Nat->Nat}{qs:List Int}(h:Grs n grp qs):qs.length<=n:=by
 have e:qs.length<=((aq n).map fun p:Nat=>(grp p:Int)).length:=by
  refine List.Nodup.length_le_of_subset h.1 fun q hq=>?_;obtain⟨p,hp,rfl⟩:=h.2 q hq;exact ao.mpr ⟨p,aK.mpr hp,rfl⟩
 simpa using e
end M5
namespace K32
open PySem R
noncomputable def Bd:List Str:=["copies","place"]
noncomputable def sU:List Str:=["copies","place","first","group","name","readings"]
noncomputable def pq:CB:=
  (.cons (.ret (.var 3))
  .nil)
noncomputable def pz:CB:=
  (.cons (.forr (.tup (.cons (.name 4) (.cons (.name 5) .nil))) (.seq (.var 0))
  (.cons (.asg (.name 3) (.bin .Add (.bin .Mult (.var 3) (.con (.int 2))) (.bin .BitXor (.idx (.var 5) (.var 1)) (.var 2))))
  .nil))
  pq)
noncomputable def pA:CB:=
  (.cons (.asg (.name 3) (.con (.int 0)))
  pz)
noncomputable def ud:CB:=
  (.cons (.asg (.name 2) (.idx (.idx (.idx (.var 0) (.con (.int 0))) (.con (.int 1))) (.var 1)))
  pA)
noncomputable def GA:List Str:=["readings","places"]
noncomputable def zu:List Str:=["readings","places"]
noncomputable def zW:CB:=
  (.cons (.ret (.bfn .tuple (.cons (.comp ["place","reading"] [1] (.tup (.cons (.name 0) (.cons (.name 1) .nil))) (.enumt (.var 0)) .no (.ite (.cmp .In (.var 0) (.var 2)) (.bin .Sub (.con (.int 1)) (.var 1)) (.var 1))) .nil)))
  .nil)
noncomputable def p_grown:List Str:=["copies"]
noncomputable def Cs:List Str:=["copies","first","groups","nodes","branches","group","places","around","below","above"]
noncomputable def vV:CB:=
  (.cons (.ret (.tup (.cons (.bfn .sortl (.cons (.var 3) .nil)) (.cons (.bfn .sortt (.cons (.var 4) .nil)) .nil))))
  .nil)
noncomputable def mh:CB:=
  (.cons (.expr (.meth1 .append (.var 4) (.tup (.cons (.bfn .minl (.cons (.var 9) (.cons (.var 8) .nil))) (.cons (.bfn .maxl (.cons (.var 9) (.cons (.var 8) .nil))) (.cons (.bfn .tuple (.cons (.var 6) .nil)) .nil))))))
  .nil)
noncomputable def mi:CB:=
  (.cons (.expr (.meth1 .append (.var 3) (.var 8)))
  mh)
noncomputable def qP:CB:=
  (.cons (.asg (.name 9) (.call "turned" (.cons (.var 8) (.cons (.var 6) .nil))))
  mi)
noncomputable def mj:CB:=
  (.cons (.asg (.name 8) (.call "turned" (.cons (.var 1) (.cons (.var 7) .nil))))
  qP)
noncomputable def qQ:CB:=
  (.cons (.asgc 7 (.comp ["place"] [5,2] (.name 0) (.range1 (.bfn .len (.cons (.var 1) .nil))) (.yes (.cmp .Eq (.bin .BitAnd (.idx (.var 2) (.var 0)) (.var 1)) (.var 1))) (.var 0)))
  mj)
noncomputable def mn:CB:=
  (.cons (.asgc 6 (.comp ["place"] [5,2] (.name 0) (.range1 (.bfn .len (.cons (.var 1) .nil))) (.yes (.cmp .Eq (.idx (.var 2) (.var 0)) (.var 1))) (.var 0)))
  qQ)
noncomputable def vW:CB:=
  (.cons (.forr (.name 5) (.lseq (.sortset (.var 2)))
  (.cons (.iff (.cmp .Eq (.var 5) (.con (.int 0)))
  (.cons (.cont)
  .nil)
  .nil)
  mn))
  vV)
noncomputable def vX:CB:=
  (.cons (.asg (.name 4) (.lst .nil))
  vW)
noncomputable def vY:CB:=
  (.cons (.asg (.name 3) (.lst (.cons (.var 1) .nil)))
  vX)
noncomputable def vZ:CB:=
  (.cons (.asgc 2 (.comp ["place"] [0] (.name 0) (.range1 (.bfn .len (.cons (.var 1) .nil))) .no (.call "group_at" (.cons (.var 1) (.cons (.var 0) .nil)))))
  vY)
noncomputable def C8:CB:=
  (.cons (.asg (.name 1) (.idx (.idx (.var 0) (.con (.int 0))) (.con (.int 1))))
  vZ)
end K32
namespace K32
open PySem PySem.Spec PyProof.Rows L2 R Cp Lt Kc K21 K22 Lm M3 M4 M5
theorem xi{n:Nat}(h:n<=63):n<=sizeLine:=ba h (by decide)
theorem lt60{n:Nat}(h:n<=63):n<sizeLine:=cP h (by decide)
theorem xor_ii{K:af}{i j:Int}{H:Hp}{Q:VK}:jh K .BitXor (.int i) (.int j) H Q↔Q (.int (jQ i j)) H:=by simp[jh,rI0]
theorem and_ii{K:af}{i j:Int}{H:Hp}{Q:VK}:jh K .BitAnd (.int i) (.int j) H Q↔Q (.int (iP i j)) H:=by simp[jh,rI0]
theorem CH(a:Int)(l:List Int):inV (V.int a) (l.map V.int)=decide (a∈l):=by
 unfold inV;rw[List.any_map,eH,cw,decide_eq_true_eq];constructor
 ·rintro⟨x,hx,e⟩
  have :x=a:=by simpa[eqV]using e
  rw[<-this];exact hx
 ·intro h
  exact⟨a,h,by simp[eqV]⟩
theorem vL(ms:List Int):(ms.map V.int).all oZ=true:=by
 rw[bE];intro v hv;obtain⟨m,_,rfl⟩:=ao.mp hv;rfl
theorem DD{K:af}{a:Addr}{xs:List V}:ug (Itet K a) xs.length (fun i x H=>∃p v,x=.ref p/\H p=some (.tup [.int i,v])/\xs[i]? =some v) (fun H=>SqT K H a xs) where
 go:=fun i H h hi=>⟨xs,xs[i],h,by simp[hi]⟩
 stop:=fun i H h hi=>⟨xs,h,hi⟩
 yld:=fun i H x H' h hi y=>by
  obtain⟨p,v,hp,e,ex,y⟩:=y;subst e ex;exact⟨⟨p,v,rfl,aw,y xs h⟩,az hp⟩
theorem fV{zs:List Int}{i:Nat}(h:i<zs.length):(zs.map V.int)[i]? =some (.int (zs.getD i 0)):=by
 rw[ak,ae h,ag,ae h];rfl
structure Cps(H:Hp)(c:Addr)(ys:List V)(n:Nat)(rows:List (List Int)):Prop where
 ec:H c=some (.lst ys)
 len:ys.length<=40
 rl:rows.length=ys.length
 n60:n<=60
 at_:∀(i:Nat) y,ys[i]? =some y->∃b z r,y=.ref b/\H b=some (.tup [.str z,.ref r])/\H r=some (.tup ((rows.getD i []).map V.int))
 rd:∀zs∈rows,zs.length=n/\∀x∈zs,x=0\/x=1
theorem Cps.same{H H':Hp}{c:Addr}{ys:List V}{n:Nat}{rows:List (List Int)}(d:Cps H c ys n rows)(s:aS H H'):Cps H' c ys n rows:=
 {d with ec:=s _ _ d.ec,at_:=fun i y e=>let⟨b,z,r,h1,h2,h3⟩:=d.at_ i y e;⟨b,z,r,h1,s _ _ h2,s _ _ h3⟩}
theorem Cps.row{H:Hp}{c:Addr}{ys:List V}{n:Nat}{rows:List (List Int)}(d:Cps H c ys n rows){i:Nat}(hi:i<ys.length):(rows.getD i []).length=n/\∀p,p<n->(rows.getD i []).getD p 0=0\/(rows.getD i []).getD p 0=1:=by
 have hi':i<rows.length:=by rw[d.rl];exact hi
 have e:rows.getD i []=rows[i]:=by rw[ag,ae hi'];rfl
 obtain⟨h1,h2⟩:=d.rd rows[i] (bu hi');rw[e];refine⟨h1,fun p hp=>h2 _ ?_⟩;rw[ag,ae (by omega)];exact bu _
noncomputable def fr(rows:List (List Int))(p:Nat):Int:=(rows.getD 0 []).getD p 0
noncomputable def bt(rows:List (List Int))(p:Nat)(r:List Int):Bool:= !decide (r.getD p 0=fr rows p)
noncomputable def grp(rows:List (List Int))(p:Nat):Nat:=M3.num (rows.map (bt rows p)) 0
noncomputable def wW:Sp:=fun vs H Q _=>∃(c:Addr)(p:Nat)(ys:List V)(n:Nat)(rows:List (List Int)),vs=[.ref c,.int p]/\Cps H c ys n rows/\ys≠[]/\p<n/\∀H',aS H H'->Q (.int (grp rows p)) H'
theorem E5{G:Gam}{K:af}:Sat G K wW ud sU:=by
 rintro vs H Q E ⟨c,p,ys,n,rows,rfl,d,hy,hp,q⟩;unfold ud;change wpB G K _ _ _ [some (.ref c),some (.int p),none,none,none,none] H;walk_at "wp";have h0:0<ys.length:=eK.mpr hy;obtain⟨b,z,r,e1,e2,e3⟩:=d.at_ 0 ys[0] (ae h0);obtain⟨r1,r2⟩:=d.row h0;have g0:ys[0]? =some (.ref b):=by rw[ae h0,e1]
 refine .inl ⟨c,ys,0,_,rfl,rfl,SqL.of d.ec,cN (j:=0) g0,?_⟩;refine .inr (.inl ⟨b,_,1,_,rfl,rfl,SqT.of e2,rfl,?_⟩);refine .inr (.inl ⟨r,_,p,_,rfl,rfl,SqT.of e3,cN (fV (by omega)),?_⟩);unfold pA;walk_at "wp";unfold pz;walk_at "wp";refine jb (dB rfl (SqL.of d.ec) (iC eL (fun k σ H'=>aS H H'/\∃u v,σ=[some (.ref c),some (.int p),some (.int (fr rows p)),some (.int (M3.num ((rows.take k).map (bt rows p)) 0:Nat)),u,v])
  ⟨aS.refl _,none,none,rfl⟩ (fun k σ H' _ s=>s.1.seq (SqL.of d.ec)) ?_ ?_))
 ·rintro k y σ H1 H2 D2 hk ⟨s1,u,v,rfl⟩ hy' s2 hD _
  obtain⟨b',z',r',rfl,f2,f3⟩:=d.at_ k y hy';have s3:=s1.trans s2;obtain⟨t1,t2⟩:=d.row hk;have hk':k<rows.length:=by rw[d.rl];exact hk
  refine⟨b',_,rfl,SqT.of (s3 _ _ f2),rfl,_,_,rfl,_,_,rfl,rfl,?_⟩;walk_at "wp";refine⟨C1 (by decide) (by decide),.inr (.inl ⟨r',_,p,_,rfl,rfl,SqT.of (s3 _ _ f3),cN (fV (by omega)),?_⟩)⟩;refine xor_ii.mpr (Ip.mpr ?_);rw[show jQ ((rows.getD k []).getD p 0) (fr rows p)=if(rows.getD k []).getD p 0=(rows.getD 0 []).getD p 0 then 0 else 1 from xor_bit (t2 p hp) (r2 p hp)];have et:rows.take (k+1)=rows.take k++[rows.getD k []]:=by
   rw[dc,ag,ae hk'];rfl
  have eb:(if(rows.getD k []).getD p 0=(rows.getD 0 []).getD p 0 then(0:Int)else 1)=((bt rows p (rows.getD k [])).toNat:Int):=by
   unfold bt fr;by_cases h:(rows.getD k []).getD p 0=(rows.getD 0 []).getD p 0
   ·rw[if_pos h,decide_eq_true h];rfl
   ·rw[if_neg h,decide_eq_false h];rfl
  have e4:((M3.num ((rows.take k).map (bt rows p)) 0:Nat):Int)*2+((bt rows p (rows.getD k [])).toNat:Int)=((M3.num ((rows.take (k+1)).map (bt rows p)) 0:Nat):Int):=by
   rw[et,cH,bp,mV,sJ];push_cast;rfl
  rw[eb,e4];exact hD _ _ ⟨s3,_,_,rfl⟩
 ·rintro σ H1 ⟨s1,u,v,rfl⟩
  unfold pq;walk_at "wp";rw[<-d.rl,eQ];exact q H1 s1
noncomputable def lR(K:af):Sp:=fun vs H Q _=>∃(r b:Addr)(zs ms:List Int),vs=[.ref r,.ref b]/\SqT K H r (zs.map V.int)/\SqL K H b (ms.map V.int)/\zs.length<=60/\
 ∀(H':Hp)(p:Addr),aS H H'->H p=none->H' p=some (.tup ((trn zs ms).map V.int))->Q (.ref p) H'
theorem Dp{G:Gam}{K:af}:Sat G K (lR K) zW zu:=by
 rintro vs H Q E ⟨r,b,zs,ms,rfl,hr,hb,hl,q⟩;unfold zW;change wpB G K _ _ _ [some (.ref r),some (.ref b)] H;walk_at "wp";refine dA ⟨_,rfl,r,rfl,⟨_,hr⟩,?_⟩;refine di DD (xi (by rw[ai];omega)) (fun H3 s3=>s3.tup hr) (fun i v _=>v=.int (if(i:Int)∈ms then 1-zs.getD i 0 else zs.getD i 0)) (fun _ _ _ _ _ h=>h) (fun τ=>∃u v,τ=[u,v,some (.ref b)]) ⟨none,none,rfl⟩ ?_ ?_
 ·rintro i x τ H3 R hi ⟨u,v,rfl⟩ s3 ⟨p,v,rfl,hp,hv⟩ k
  rw[ai]at hi;rw[fV hi]at hv;cases hv;refine⟨p,_,rfl,SqT.of hp,rfl,_,_,rfl,_,_,rfl,rfl,?_⟩;walk_at "wp";refine .inr ⟨b,_,rfl,.inl (s3.seq hb),rfl,vL ms,_,rfl,?_⟩;show if inV (V.int (i:Int)) (ms.map V.int)=true then _ else _
  rw[CH];by_cases h:(i:Int)∈ms
  ·rw[decide_eq_true h,if_pos rfl]
   exact k _ _ _ ⟨_,_,rfl⟩ (aS.refl _) (by rw[if_pos h])
  ·rw[decide_eq_false h,if_neg aD]
   exact k _ _ _ ⟨_,_,rfl⟩ (aS.refl _) (by rw[if_neg h])
 ·intro vs H2 l hvl hF s2 hl2
  rw[ai]at hvl;have e:vs=(trn zs ms).map V.int:=by
   unfold trn;apply gB;intro i;rw[ak,ak];by_cases hi:i<vs.length
   ·rw[ae hi,a6 (by omega),hF i _ (ae hi)]
    rfl
   ·rw[bB (by omega),bB (by rw[bq];omega)]
    rfl
  rw[e];exact⟨l,_,rfl,.inl ⟨SqL.of aw,fun p hp=>q _ p (s2.trans ((az hl2).trans (az hp))) ((s2.trans (az hl2)).free hp) aw⟩⟩
end K32
namespace M6
noncomputable def Ok(n:Nat)(v:List Int):Prop:=v.length=n/\∀x∈v,x=0\/x=1
theorem Ok.at{n:Nat}{v:List Int}(h:Ok n v)(i:Nat):v.getD i 0=0\/v.getD i 0=1:=by
 rw[ag];cases e:v[i]? with
 |none=>exact .inl rfl
 |some x=>exact h.2 x (aG e)
noncomputable def Mis(vs:List (List Int))(i j:Nat):Prop:=∃a b:Int,(a=0\/a=1)/\(b=0\/b=1)/\∀v∈vs,¬(v.getD i 0=a/\v.getD j 0=b)
theorem Mis.sub{vs ws:List (List Int)}{i j:Nat}(h:Mis vs i j)(s:∀w∈ws,w∈vs):Mis ws i j:=let⟨a,b,ha,hb,k⟩:=h;⟨a,b,ha,hb,fun w hw=>k w (s w hw)⟩
theorem Mis.flip{vs:List (List Int)}{i j:Nat}(h:Mis vs i j):Mis vs j i:=let⟨a,b,ha,hb,k⟩:=h;⟨b,a,hb,ha,fun w hw ⟨x,y⟩=>k w hw ⟨y,x⟩⟩
end M6
namespace M7
open K32
noncomputable def Fits(rows:List (List Int))(n:Nat)(v:List Int):Prop:=M6.Ok n v/\∀i j,i<n->j<n->∃r∈rows,r.getD i 0=v.getD i 0/\r.getD j 0=v.getD j 0
theorem Fits.sub{rows rows':List (List Int)}{n:Nat}{v:List Int}(h:Fits rows n v)(s:∀r∈rows,r∈rows'):Fits rows' n v:=⟨h.1,fun i j hi hj=>let⟨r,hr,e⟩:=h.2 i j hi hj;⟨r,s r hr,e⟩⟩
section
variable {rows:List (List Int)}{n:Nat}
theorem kz{p:Nat}{r:List Int}:bt rows p r=true↔r.getD p 0≠fr rows p:=by
 unfold bt;simp
theorem mq(p i:Nat):(grp rows p).testBit i=((rows.reverse[i]?).map (bt rows p)).getD false:=by
 unfold grp;have :=M3.Cn (rows.map (bt rows p)).reverse i;rw[List.reverse_reverse]at this;rw[this,<-List.map_reverse,ak]
theorem gsub{p q:Nat}:grp rows p&&& grp rows q=grp rows q↔∀r∈rows,bt rows q r=true->bt rows p r=true:=by
 rw[M3.and_sub];constructor
 ·intro h r hr hq
  obtain⟨i,hi⟩:=bJ.mp (jf.mpr hr);have :=h i;rw[mq,mq,hi]at this;exact this hq
 ·intro h i
  rw[mq,mq];cases e:rows.reverse[i]? with
  |none=>exact id
  |some r=>exact h r (jf.mp (aG e))
theorem geq{p q:Nat}:grp rows p=grp rows q↔∀r∈rows,bt rows p r=bt rows q r:=by
 constructor
 ·intro h r hr
  have a:=gsub.mp (show grp rows p&&& grp rows q=grp rows q by rw[h,ES]) r hr;have b:=gsub.mp (show grp rows q&&& grp rows p=grp rows p by rw[h,ES]) r hr;exact eH.mpr ⟨b,a⟩
 ·intro h
  apply pJ
  intro i;rw[mq,mq];cases e:rows.reverse[i]? with
  |none=>rfl
  |some r=>exact h r (jf.mp (aG e))
theorem gnz{p:Nat}:grp rows p≠0↔∃r∈rows,bt rows p r=true:=by
 constructor
 ·intro h
  apply aR
  intro hn;apply h;apply pJ;intro i;rw[mq,Nat.zero_testBit];cases e:rows.reverse[i]? with
  |none=>rfl
  |some r=>
   cases b:bt rows p r with
   |false=>exact b
   |true=>exact absurd ⟨r,jf.mp (aG e),b⟩ hn
 ·rintro⟨r,hr,h⟩ z
  obtain⟨i,hi⟩:=bJ.mp (jf.mpr hr);have :=mq (rows:=rows) p i;rw[hi,z,Nat.zero_testBit]at this;rw[show((some r).map (bt rows p)).getD false=bt rows p r from rfl,h]at this;cases this
end
theorem zQ{α:Type}{p q:α->Bool}:∀{l:List α},(∀r∈l,q r=true->p r=true)->∀{x:α},x∈l->p x=true->q x=false->l.countP q<l.countP p
 |a::l,h,x,hx,hp,hq=>by
  rw[List.countP_cons,List.countP_cons];have ha:=h a aI;have ht:∀r∈l,q r=true->p r=true:=fun r hr=>h r (aH _ hr);rcases aB.mp hx with rfl|hx
  ·have :=List.countP_mono_left ht
   rw[hp,hq,if_pos rfl,if_neg (by decide)];omega
  ·have :=zQ ht hx hp hq
   cases e:q a with
   |true=>rw[ha e];omega
   |false=>rw[if_neg (by decide)];omega
structure Tbl(rows:List (List Int))(n:Nat):Prop where
 ok:∀r∈rows,M6.Ok n r
 ne:rows≠[]
 mis:∀i j,i<j->j<n->M6.Mis rows i j
section
variable {rows:List (List Int)}{n:Nat}
theorem Tbl.first(t:Tbl rows n):rows.getD 0 []∈rows:=by
 cases rows with
 |nil=>exact absurd rfl t.ne
 |cons a r=>exact aI
theorem Tbl.f01(t:Tbl rows n)(p:Nat):fr rows p=0\/fr rows p=1:=(t.ok _ t.first).at p
theorem Tbl.mis'(t:Tbl rows n){i j:Nat}(h:i≠j)(hi:i<n)(hj:j<n):M6.Mis rows i j:=by
 rcases Nat.lt_or_gt_of_ne h with h|h
 ·exact t.mis i j h hj
 ·exact(t.mis j i h hi).flip
theorem neq{x f:Int}(hx:x=0\/x=1)(hf:f=0\/f=1):x≠f↔x=1-f:=by
 rcases hx with rfl|rfl<;>rcases hf with rfl|rfl<;>decide
theorem Tbl.turn(t:Tbl rows n){r:List Int}(hr:r∈rows){p:Nat}:bt rows p r=true↔r.getD p 0=1-fr rows p:=by
 rw[kz];exact neq ((t.ok r hr).at p) (t.f01 p)
theorem Tbl.mY(t:Tbl rows n){r:List Int}{p:Nat}:bt rows p r=false↔r.getD p 0=fr rows p:=by
 unfold bt;simp
theorem two{x y z:Int}(hx:x=0\/x=1)(hy:y=0\/y=1)(hz:z=0\/z=1)(h:x≠y):x=z\/y=z:=by
 rcases hx with rfl|rfl<;>rcases hy with rfl|rfl<;>rcases hz with rfl|rfl<;>first |exact absurd rfl h|decide
theorem two1{x z:Int}(hx:x=0\/x=1)(hz:z=0\/z=1):x=z\/1-x=z:=by
 rcases hx with rfl|rfl<;>rcases hz with rfl|rfl<;>decide
theorem eqb{x y f:Int}(hx:x=0\/x=1)(hy:y=0\/y=1)(hf:f=0\/f=1):x=y↔(x≠f↔y≠f):=by
 rcases hx with rfl|rfl<;>rcases hy with rfl|rfl<;>rcases hf with rfl|rfl<;>decide
theorem Tbl.nest(t:Tbl rows n){p q:Nat}(hp:p<n)(hq:q<n){r:List Int}(hr:r∈rows)(b1:bt rows p r=true)(b2:bt rows q r=true):(∀r∈rows,bt rows p r=true->bt rows q r=true)\/∀r∈rows,bt rows q r=true->bt rows p r=true:=by
 by_cases hpq:p=q
 ·exact .inl fun r _ h=>hpq▸h
 apply aR
 intro h;rw[not_or]at h;obtain⟨r1,h1⟩:=eV.mp h.1;obtain⟨r2,h2⟩:=eV.mp h.2;have h1:r1∈rows/\bt rows p r1=true/\¬bt rows q r1=true:=by
  apply aR;intro z;apply h1;intro a b
  apply aR;intro c;exact z ⟨a,b,c⟩
 have h2:r2∈rows/\bt rows q r2=true/\¬bt rows p r2=true:=by
  apply aR;intro z;apply h2;intro a b
  apply aR;intro c;exact z ⟨a,b,c⟩
 obtain⟨a,b,ha,hb,k⟩:=t.mis' hpq hp hq;have f1:=t.f01 p;have f2:=t.f01 q;have e0:=k _ t.first;have e3:=k _ hr;have e1:=k _ h1.1;have e2:=k _ h2.1;rw[(t.turn hr).mp b1,(t.turn hr).mp b2]at e3;rw[(t.turn h1.1).mp h1.2.1,t.mY.mp (gE.mpr h1.2.2)]at e1;rw[(t.turn h2.1).mp h2.2.1,t.mY.mp (gE.mpr h2.2.2)]at e2;rcases two1 f1 ha with x|x<;>rcases two1 f2 hb with y|y
 ·exact e0 ⟨x,y⟩
 ·exact e2 ⟨x,y⟩
 ·exact e1 ⟨x,y⟩
 ·exact e3 ⟨x,y⟩
theorem iF{f:Nat->Int}{P:Nat->Bool}{i:Nat}(h:i<n):(M4.bl f n P).getD i 0=if P i=true then 1-f i else f i:=M5.Dc h
theorem zN{u v:List Int}(hu:u.length=n)(hv:v.length=n)(h:∀i,i<n->u.getD i 0=v.getD i 0):u=v:=by
 apply cK (hu.trans hv.symm)
 intro i h1 h2;have :=h i (by omega)
 rwa [ag,ag,ae h1,ae h2]at this
theorem wg(t:Tbl rows n)(P:Nat->Bool):M6.Ok n (M4.bl (fr rows) n P):=⟨M4.iE _ _ _,fun x hx=>by
 obtain⟨i,_,rfl⟩:=ao.mp hx;have :=t.f01 i;split <;>omega⟩
noncomputable def below(rows:List (List Int))(n p:Nat):List Int:=M4.bl (fr rows) n (M4.sub (grp rows) (grp rows p))
theorem iy{p q:Nat}:M4.sub (grp rows) (grp rows p) q=true↔∀r∈rows,bt rows p r=true->bt rows q r=true:=by
 unfold M4.sub;rw[decide_eq_true_eq];exact gsub
theorem Bz(t:Tbl rows n){p:Nat}(hz:grp rows p≠0):Fits rows n (below rows n p):=by
 refine⟨wg t _,fun i j hi hj=>?_⟩;unfold below;rw[iF hi,iF hj];have pick:∀{i j:Nat},M4.sub (grp rows) (grp rows p) i=true->M4.sub (grp rows) (grp rows p) j=false->∃r∈rows,r.getD i 0=1-fr rows i/\r.getD j 0=fr rows j:=fun{i j} a b=>by
  have b:¬∀r∈rows,bt rows p r=true->bt rows j r=true:=fun z=>by rw[iy.mpr z]at b;cases b
  obtain⟨r,h⟩:=eV.mp b;have h:r∈rows/\bt rows p r=true/\¬bt rows j r=true:=by
   apply aR;intro z;apply h;intro a b
   apply aR;intro c;exact z ⟨a,b,c⟩
  exact⟨r,h.1,(t.turn h.1).mp (iy.mp a r h.1 h.2.1),t.mY.mp (gE.mpr h.2.2)⟩
 cases a:M4.sub (grp rows) (grp rows p) i with
 |true=>
  cases b:M4.sub (grp rows) (grp rows p) j with
  |true=>
   obtain⟨r,hr,h⟩:=gnz.mp hz;exact⟨r,hr,(t.turn hr).mp (iy.mp a r hr h),(t.turn hr).mp (iy.mp b r hr h)⟩
  |false=>exact pick a b
 |false=>
  cases b:M4.sub (grp rows) (grp rows p) j with
  |true=>
   obtain⟨r,hr,h1,h2⟩:=pick b a;exact⟨r,hr,h2,h1⟩
  |false=>exact⟨_,t.first,rfl,rfl⟩
theorem By(t:Tbl rows n):Fits rows n (M4.bl (fr rows) n fun _=>false):=by
 refine⟨wg t _,fun i j hi hj=>⟨_,t.first,?_⟩⟩;rw[iF hi,iF hj];exact⟨rfl,rfl⟩
theorem of_fits(t:Tbl rows n){v:List Int}(h:Fits rows n v):v=M4.bl (fr rows) n (fun _=>false)\/∃p,p<n/\grp rows p≠0/\v=below rows n p:=by
 by_cases hS:∀p,p<n->v.getD p 0=fr rows p
 ·left
  exact zN h.1.1 (M4.iE _ _ _) fun i hi=>by rw[iF hi];exact hS i hi
 ·right
  have ex:∃m p,p<n/\v.getD p 0≠fr rows p/\rows.countP (bt rows p)=m:=by
   obtain⟨p,hp⟩:=eV.mp hS;obtain⟨hp,hv⟩:=j6.mp hp;exact⟨_,p,hp,hv,rfl⟩
  obtain⟨m,⟨p,hp,hv,hm⟩,hmin⟩:∃m,(∃p,p<n/\v.getD p 0≠fr rows p/\rows.countP (bt rows p)=m)/\∀k,k<m->¬∃p,p<n/\v.getD p 0≠fr rows p/\rows.countP (bt rows p)=k:=by
   obtain⟨m,hm⟩:=ex
   induction m using yw with
   |_ m ih=>
    by_cases hk:∃k,k<m/\∃p,p<n/\v.getD p 0≠fr rows p/\rows.countP (bt rows p)=k
    ·obtain⟨k,hk,h⟩:=hk
     exact ih k hk h
    ·exact⟨m,hm,fun k hkm hkk=>hk ⟨k,hkm,hkk⟩⟩
  have v01:=fun i=>h.1.at i;have tv:∀{r:List Int}{i:Nat},r∈rows->r.getD i 0=v.getD i 0->v.getD i 0≠fr rows i->bt rows i r=true:=fun hr e hne=>kz.mpr (by rw[e];exact hne);refine⟨p,hp,gnz.mpr ?_,?_⟩
  ·obtain⟨r,hr,e,_⟩:=h.2 p p hp hp
   exact⟨r,hr,tv hr e hv⟩
  ·refine zN h.1.1 (M4.iE _ _ _) fun q hq=>?_
   unfold below;rw[iF hq];by_cases hqv:v.getD q 0=fr rows q
   ·rw[if_neg,hqv]
    rw[iy];intro hs;obtain⟨r,hr,e1,e2⟩:=h.2 p q hp hq;exact kz.mp (hs r hr (tv hr e1 hv)) (e2.trans hqv)
   ·rw[if_pos,(neq (v01 q) (t.f01 q)).mp hqv]
    rw[iy];obtain⟨r,hr,e1,e2⟩:=h.2 p q hp hq;rcases t.nest hp hq hr (tv hr e1 hv) (tv hr e2 hqv)with hs|hs
    ·exact hs
    ·intro r1 hr1 b1
     cases b:bt rows q r1 with
     |true=>rfl
     |false=>
      exfalso
      refine hmin _ ?_ ⟨q,hq,hqv,rfl⟩;rw[<-hm];exact zQ hs hr1 b1 b
noncomputable def Cls(rows:List (List Int))(p q:Nat):Prop:=∀r∈rows,∀s∈rows,r.getD p 0=s.getD p 0↔r.getD q 0=s.getD q 0
theorem Tbl.cls(t:Tbl rows n){p q:Nat}:grp rows p=grp rows q↔Cls rows p q:=by
 rw[geq];constructor
 ·intro h r hr s hs
  have a:=h r hr;have b:=h s hs;rw[eH,kz,kz]at a b;rw[eqb ((t.ok r hr).at p) ((t.ok s hs).at p) (t.f01 p),eqb ((t.ok r hr).at q) ((t.ok s hs).at q) (t.f01 q),a,b]
 ·intro h r hr
  rw[eH,kz,kz];exact not_congr (h r hr _ t.first)
structure End(rows:List (List Int))(n p:Nat)(v:List Int):Prop where
 ok:M6.Ok n v
 own:∀q,q<n->Cls rows p q->∃r∈rows,r.getD p 0=v.getD p 0/\r.getD q 0=v.getD q 0
 off:∀q,q<n->¬Cls rows p q->∃r∈rows,∃s∈rows,r.getD p 0≠s.getD p 0/\r.getD q 0=v.getD q 0/\s.getD q 0=v.getD q 0
theorem End.one(t:Tbl rows n){p:Nat}(hp:p<n){v w:List Int}(a:End rows n p v)(b:End rows n p w)(e:v.getD p 0=w.getD p 0):v=w:=by
 refine zN a.ok.1 b.ok.1 fun q hq=>?_;by_cases c:Cls rows p q
 ·obtain⟨r,hr,e1,e2⟩:=a.own q hq c
  obtain⟨s,hs,e3,e4⟩:=b.own q hq c;rw[<-e2,<-e4];exact(c r hr s hs).mp (by rw[e1,e3,e])
 ·apply aR
  intro hne;have hpq:p≠q:=fun z=>c (by rw[z];exact fun _ _ _ _=>Iff.rfl);obtain⟨r,hr,s,hs,e1,e2,e3⟩:=a.off q hq c;obtain⟨r',hr',s',hs',e1',e2',e3'⟩:=b.off q hq c;obtain⟨x,y,hx,hy,k⟩:=t.mis' hpq hp hq;have k1:=k r hr;have k2:=k s hs;have k3:=k r' hr';have k4:=k s' hs';have a1:=(t.ok r hr).at p;have a2:=(t.ok s hs).at p;have a3:=(t.ok r' hr').at p;have a4:=(t.ok s' hs').at p;have b1:=a.ok.at q;have b2:=b.ok.at q;rw[e2]at k1;rw[e3]at k2;rw[e2']at k3;rw[e3']at k4;have h1:=two a1 a2 hx e1;have h2:=two a3 a4 hx e1';have h3:=two b1 b2 hy hne;rcases h3 with h3|h3
  ·rcases h1 with h|h
   ·exact k1 ⟨h,h3⟩
   ·exact k2 ⟨h,h3⟩
  ·rcases h2 with h|h
   ·exact k3 ⟨h,h3⟩
   ·exact k4 ⟨h,h3⟩
noncomputable def hZ(rows:List (List Int))(n p:Nat):List Int:=M4.bl (fr rows) n (M4.above (grp rows) (grp rows p))
theorem ql{p q:Nat}:M4.above (grp rows) (grp rows p) q=true↔M4.sub (grp rows) (grp rows p) q=true/\grp rows q≠grp rows p:=by
 unfold M4.above M4.sub;rw[decide_eq_true_eq,decide_eq_true_eq]
theorem sub_self{p:Nat}:M4.sub (grp rows) (grp rows p) p=true:=iy.mpr fun _ _ h=>h
theorem yh{p:Nat}(hp:p<n):(below rows n p).getD p 0=1-fr rows p:=by
 unfold below;rw[iF hp,if_pos sub_self]
theorem BW{p:Nat}(hp:p<n):(hZ rows n p).getD p 0=fr rows p:=by
 unfold hZ;rw[iF hp,if_neg fun h=>(ql.mp h).2 rfl]
theorem zO(t:Tbl rows n){p q:Nat}(hz:grp rows p≠0)(c:¬Cls rows p q):∃r∈rows,∃s∈rows,r.getD p 0≠s.getD p 0/\(r.getD q 0=if M4.sub (grp rows) (grp rows p) q=true then 1-fr rows q else fr rows q)/\s.getD q 0=if M4.sub (grp rows) (grp rows p) q=true then 1-fr rows q else fr rows q:=by
 have miss:∀{a b:Nat},(¬∀r∈rows,bt rows a r=true->bt rows b r=true)->∃r∈rows,bt rows a r=true/\bt rows b r=false:=fun{a b} h=>by
  obtain⟨r,h⟩:=eV.mp h;obtain⟨h1,h⟩:=j6.mp h;obtain⟨h2,h⟩:=j6.mp h;exact⟨r,h1,h2,gE.mpr h⟩
 have f01:=t.f01 p;cases a:M4.sub (grp rows) (grp rows p) q with
 |true=>
  obtain⟨r,hr,h⟩:=gnz.mp hz;have hs:¬∀r∈rows,bt rows q r=true->bt rows p r=true:=fun z=>c (t.cls.mp (geq.mpr fun r hr=>eH.mpr ⟨iy.mp a r hr,z r hr⟩));obtain⟨s,hs,h1,h2⟩:=miss hs;rw[if_pos rfl];exact⟨r,hr,s,hs,by rw[(t.turn hr).mp h,t.mY.mp h2];omega,(t.turn hr).mp (iy.mp a r hr h),(t.turn hs).mp h1⟩
 |false=>
  obtain⟨r,hr,h1,h2⟩:=miss fun z=>by rw[iy.mpr z]at a;cases a
  rw[if_neg (by decide)];exact⟨r,hr,_,t.first,by rw[(t.turn hr).mp h1];show _≠fr rows p;omega,t.mY.mp h2,rfl⟩
theorem vN(t:Tbl rows n){p:Nat}(hp:p<n)(hz:grp rows p≠0):End rows n p (below rows n p):=by
 refine⟨wg t _,fun q hq c=>?_,fun q hq c=>?_⟩
 ·obtain⟨r,hr,h⟩:=gnz.mp hz
  have e:=geq.mp (t.cls.mpr c);refine⟨r,hr,?_,?_⟩
  ·rw[yh hp];exact(t.turn hr).mp h
  ·unfold below
   rw[iF hq,if_pos (iy.mpr fun s hs b=>by rw[<-e s hs];exact b)];exact(t.turn hr).mp (by rw[<-e r hr];exact h)
 ·have :=zO t hz c
  unfold below;rw[iF hq];exact this
theorem zP(t:Tbl rows n){p:Nat}(hp:p<n)(hz:grp rows p≠0):End rows n p (hZ rows n p):=by
 refine⟨wg t _,fun q hq c=>⟨_,t.first,?_,?_⟩,fun q hq c=>?_⟩
 ·rw[BW hp];rfl
 ·unfold hZ
  rw[iF hq,if_neg fun h=>(ql.mp h).2 (t.cls.mpr c).symm];rfl
 ·have :=zO t hz c
  unfold hZ;rw[iF hq];have e:(M4.above (grp rows) (grp rows p) q=true)↔(M4.sub (grp rows) (grp rows p) q=true):=by
   rw[ql];exact⟨fun h=>h.1,fun h=>⟨h,fun z=>c (t.cls.mp z.symm)⟩⟩
  simp only[e];exact this
theorem rO(t:Tbl rows n){p:Nat}(hp:p<n):hZ rows n p≠below rows n p:=fun h=>by
 have a:=BW (rows:=rows) hp;have b:=yh (rows:=rows) hp;have :=t.f01 p;rw[h,b]at a;omega
theorem Cy{a b:List Int}(h:a≠b):M4.lo a b=M4.lo b a:=by
 unfold M4.lo;rw[Q.iT h];cases Q.llt b a<;>rfl
theorem CJ{a b:List Int}(h:a≠b):M4.hi a b=M4.hi b a:=by
 unfold M4.hi;rw[Q.iT h];cases Q.llt b a<;>rfl
theorem HH(t:Tbl rows n){p:Nat}(hp:p<n)(hz:grp rows p≠0){u v:List Int}(hu:End rows n p u)(hv:End rows n p v)(hne:u≠v):M4.lo (hZ rows n p) (below rows n p)=M4.lo u v/\M4.hi (hZ rows n p) (below rows n p)=M4.hi u v:=by
 have a:=zP t hp hz;have b:=vN t hp hz;have a1:=BW (rows:=rows) hp;have b1:=yh (rows:=rows) hp;have f:=t.f01 p;have u1:=hu.ok.at p;have v1:=hv.ok.at p;have n1:u.getD p 0≠v.getD p 0:=fun z=>hne (hu.one t hp hv z);by_cases e:u.getD p 0=fr rows p
 ·have x:=hu.one t hp a (by rw[a1];exact e)
  have y:=hv.one t hp b (by rw[b1];exact(neq v1 f).mp fun z=>n1 (e.trans z.symm));rw[x,y];exact⟨rfl,rfl⟩
 ·have x:=hu.one t hp b (by rw[b1];exact(neq u1 f).mp e)
  have y:=hv.one t hp a (by rw[a1];exact(two u1 v1 f n1).resolve_left e);rw[x,y];exact⟨Cy (rO t hp),CJ (rO t hp)⟩
end
end M7
namespace K32
open PySem PySem.Spec PyProof.Rows L2 R Cp Lt Kc K21 K22 Lm M3 M4 M5
theorem Hy{J:It}{n:Nat}{it:Nat->V->Hp->Prop}{Hc:Hp->Prop}{g:TG}{tb:TS}{D:Ends}{σ:L2.St}{H:Hp}(S:ug J n it Hc)(Pv:Nat->L2.St->Hp->Prop)(h0:Pv 0 σ H)(hl:∀i σ H,i<=n->Pv i σ H->Hc H)
  (hs:∀i x σ H H' (D2:Ends),i<n->Pv i σ H->it i x H'->aS H H'->(∀σ2 H2,Pv (i+1) σ2 H2->D2.nx σ2 H2)->(∀σ2 H2,Pv (i+1) σ2 H2->D2.ct σ2 H2)->g x σ H' fun σ2 H2=>tb D2 σ2 H2)(hd:∀σ H,Pv n σ H->D.nx σ H):ForB J g tb D σ H:=
 CQ S Pv h0 hl (fun i x σ H H' a b c d=>hs i x σ H H' _ a b c d (fun _ _ h=>h) (fun _ _ h=>h)) hd
theorem za{n:Nat}:ug (Itr 0 n) (nats n).length (fun i x _=>(nats n)[i]? =some x) (fun _=>True) where
 go:=fun i H h hi=>dP.go i H h (by simpa[nats]using hi)
 stop:=fun i H h hi=>dP.stop i H h (by simpa[nats]using hi)
 yld:=fun i H x H' h hi y=>by
  have hi':i<n:=by simpa[nats]using hi
  obtain⟨e,s⟩:=dP.yld i H x H' h hi' y;refine⟨?_,s⟩;subst e;unfold nats;rw[ak,a6 hi',d7];rfl
theorem vz{n:Nat}{t:V->Bool}{P:Nat->Bool}(h:∀p,p<n->t (.int p)=P p):((nats n).filter t).map id=(plc n P).map V.int:=by
 unfold nats plc;rw[fu,List.filter_map,bg];rw[show(aq n).filter (t∘fun i:Nat=>V.int (i:Int))=(aq n).filter P from List.filter_congr fun p hp=>h p (aK.mp hp)];rfl
theorem Paired.snoc{α β:Type}{F:α->β->Prop}{a:α}{b:β}(h:F a b){l:List α}{m:List β}(p:Paired F l m):Paired F (l++[a]) (m++[b]):=by
 induction p with
 |nil=>exact .cons h .nil
 |cons x r ih=>exact .cons x ih
noncomputable def Tk(H H':Hp):Prop:=∀a xs,H a=some (.tup xs)->H' a=some (.tup xs)
theorem Tk.of{H H':Hp}(s:aS H H'):Tk H H':=fun a _ e=>s a _ e
theorem lQ{H:Hp}{a:Addr}{xs ys:List V}(h:H a=some (.lst xs)):Tk H (upd H a (.lst ys)):=fun b _ e=>by
 rw[bh (fun z=>by rw[z,h]at e;cases e)];exact e
theorem cR{H H':Hp}(t:Tk H H'){ys:List V}{ps:List (List Int)}(h:_root_.Q.IntKeys H ys ps):_root_.Q.IntKeys H' ys ps:=Paired.Bj h fun v k z=>by
 obtain⟨a,e,f⟩:=z;exact⟨a,e,t _ _ f⟩
noncomputable def BrOf(f:Nat->Int)(n:Nat)(g:Nat->Nat)(H:Hp)(v:V)(q:Int):Prop:=∃a x y z,v=V.ref a/\H a=some (.tup [.ref x,.ref y,.ref z])/\H x=some (.tup ((lo (nA f n g q) (nB f n g q)).map V.int))/\H y=some (.tup ((hi (nA f n g q) (nB f n g q)).map V.int))/\H z=some (.tup ((plc n (own g q.toNat)).map V.int))
noncomputable def lA(f:Nat->Int)(n:Nat)(g:Nat->Nat)(H:Hp)(bs:List V)(qs:List Int):Prop:=Paired (BrOf f n g H) bs qs
theorem lA.tk{f:Nat->Int}{n:Nat}{g:Nat->Nat}{H H':Hp}(t:Tk H H'){bs:List V}{qs:List Int}(h:lA f n g H bs qs):lA f n g H' bs qs:=Paired.Bj h fun v k w=>by
 obtain⟨a,x,y,z,e,e1,e2,e3,e4⟩:=w;exact⟨a,x,y,z,e,t _ _ e1,t _ _ e2,t _ _ e3,t _ _ e4⟩
theorem lA.two{f:Nat->Int}{n:Nat}{g:Nat->Nat}{H:Hp}{bs:List V}{qs:List Int}(h:lA f n g H bs qs):_root_.Q.jF H bs (brK f n g qs):=by
 unfold lA at h
 induction h with
 |nil=>exact .nil
 |cons x r ih=>
  obtain⟨a,x,y,z,e,e1,e2,e3,_⟩:=x;exact .cons ⟨a,x,y,_,e,e1,e2,e3⟩ ih
theorem fJ{α β:Type}{F:α->β->Prop}{l:List α}{m:List β}(h:Paired F l m):m.length=l.length:=by
 induction h with
 |nil=>rfl
 |cons _ _ ih=>simp[ih]
noncomputable def gsI(rows:List (List Int))(n:Nat):List Int:=(aq n).map fun p:Nat=>(grp rows p:Int)
theorem xR{rows:List (List Int)}{n:Nat}:(gsI rows n).length=n:=by simp[gsI]
theorem Hv{rows:List (List Int)}{n p:Nat}(h:p<n):(gsI rows n).getD p 0=(grp rows p:Int):=by
 unfold gsI;rw[ag,ak,a6 h];rfl
noncomputable def dn(qs:List Int)(k:Nat):List Int:=(qs.take k).filter fun q=> !decide (q=0)
theorem dn_zero{qs:List Int}{k:Nat}(h:qs[k]? =some 0):dn qs (k+1)=dn qs k:=by
 unfold dn;rw[dc,h,kK];simp
theorem CZ{qs:List Int}{k:Nat}{q:Int}(h:qs[k]? =some q)(qne:q≠0):dn qs (k+1)=dn qs k++[q]:=by
 unfold dn;rw[dc,h,kK];simp[qne]
theorem HL{qs:List Int}{k n:Nat}{g:Nat->Nat}(h:Grs n g qs):Grs n g (dn qs k):=by
 have s:(dn qs k).Sublist qs:=pQ.trans (rR k qs);exact⟨h.1.sublist s,fun q hq=>h.2 q (s.subset hq)⟩
theorem HK{qs:List Int}{k n:Nat}{g:Nat->Nat}(h:Grs n g qs):(dn qs k).length<=n:=rN (HL h)
structure Fx(H:Hp)(gl nd br so:Addr):Prop where
 fnd:H nd=none
 fbr:H br=none
 n1:nd≠br
 n2:nd≠gl
 n3:nd≠so
 n4:br≠gl
 n5:br≠so
structure Gx(rows:List (List Int))(n:Nat)(qs:List Int)(H:Hp)(gl nd br so:Addr)(ds:List Int)(ks bs:List V)(H':Hp):Prop where
 s:aS H H'
 eg:H' gl=some (.lst ((gsI rows n).map V.int))
 eo:H' so=some (.lst (qs.map V.int))
 en:H' nd=some (.lst ks)
 eb:H' br=some (.lst bs)
 nk:_root_.Q.IntKeys H' ks (fG (fr rows) n (grp rows) ds)
 bk:lA (fr rows) n (grp rows) H' bs ds
section
variable {rows:List (List Int)}{n:Nat}{qs:List Int}{H:Hp}{gl nd br so c r0:Addr}{ds:List Int}{ks bs:List V}{H':Hp}{G:Gam}{K:af}{E:XS}{D:Ends}
theorem Gx.same{H2:Hp}(g:Gx rows n qs H gl nd br so ds ks bs H')(s:aS H' H2):Gx rows n qs H gl nd br so ds ks bs H2:=
 ⟨g.s.trans s,s _ _ g.eg,s _ _ g.eo,s _ _ g.en,s _ _ g.eb,cR (Tk.of s) g.nk,g.bk.tk (Tk.of s)⟩
theorem Gx.ksl(g:Gx rows n qs H gl nd br so ds ks bs H'):ks.length=ds.length+1:=by
 have :=fJ g.nk
 simpa[fG]using this.symm
theorem Gx.bsl(g:Gx rows n qs H gl nd br so ds ks bs H'):bs.length=ds.length:=(fJ g.bk).symm
noncomputable def Gv(rows:List (List Int))(n:Nat)(qs:List Int)(H:Hp)(c r0 gl nd br so:Addr)(k:Nat)(σ:L2.St)(H':Hp):Prop:=
 (∃ks bs,Gx rows n qs H gl nd br so (dn qs k) ks bs H')/\∃u v w x y,σ=[some (.ref c),some (.ref r0),some (.ref gl),some (.ref nd),some (.ref br),u,v,w,x,y]
theorem Bg{f:Nat->Int}{g:Nat->Nat}{q:Int}:fG f n g (ds++[q])=fG f n g ds++[nB f n g q]:=by simp[fG]
theorem pick{p:Prop}[Decidable p]{x y:Addr}{A B:List Int}(hx:H x=some (.tup (A.map V.int)))(hy:H y=some (.tup (B.map V.int))):∃z,(if p then V.ref y else V.ref x)=V.ref z/\H z=some (.tup ((if p then B else A).map V.int)):=by
 split
 ·exact⟨y,rfl,hy⟩
 ·exact⟨x,rfl,hx⟩
theorem wD(F:Fx H gl nd br so)(hn:n<=60)(hq:Grs n (grp rows) qs){k:Nat}{q:Int}(hk:qs[k]? =some q)(h0:q≠0)(hD:∀σ2 H2,Gv rows n qs H c r0 gl nd br so (k+1) σ2 H2->D.nx σ2 H2){pl ar be ab:Addr}
  (s:aS H H')(eg:H' gl=some (.lst ((gsI rows n).map V.int)))(eo:H' so=some (.lst (qs.map V.int)))(en:H' nd=some (.lst ks))(er:H' br=some (.lst bs))(nk:_root_.Q.IntKeys H' ks (fG (fr rows) n (grp rows) (dn qs (k+1))))(bk:lA (fr rows) n (grp rows) H' bs (dn qs k))
  (ep:H' pl=some (.lst ((plc n (own (grp rows) q.toNat)).map V.int)))(eb:H' be=some (.tup ((nB (fr rows) n (grp rows) q).map V.int)))(ea:H' ab=some (.tup ((nA (fr rows) n (grp rows) q).map V.int))):
  wpB G K E mh D [some (.ref c),some (.ref r0),some (.ref gl),some (.ref nd),some (.ref br),some (.int q),some (.ref pl),some (.ref ar),some (.ref be),some (.ref ab)] H':=by
 have hdn:(dn qs k).length<=n:=HK hq;have hbl:=fJ bk;unfold mh;walk_at "wp";have hlen:(nA (fr rows) n (grp rows) q).length=(nB (fr rows) n (grp rows) q).length:=(iE _ _ _).trans (iE _ _ _).symm;obtain⟨x,ex,hx⟩:=pick (p:=_root_.Q.llt (nB (fr rows) n (grp rows) q) (nA (fr rows) n (grp rows) q)=true) ea eb;obtain⟨y,ey,hy⟩:=pick (p:=_root_.Q.llt (nA (fr rows) n (grp rows) q) (nB (fr rows) n (grp rows) q)=true) ea eb;refine⟨.inl ⟨rfl,_,SqL.of er⟩,ab,be,_,_,rfl,SqT.of ea,SqT.of eb,hlen,ab,be,_,_,rfl,SqT.of ea,SqT.of eb,hlen,?_⟩;rw[ex,ey];refine⟨pl,_,rfl,.inl ⟨SqL.of ep,fun z hz=>⟨short (by simp),fun a ha=>?_⟩⟩⟩;have s1:aS H' (upd (upd H' z (.tup ((plc n (own (grp rows) q.toNat)).map V.int))) a (.tup [.ref x,.ref y,.ref z])):=(az hz).trans (az ha);have e1:upd (upd H' z (.tup ((plc n (own (grp rows) q.toNat)).map V.int))) a (.tup [.ref x,.ref y,.ref z]) a=some (.tup [.ref x,.ref y,.ref z]):=aw;have e2:upd (upd H' z (.tup ((plc n (own (grp rows) q.toNat)).map V.int))) a (.tup [.ref x,.ref y,.ref z]) z=some (.tup ((plc n (own (grp rows) q.toNat)).map V.int)):=az ha _ _ aw;generalize upd (upd H' z (.tup ((plc n (own (grp rows) q.toNat)).map V.int))) a (.tup [.ref x,.ref y,.ref z])=H1 at s1 e1 e2⊢;have er1:=s1 _ _ er;refine⟨br,bs,_,rfl,rfl,er1,lt60 (by omega),hD _ _ ⟨⟨ks,bs++[.ref a],?_⟩,_,_,_,_,_,rfl⟩⟩;have t1:Tk H1 (upd H1 br (.lst (bs++[V.ref a]))):=lQ er1;have t2:Tk H' (upd H1 br (.lst (bs++[V.ref a]))):=fun b xs e=>t1 b xs (s1 _ _ e);refine⟨fN (s.trans s1) F.fbr,?_,?_,?_,aw,cR t2 nk,?_⟩
 ·rw[bh (cb F.n4)];exact s1 _ _ eg
 ·rw[bh (cb F.n5)];exact s1 _ _ eo
 ·rw[bh F.n1];exact s1 _ _ en
 ·rw[CZ hk h0]
  exact Paired.snoc ⟨a,x,y,z,rfl,t1 _ _ e1,t2 _ _ hx,t2 _ _ hy,t1 _ _ e2⟩ (bk.tk t2)
theorem wF(F:Fx H gl nd br so)(hn:n<=60)(hq:Grs n (grp rows) qs){k:Nat}{q:Int}(hk:qs[k]? =some q)(h0:q≠0)(hD:∀σ2 H2,Gv rows n qs H c r0 gl nd br so (k+1) σ2 H2->D.nx σ2 H2){pl ar be ab:Addr}
  (g:Gx rows n qs H gl nd br so (dn qs k) ks bs H')(np:pl≠nd)(ep:H' pl=some (.lst ((plc n (own (grp rows) q.toNat)).map V.int)))(eb:H' be=some (.tup ((nB (fr rows) n (grp rows) q).map V.int)))(ea:H' ab=some (.tup ((nA (fr rows) n (grp rows) q).map V.int))):
  wpB G K E mi D [some (.ref c),some (.ref r0),some (.ref gl),some (.ref nd),some (.ref br),some (.int q),some (.ref pl),some (.ref ar),some (.ref be),some (.ref ab)] H':=by
 have hdn:(dn qs k).length<=n:=HK hq;have hkl:=g.ksl;unfold mi;walk_at "wp";refine⟨.inl ⟨rfl,_,SqL.of g.en⟩,nd,ks,_,rfl,rfl,g.en,lt60 (by omega),?_⟩;have t1:Tk H' (upd H' nd (.lst (ks++[V.ref be]))):=lQ g.en;refine wD F hn hq hk h0 hD (fN g.s F.fnd) ?_ ?_ aw ?_ ?_ (g.bk.tk t1) ?_ (t1 _ _ eb) (t1 _ _ ea)
 ·rw[bh (cb F.n2)];exact g.eg
 ·rw[bh (cb F.n3)];exact g.eo
 ·rw[bh (cb F.n1)];exact g.eb
 ·rw[CZ hk h0,Bg]
  exact Paired.snoc ⟨be,rfl,t1 _ _ eb⟩ (cR t1 g.nk)
 ·rw[bh np];exact ep
theorem qG{P:Nat->Bool}{q:Int}{Q:VK}{tc:TT}{H1:Hp}(eg:H1 gl=some (.lst ((gsI rows n).map V.int)))(hn:n<=60)
  (step:∀(p:Nat)(u:Option V)(H3:Hp)(R:Bool->Hp->Prop),p<n->aS H1 H3->R (P p) H3->tc [some (.int p),some (.int q),some (.ref gl)] H3 R)
  (fin:∀H2 l,aS H1 H2->H2 l=none->Q (.ref l) (upd H2 l (.lst ((plc n P).map V.int)))):
  Dg (Itr 0 n) (l7 0) tc (uH 0) [none,some (.int q),some (.ref gl)] H1 Q:=by
 refine vP (xs:=nats n) za (xi (by unfold nats;simp;omega)) (fun _ _=>trivial) (fun v=>match v with |.int i=>P i.toNat|_=>false) id (fun τ=>∃u,τ=[u,some (.int q),some (.ref gl)]) ⟨none,rfl⟩ ?_ ?_
 ·rintro x τ H3 Rt Rf hx ⟨u,rfl⟩ s3 kt kf
  unfold nats at hx;obtain⟨p,hp,rfl⟩:=ao.mp hx;have hp:=aK.mp hp;refine step p u H3 _ hp s3 ?_;have e:P ((p:Int)).toNat=P p:=by rw[aP]
  cases h:P p with
  |true=>
   rw[if_pos rfl];exact⟨_,rfl,kt _ _ ⟨_,rfl⟩ (aS.refl _) (e.trans h)⟩
  |false=>
   rw[if_neg aD];exact kf _ _ ⟨_,rfl⟩ (aS.refl _) (e.trans h)
 ·intro H2 l s2 hl
  rw[vz (P:=P) fun p hp=>by show P ((p:Int)).toNat=P p;rw[aP]];exact fin H2 l s2 hl
theorem wG(g2:G.fn "turned" 2=some (lR K,[]))(F:Fx H gl nd br so)(hn:n<=60)(hl:(rows.getD 0 []).length=n)(hr:H r0=some (.tup ((rows.getD 0 []).map V.int)))(hq:Grs n (grp rows) qs){k:Nat}{q:Int}(hk:qs[k]? =some q)(h0:q≠0)(hD:∀σ2 H2,Gv rows n qs H c r0 gl nd br so (k+1) σ2 H2->D.nx σ2 H2){pl ar:Addr}{x y:Option V}
  (g:Gx rows n qs H gl nd br so (dn qs k) ks bs H')(np:pl≠nd)(ep:H' pl=some (.lst ((plc n (own (grp rows) q.toNat)).map V.int)))(er:H' ar=some (.lst ((plc n (M4.sub (grp rows) q.toNat)).map V.int))):
  wpB G K E mj D [some (.ref c),some (.ref r0),some (.ref gl),some (.ref nd),some (.ref br),some (.int q),some (.ref pl),some (.ref ar),x,y] H':=by
 unfold mj;walk_at "wp";refine⟨_,_,g2,r0,ar,_,_,rfl,SqT.of (g.s _ _ hr),SqL.of er,by omega,fun H1 be s1 _ eb=>?_⟩;have e1:trn (rows.getD 0 []) (plc n (M4.sub (grp rows) q.toNat))=nB (fr rows) n (grp rows) q:=by
  rw[<-hl];exact Ds
 rw[e1]at eb;unfold qP;walk_at "wp";refine⟨_,_,g2,be,pl,_,_,rfl,SqT.of eb,SqL.of (s1 _ _ ep),by unfold nB;rw[iE];exact hn,fun H2 ab s2 _ ea=>?_⟩;have e2:trn (nB (fr rows) n (grp rows) q) (plc n (own (grp rows) q.toNat))=nA (fr rows) n (grp rows) q:=by
  unfold nB nA;rw[trn_bl fun p=>own_sub,Iq]
 rw[e2]at ea;exact wF F hn hq hk h0 hD (g.same (s1.trans s2)) np (s2 _ _ (s1 _ _ ep)) (s2 _ _ eb) ea
theorem wH(g2:G.fn "turned" 2=some (lR K,[]))(F:Fx H gl nd br so)(hn:n<=60)(hl:(rows.getD 0 []).length=n)(hr:H r0=some (.tup ((rows.getD 0 []).map V.int)))(hq:Grs n (grp rows) qs){k:Nat}{q:Int}(hk:qs[k]? =some q)(h0:q≠0)(hD:∀σ2 H2,Gv rows n qs H c r0 gl nd br so (k+1) σ2 H2->D.nx σ2 H2){v w x y:Option V}
  (g:Gx rows n qs H gl nd br so (dn qs k) ks bs H'):
  wpB G K E mn D [some (.ref c),some (.ref r0),some (.ref gl),some (.ref nd),some (.ref br),some (.int q),v,w,x,y] H':=by
 obtain⟨p0,hp0,eq0⟩:=hq.2 q (aG hk);have hqt:q=(q.toNat:Int):=by rw[eq0,aP]
 have lenr:((rows.getD 0 []).map V.int).length=n:=by rw[ai];exact hl
 unfold mn;walk_at "wp";refine dA ?_;walk_at "wp";refine Or.inl ⟨r0,_,rfl,.inr (SqT.of (g.s _ _ hr)),_,rfl,by omega,by omega,?_⟩;rw[lenr,aP];refine qG (rows:=rows) (P:=own (grp rows) q.toNat) g.eg hn ?_ ?_
 ·intro p u H3 R hp s3 hR
  walk_at "wp"
  refine .inl ⟨gl,_,p,_,rfl,rfl,SqL.of (s3 _ _ g.eg),cN (fV (by rw[xR];exact hp)),?_⟩;rw[Hv hp];refine vM.mpr ?_;refine⟨_,rfl,?_⟩;have e:decide ((grp rows p:Int)=q)=own (grp rows) q.toNat p:=by
   unfold M5.own;rw[hqt,aP];exact decide_eq_decide.mpr (by omega)
  rw[e];exact hR
 intro H1 pl s1 hpl;have s2:aS H' (upd H1 pl (.lst ((plc n (own (grp rows) q.toNat)).map V.int))):=s1.trans (az hpl);have ep:upd H1 pl (.lst ((plc n (own (grp rows) q.toNat)).map V.int)) pl=some (.lst ((plc n (own (grp rows) q.toNat)).map V.int)):=aw;have np:pl≠nd:=fun z=>by rw[z,s1 _ _ g.en]at hpl;cases hpl
 have g:=g.same s2;generalize upd H1 pl (.lst ((plc n (own (grp rows) q.toNat)).map V.int))=H2 at ep g⊢;unfold qQ;walk_at "wp";refine dA ?_;walk_at "wp";refine Or.inl ⟨r0,_,rfl,.inr (SqT.of (g.s _ _ hr)),_,rfl,by omega,by omega,?_⟩;rw[lenr,aP];refine qG (rows:=rows) (P:=M4.sub (grp rows) q.toNat) g.eg hn ?_ ?_
 ·intro p u H3 R hp s3 hR
  walk_at "wp"
  refine .inl ⟨gl,_,p,_,rfl,rfl,SqL.of (s3 _ _ g.eg),cN (fV (by rw[xR];exact hp)),?_⟩;rw[Hv hp];refine and_ii.mpr (vM.mpr ⟨_,rfl,?_⟩);have e:decide (iP (grp rows p:Int) q=q)=M4.sub (grp rows) q.toNat p:=by
   unfold M4.sub;rw[hqt,and_nat,aP];exact decide_eq_decide.mpr (by omega)
  rw[e];exact hR
 intro H3 ar s3 har;exact wG g2 F hn hl hr hq hk h0 hD (g.same (s3.trans (az har))) np ((s3.trans (az har)) _ _ ep) aw
end
noncomputable def qo(rows:List (List Int))(n:Nat)(H:Hp)(H':Hp)(p:Addr):Prop:=∃(nl bl:Addr)(ks bs:List V)(qs:List Int),H' p=some (.tup [.ref nl,.ref bl])/\H nl=none/\H bl=none/\nl≠bl/\Grs n (grp rows) qs/\0∉qs/\(∀p,p<n->grp rows p≠0->(grp rows p:Int)∈qs)/\
 _root_.Q.IntKeys H' ks (fG (fr rows) n (grp rows) qs)/\lA (fr rows) n (grp rows) H' bs qs/\H' nl=some (.lst (_root_.Q.cF .non (fG (fr rows) n (grp rows) qs) ks))/\H' bl=some (.lst (_root_.Q.cF .non ((brK (fr rows) n (grp rows) qs).map _root_.Q.kW) bs))
noncomputable def sv:Sp:=fun vs H Q _=>∃(c:Addr)(ys:List V)(n:Nat)(rows:List (List Int)),vs=[.ref c]/\Cps H c ys n rows/\ys≠[]/\∀H' p,aS H H'->H p=none->qo rows n H H' p->Q (.ref p) H'
theorem Dq{G:Gam}{K:af}(g1:G.fn "group_at" 2=some (wW,[]))(g2:G.fn "turned" 2=some (lR K,[])):Sat G K sv C8 Cs:=by
 rintro vs H Q E ⟨c,ys,n,rows,rfl,d,hy,q⟩;unfold C8;change wpB G K _ _ _ [some (.ref c),none,none,none,none,none,none,none,none,none] H;walk_at "wp";have h0:0<ys.length:=eK.mpr hy;obtain⟨b,z,r0,e1,e2,e3⟩:=d.at_ 0 ys[0] (ae h0);obtain⟨hl,hf⟩:=d.row h0;have hf:∀p,p<n->fr rows p=0\/fr rows p=1:=hf;have hn:=d.n60;have lenr:((rows.getD 0 []).map V.int).length=n:=by rw[ai];exact hl
 have g0:ys[0]? =some (.ref b):=by rw[ae h0,e1]
 refine .inl ⟨c,ys,0,_,rfl,rfl,SqL.of d.ec,cN (j:=0) g0,?_⟩;refine .inr (.inl ⟨b,_,1,_,rfl,rfl,SqT.of e2,rfl,?_⟩);unfold vZ;walk_at "wp";refine dA ?_;walk_at "wp";refine Or.inl ⟨r0,_,rfl,.inr (SqT.of e3),_,rfl,by omega,by omega,?_⟩;rw[lenr,aP];refine di dP (xi (by omega)) (fun _ _=>trivial) (fun i v _=>v=.int (grp rows i)) (fun _ _ _ _ _ h=>h) (fun τ=>∃u,τ=[u,some (.ref c)]) ⟨none,rfl⟩ ?_ ?_
 ·rintro i x τ H3 R hi ⟨u,rfl⟩ s3 rfl k
  walk_at "wp"
  simp only[d7];exact⟨_,_,g1,c,i,ys,n,rows,rfl,d.same s3,hy,by omega,fun H4 s4=>k _ _ _ ⟨_,rfl⟩ s4 rfl⟩
 intro vs H1 gl hvl hF s1 hgl;have ev:vs=(gsI rows n).map V.int:=by
  unfold gsI;apply gB;intro i;rw[ak,ak];by_cases hi:i<vs.length
  ·rw[ae hi,a6 (by omega),hF i _ (ae hi)]
   rfl
  ·rw[bB (by omega),bB (by rw[bq];omega)]
   rfl
 rw[ev];have s2:aS H (upd H1 gl (.lst ((gsI rows n).map V.int))):=s1.trans (az hgl);have eg:upd H1 gl (.lst ((gsI rows n).map V.int)) gl=some (.lst ((gsI rows n).map V.int)):=aw;generalize upd H1 gl (.lst ((gsI rows n).map V.int))=H2 at s2 eg⊢;unfold vY;walk_at "wp";refine⟨short (by simp),fun nd hnd=>?_⟩;have s3:aS H2 (upd H2 nd (.lst [.ref r0])):=az hnd;have en:upd H2 nd (.lst [.ref r0]) nd=some (.lst [.ref r0]):=aw;have n2:nd≠gl:=fun z=>by rw[z,eg]at hnd;cases hnd
 have fnd:H nd=none:=s2.free hnd;generalize upd H2 nd (.lst [.ref r0])=H3 at s3 en⊢;unfold vX;walk_at "wp";refine⟨short (by simp),fun br hbr=>?_⟩;have s4:aS H3 (upd H3 br (.lst [])):=az hbr;have eb:upd H3 br (.lst []) br=some (.lst []):=aw;have n1:nd≠br:=fun z=>by rw[<-z,en]at hbr;cases hbr
 have n4:br≠gl:=fun z=>by rw[z,s3 _ _ eg]at hbr;cases hbr
 have fbr:H br=none:=(s2.trans s3).free hbr;have en:=s4 _ _ en;have eg:=s4 _ _ (s3 _ _ eg);have s5:=s2.trans (s3.trans s4);generalize upd H3 br (.lst [])=H4 at s5 eb en eg⊢;unfold vW;walk_at "wp";refine jb ?_;walk_at "wp";refine⟨_,rfl,gl,gsI rows n,rfl,SqL.of eg,by rw[xR];omega,fun ms so nd' mem hso=>?_⟩;obtain⟨qs,eq,pm⟩:=_root_.Q.Dy nd';have hq:Grs n (grp rows) qs:=⟨pm.nodup_iff.mpr nd',fun q hq=>by
  have h:=(mem q).mp (pm.mem_iff.mp hq);unfold gsI at h;obtain⟨p,hp,e⟩:=ao.mp h;exact⟨p,aK.mp hp,e.symm⟩⟩
 rw[eq];have s6:aS H4 (upd H4 so (.lst (qs.map V.int))):=az hso;have eo:upd H4 so (.lst (qs.map V.int)) so=some (.lst (qs.map V.int)):=aw;have n3:nd≠so:=fun z=>by rw[<-z,en]at hso;cases hso
 have n5:br≠so:=fun z=>by rw[<-z,eb]at hso;cases hso
 have F:Fx H gl nd br so:=⟨fnd,fbr,n1,n2,n3,n4,n5⟩;generalize upd H4 so (.lst (qs.map V.int))=H5 at s6 eo⊢;have gx:Gx rows n qs H gl nd br so (dn qs 0) [.ref r0] [] H5:=by
  refine⟨s5.trans s6,s6 _ _ eg,eo,s6 _ _ en,s6 _ _ eb,?_,.nil⟩;refine .cons ⟨r0,rfl,?_⟩ .nil;have ef:bl (fr rows) n (fun _=>false)=rows.getD 0 []:=by rw[<-hl];exact HD _
  rw[ef];exact(s5.trans s6) _ _ e3
 refine⟨so,rfl,⟨_,SqL.of eo⟩,Hy (eL (xs:=qs.map V.int)) (Gv rows n qs H c r0 gl nd br so) ⟨⟨_,_,gx⟩,_,_,_,_,_,rfl⟩ (fun k σ H' _ g=>?_) ?_ ?_⟩
 ·obtain⟨⟨ks,bs,g⟩,_⟩:=g
  exact SqL.of g.eo
 ·rintro k x σ H6 H7 D2 hk ⟨⟨ks,bs,g⟩,u,v,w,x',y,rfl⟩ hx s7 hD hC
  have g:=g.same s7;rw[ai]at hk;have hk':qs[k]? =some qs[k]:=ae hk;rw[ak,hk']at hx;cases hx;generalize qs[k]=q at hk';walk_at "wp";by_cases h0:q=0
  ·rw[decide_eq_true h0,if_pos rfl]
   refine hC _ _ ⟨⟨ks,bs,?_⟩,_,_,_,_,_,rfl⟩;rw[dn_zero (by rw[hk',h0])];exact g
  ·rw[decide_eq_false h0,if_neg aD]
   exact wH g2 F hn hl e3 hq hk' h0 hD g
 ·rintro σ H6 ⟨⟨ks,bs,g⟩,u,v,w,x',y,rfl⟩
  rw[ai]at g;have gq:Grs n (grp rows) (dn qs qs.length):=HL hq;have edn:dn qs qs.length=qs.filter fun q=> !decide (q=0):=by unfold dn;rw[eQ]
  have z0:(0:Int)∉dn qs qs.length:=fun z=>by
   rw[edn]at z;simpa using(eE.mp z).2
  have all:∀p,p<n->grp rows p≠0->(grp rows p:Int)∈dn qs qs.length:=fun p hp h=>by
   rw[edn];refine eE.mpr ⟨pm.mem_iff.mpr ((mem _).mpr ?_),?_⟩
   ·unfold gsI
    exact ao.mpr ⟨p,aK.mpr hp,rfl⟩
   ·have :¬((grp rows p:Int)=0):=by omega
    rw[decide_eq_false this];rfl
  generalize dn qs qs.length=ds at g gq z0 all;have hds:ds.length<=n:=rN gq;have hkl:=g.ksl;have hbl:=g.bsl;have nkl:=fJ g.nk;have bkl:=fJ g.bk.two;unfold vV;walk_at "wp";refine⟨nd,ks,_,n,rfl,SqL.of g.en,by omega,sM hf gq,DX,g.nk,fun nl hnl=>?_⟩;have t1:aS H6 (upd H6 nl (.lst (_root_.Q.cF .non (fG (fr rows) n (grp rows) ds) ks))):=az hnl;have enl:upd H6 nl (.lst (_root_.Q.cF .non (fG (fr rows) n (grp rows) ds) ks)) nl=some (.lst (_root_.Q.cF .non (fG (fr rows) n (grp rows) ds) ks)):=aw;have g':=g.same t1;generalize upd H6 nl (.lst (_root_.Q.cF .non (fG (fr rows) n (grp rows) ds) ks))=H7 at t1 enl g'⊢;refine⟨br,bs,_,n,rfl,SqL.of g'.eb,by omega,BN hf gq,brK_len,g'.bk.two,fun bl hbl2=>⟨short (by simp),fun p hp=>?_⟩⟩;have t2:=az (o:=.lst (_root_.Q.cF .non ((brK (fr rows) n (grp rows) ds).map _root_.Q.kW) bs)) hbl2;have t3:=az (o:=.tup [.ref nl,.ref bl]) hp;have g2:=g'.same (t2.trans t3);refine q _ p g2.s (((g'.s).trans t2).free hp) ⟨nl,bl,ks,bs,ds,aw,g.s.free hnl,g'.s.free hbl2,fun z=>by(rw[<-z,enl]at hbl2;cases hbl2),gq,z0,all,g2.nk,g2.bk,(t2.trans t3) _ _ enl,t3 _ _ aw⟩
end K32
namespace K32
open PySem R
noncomputable def p_tree:List Str:=["table"]
noncomputable def GP:List Str:=["table","copies"]
noncomputable def zX:CB:=
  (.cons (.ret (.call "grown" (.cons (.var 1) .nil)))
  .nil)
noncomputable def zY:CB:=
  (.cons (.iff (.cmp .Eq (.bfn .len (.cons (.var 1) .nil)) (.con (.int 0)))
  (.cons (.ret (.tup (.cons (.lst .nil) (.cons (.lst .nil) .nil))))
  .nil)
  .nil)
  zX)
noncomputable def zZ:CB:=
  (.cons (.expr (.call "refuse_clash" (.cons (.var 1) .nil)))
  zY)
noncomputable def Ii:CB:=
  (.cons (.asg (.name 1) (.call "table_list" (.cons (.var 0) .nil)))
  zZ)
end K32
namespace K32
open PySem PySem.Spec PyProof.Rows L2 R Cp Lt Kc K21 K22 Lm M5
theorem y9{H H':Hp}{x:V}{l:Addr}{zs:List V}(e:dR H x=true)(el:H' l=some (.lst zs))(hr:zs.map (cd H')=rowsOf H x)(tt:dR H' (.ref l)=true):rowsOf H' (.ref l)=rowsOf H x/\srt H' (.ref l)=zs:=by
 have hz:eD (H' l)=some zs:=by rw[el];rfl
 obtain⟨l',zs',ez,z1,z2,z3,z4,z5⟩:=eT tt;cases ez;rw[hz]at z1;cases z1;obtain⟨a,ys,rfl,h1,h2,h3,h4,h5⟩:=eT e;have ft:∀l:List V,l.filter (fun _=>true)=l:=fun l=>List.filter_eq_self.mpr fun _ _=>rfl;have r1:(_root_.Q.sortBy V.non (ys.map (aW H)) ys).map (aW H)=_root_.Q.sortBy ("":Str) (ys.map (aW H)) (ys.map (aW H)):=by
  have :=_root_.Q.qy V.non (aW H) (fun _=>true) h4
  rwa [ft,ft]at this
 have r2:(_root_.Q.sortBy V.non (zs.map (aW H')) zs).map (aW H')=_root_.Q.sortBy ("":Str) (zs.map (aW H')) (zs.map (aW H')):=by
  have :=_root_.Q.qy V.non (aW H') (fun _=>true) z4
  rwa [ft,ft]at this
 have en:zs.map (aW H')=_root_.Q.sortBy ("":Str) (ys.map (aW H)) (ys.map (aW H)):=by
  rw[<-r1,<-rF h1];have :=congrArg (List.map Prod.fst) hr;unfold rowsOf at this;rw[bg,bg]at this;exact this
 have p2:=_root_.Q.gc V.non z4 (ys:=zs) (by simp);have e2:_root_.Q.sortBy V.non (zs.map (aW H')) zs=zs:=by
  refine sY (DW z4) (fun a ha=>p2.mem_iff.mp ha) (fun a ha=>ha) ?_;rw[r2];refine _root_.Q.j8 (_root_.Q.gc ("":Str) z4 rfl) (_root_.Q.iS z4) ?_;rw[en];exact _root_.Q.iS h4
 have e3:srt H' (.ref l)=zs:=by rw[rF hz,e2]
 refine⟨?_,e3⟩;show(srt H' (.ref l)).map (cd H')=_;rw[e3];exact hr
noncomputable def intOf:V->Int
 |.int i=>i
 |_=>0
theorem kT{zs:List V}(h:∀z∈zs,cD z=true):(zs.map intOf).map V.int=zs/\∀x∈zs.map intOf,x=0\/x=1:=by
 constructor
 ·rw[bg]
  conv =>rhs;rw[<-fu zs]
  refine cm fun z hz=>?_;rcases gM (h z hz)with e|e<;>rw[e]<;>rfl
 ·intro x hx
  obtain⟨z,hz,rfl⟩:=ao.mp hx;rcases gM (h z hz)with e|e<;>rw[e]
  ·exact .inl rfl
  ·exact .inr rfl
noncomputable def rI(R:List (Str×List V)):List (List Int):=R.map fun p=>p.2.map intOf
theorem cps_of{H:Hp}{l:Addr}{zs:List V}(el:H l=some (.lst zs))(tt:dR H (.ref l)=true):Cps H l zs (count H (.ref l)) (rI (zs.map (cd H))):=by
 have hz:eD (H l)=some zs:=by rw[el];rfl
 obtain⟨l',zs',ez,z1,z2,z3,z4,z5⟩:=eT tt;cases ez;rw[hz]at z1;cases z1;refine⟨el,z2,by simp[rI],?_,fun i y e=>?_,fun r hr=>?_⟩
 ·cases zs with
  |nil=>
   show(match eD (H l)with |some (y::_)=>cG H y|_=>0)<=60;rw[hz];exact a7 _
  |cons y r=>
   rw[<-z5 y (.head _)];obtain⟨_,_,_,_,_,_,_,_,h60,_,_,h8⟩:=gZ (z3 y (.head _));rw[h8];exact h60
 ·obtain⟨b,r,rfl,k1,k2,k3,k4⟩:=jW (z3 y (aG e))
  refine⟨b,_,r,rfl,k1,?_⟩;have er:(rI (zs.map (cd H))).getD i []=(p8 H (.ref b)).map intOf:=by
   unfold rI;rw[ag,ak,ak,e];rfl
  rw[er,(kT k4).1];exact k2
 ·obtain⟨p,hp,rfl⟩:=ao.mp hr
  obtain⟨y,hy,rfl⟩:=ao.mp hp;obtain⟨b,r,rfl,k1,k2,k3,k4⟩:=jW (z3 y hy);refine⟨?_,(kT k4).2⟩;rw[ai,<-z5 _ hy];exact k3
theorem gr_free{T:Tb}{H H':Hp}{p:Addr}(g:Gr T H H')(t:Tab T H')(h:H' p=none):H p=none:=by
 cases e:H p with
 |none=>rfl
 |some o=>
  have hp:p≠T.P:=fun z=>by
   rw[z]at h;rcases t with t|⟨_,_,_,_,_,t,_⟩<;>(rw[h]at t;cases t)
  rw[g.keep p o hp e]at h;cases h
theorem Cps.gr{T:Tb}{H H':Hp}{c:Addr}{ys:List V}{n:Nat}{rows:List (List Int)}(d:Cps H c ys n rows)(g:Gr T H H')(tt:Tab T H):Cps H' c ys n rows:=
 {d with ec:=g.lst tt d.ec,at_:=fun i y e=>let⟨b,z,r,h1,h2,h3⟩:=d.at_ i y e;⟨b,z,r,h1,g.yP tt h2,g.yP tt h3⟩}
theorem qo.old{rows:List (List Int)}{n:Nat}{H H0 H':Hp}{p:Addr}(g:qo rows n H H' p)(f:∀p,H p=none->H0 p=none):qo rows n H0 H' p:=by
 obtain⟨nl,bl,ks,bs,qs,h1,h2,h3,h4⟩:=g;exact⟨nl,bl,ks,bs,qs,h1,f _ h2,f _ h3,h4⟩
noncomputable def TreeK(R:List (Str×List V))(n:Nat)(H H':Hp)(p:Addr):Prop:=
 (R=[]/\∃a b,H' p=some (.tup [.ref a,.ref b])/\H a=none/\H b=none/\a≠b/\H' a=some (.lst [])/\H' b=some (.lst []))\/(R≠[]/\qo (rI R) n H H' p)
end K32
namespace K82
open PySem PySem.Spec PyProof.Rows L2 R Cp Lt Lm
noncomputable abbrev Row:=Str×List V
end K82
namespace K24
open PySem PySem.Spec PyProof.Rows L2 R Cp Lt Kc K21 K22 Lm
theorem tG{rows:List (Str×List V)}{i j:Int}:oX rows i j=true↔∀u v:Int,(u=0\/u=1)->(v=0\/v=1)->∃r∈rows,DT i r=u/\DT j r=v:=by
 unfold oX;rw[bE];constructor
 ·intro h u v hu hv
  have hm:(u,v)∈KP:=by
   unfold KP;rcases hu with rfl|rfl<;>rcases hv with rfl|rfl<;>simp
  obtain⟨r,hr,e⟩:=cw.mp (h (u,v) hm);exact⟨r,hr,of_decide_eq_true e⟩
 ·intro h k hk
  have hu:(k.1=0\/k.1=1)/\(k.2=0\/k.2=1):=by
   unfold KP at hk;simp only[aB,dy,or_false]at hk;rcases hk with rfl|rfl|rfl|rfl<;>simp
  obtain⟨r,hr,e⟩:=h k.1 k.2 hu.1 hu.2;exact cw.mpr ⟨r,hr,decide_eq_true e⟩
end K24
namespace K84
open PySem PySem.Spec PyProof.Rows L2 R Cp Lt Kc K21 K22 K24 Lm
theorem mD{α:Type}[DecidableEq α]:∀{l m:List α},l.Nodup->m.Nodup->(∀x,x∈l↔x∈m)->l.Perm m
 | [],m,_,_,h=>by
  cases m with
  |nil=>exact .nil
  |cons x m=>exact nomatch(h x).mpr (.head _)
 |x::l,m,h1,h2,h=>by
  have hx:=(h x).mp (.head _);refine .trans (.cons x (mD (bU.mp h1).2 (h2.erase x) fun y=>?_)) (EX hx).symm;rw[h2.mem_erase_iff];constructor
  ·intro hy
   exact⟨fun e=>(bU.mp h1).1 (e▸hy),(h y).mp (.tail _ hy)⟩
  ·rintro⟨hne,hy⟩
   rcases aB.mp ((h y).mpr hy)with e|e
   ·exact absurd e hne
   ·exact e
end K84
namespace K83
open PySem PySem.Spec PyProof.Rows L2 R Cp Lt Kc K84 Lm
theorem Gc{α β:Type}{F:α->β->Prop}{l:List α}{m:List β}(p:Paired F l m):l.length=m.length:=by
 induction p with
 |nil=>rfl
 |cons _ _ ih=>rw[bS,bS,ih]
theorem pr_at{α β:Type}{F:α->β->Prop}{l:List α}{m:List β}(p:Paired F l m):∀{i:Nat}{a:α},l[i]? =some a->∃b,m[i]? =some b/\F a b:=by
 induction p with
 |nil=>intro i a h;cases h
 |cons h _ ih=>
  intro i a e;cases i with
  |zero=>cases e;exact⟨_,rfl,h⟩
  |succ i=>exact ih e
end K83
namespace K83
open PySem R
noncomputable def sG:List Str:=["table"]
noncomputable def lV:List Str:=["table","found"]
noncomputable def md:CB:=
  (.cons (.asg (.name 1) (.call "clash" (.cons (.var 0) .nil)))
  (.cons (.iff (.cmp .IsNot (.var 1) (.con .none)) .hole .nil)
  .nil))
end K83
namespace K83
open PySem PySem.Spec PyProof.Rows L2 R Cp Lt Lm K82
theorem oE{ps:List (List Int)}(nd:ps.Nodup):(_root_.Q.cF [] ps ps).Pairwise fun a b=>_root_.Q.llt a b=true:=by
 unfold _root_.Q.cF _root_.Q.DQ;split
 ·rename_i h
  rw[_root_.Q.range_getD]
  match ps,h with
  | [],_=>exact .nil
  | [x],_=>simp
  |_::_::_,h=>simp at h;omega
 ·rename_i h
  obtain⟨P,U,_⟩:=_root_.Q.fv (_root_.Q.Dt nd) (by omega:1<=ps.length);rw[eY];intro i j hi hj hij;have hj':j<ps.length:=by simpa[P.size]using hj
  have u:=U i j hij hj';rw[cJ,cJ];have e:∀(k:Nat)(hk:k<(_root_.Q.run (_root_.Q.ltL ps) (lD ps.length)).toList.length),(_root_.Q.run (_root_.Q.ltL ps) (lD ps.length)).toList[k]=_root_.Q.at' (_root_.Q.run (_root_.Q.ltL ps) (lD ps.length)) k:=fun k hk=>by
   have hk':k<(_root_.Q.run (_root_.Q.ltL ps) (lD ps.length)).size:=by simpa using hk
   simp[_root_.Q.at',hk']
  rw[e,e];exact u
theorem xB{ps:List (List Int)}(nd:ps.Nodup){i:Nat}(h:i∈_root_.Q.DQ ps):i<ps.length:=aK.mp ((_root_.Q.kP nd).mem_iff.mp h)
theorem jC{α:Type}(d:α){ps:List (List Int)}{ys:List α}(nd:ps.Nodup)(hl:ps.length=ys.length):(_root_.Q.cF d ps ys).Perm ys:=by
 unfold _root_.Q.cF;have h:=(_root_.Q.kP nd).map fun i=>ys.getD i d;rw[hl,_root_.Q.range_getD]at h;exact h
theorem Bl{a b:List Int}(h:_root_.Q.llt a b=true)(k:_root_.Q.llt b a=true):a=b:=by
 have c:=_root_.Q.qe h k;have :∀x:List Int,_root_.Q.llt x x=false:=fun x=>by
  induction x with
  |nil=>rfl
  |cons a x ih=>simp[_root_.Q.llt,ih]
 rw[this]at c;cases c
theorem Dx{α:Type}(d:α)(F:α->List Int){ys:List α}(nd:(ys.map F).Nodup):(_root_.Q.cF d (ys.map F) ys).map F=_root_.Q.cF [] (ys.map F) (ys.map F):=by
 unfold _root_.Q.cF;rw[bg];refine cm fun i hi=>?_;have :=xB nd hi;rw[ai]at this;show F (ys.getD i d)=_;rw[ag,ag,ak,ae this];rfl
theorem mw{α:Type}(d:α)(F:α->List Int){ys zs:List α}(nd:(ys.map F).Nodup)(p:ys.Perm zs):_root_.Q.cF d (ys.map F) ys=_root_.Q.cF d (zs.map F) zs:=by
 have nd2:=(p.map F).nodup_iff.mp nd;have pw:∀{ys:List α},(ys.map F).Nodup->(_root_.Q.cF d (ys.map F) ys).Pairwise fun a b=>_root_.Q.llt (F a) (F b)=true:=fun{ys} nd=>by
  have h:=oE nd;rw[<-Dx d F nd]at h;exact bQ.mp h
 have p1:=jC d (ys:=ys) nd (by simp);have p2:=jC d (ys:=zs) nd2 (by simp);refine gR (fun a b ha hb h k=>?_) (pw nd) (pw nd2) (p1.trans (p.trans p2.symm));have e:=Bl h k;have ha':=p1.mem_iff.mp ha;have hb':=p.mem_iff.mpr (p2.mem_iff.mp hb);obtain⟨i,hi,rfl⟩:=dz.mp ha';obtain⟨j,hj,rfl⟩:=dz.mp hb';have :(ys.map F)[i]'(by simpa using hi)=(ys.map F)[j]'(by simpa using hj):=by rw[cJ,cJ];exact e
 have :=(dY nd).mp this
 subst this;rfl
theorem mB{α:Type}{F:V->α->Prop}{ps:List (List Int)}{ys:List V}{ks:List α}{d:α}(nd:ps.Nodup)(hl:ps.length=ys.length)(p:Paired F ys ks):Paired F (_root_.Q.cF .non ps ys) (_root_.Q.cF d ps ks):=by
 unfold _root_.Q.cF;have key:∀{is:List Nat},(∀i∈is,i<ys.length)->Paired F (is.map fun i=>ys.getD i .non) (is.map fun i=>ks.getD i d):=fun{is} h=>by
  induction is with
  |nil=>exact .nil
  |cons i is ih=>
   have hi:=h i aI;obtain⟨b,e,f⟩:=pr_at p (ae hi);refine .cons ?_ (ih fun j hj=>h j (aH _ hj));show F (ys.getD i .non) (ks.getD i d);rw[ag,ag,ae hi,e];exact f
 exact key fun i hi=>by rw[<-hl];exact xB nd hi
noncomputable def GrQ(rows:List (List Int))(n:Nat)(qs:List Int):Prop:=M5.Grs n (K32.grp rows) qs/\0∉qs/\∀p,p<n->K32.grp rows p≠0->(K32.grp rows p:Int)∈qs
theorem GrQ.perm{rows:List (List Int)}{n:Nat}{qs ps:List Int}(a:GrQ rows n qs)(b:GrQ rows n ps):qs.Perm ps:=by
 have s:∀{qs ps:List Int},GrQ rows n qs->GrQ rows n ps->∀x∈qs,x∈ps:=fun{qs ps} a b x hx=>by
  obtain⟨p,hp,rfl⟩:=a.1.2 x hx;exact b.2.2 p hp fun z=>a.2.1 (by rw[z]at hx;exact hx)
 exact K84.mD a.1.1 b.1.1 fun x=>⟨s a b x,s b a x⟩
noncomputable def nd1(k:List Int):L2.D:=.tup (k.map .int)
noncomputable def brF(rows:List (List Int))(n:Nat)(q:Int):List Int:=_root_.Q.kW (M4.lo (M5.nA (K32.fr rows) n (K32.grp rows) q) (M5.nB (K32.fr rows) n (K32.grp rows) q),M4.hi (M5.nA (K32.fr rows) n (K32.grp rows) q) (M5.nB (K32.fr rows) n (K32.grp rows) q))
noncomputable def br1(rows:List (List Int))(n:Nat)(q:Int):L2.D:=.tup [nd1 (M4.lo (M5.nA (K32.fr rows) n (K32.grp rows) q) (M5.nB (K32.fr rows) n (K32.grp rows) q)),nd1 (M4.hi (M5.nA (K32.fr rows) n (K32.grp rows) q) (M5.nB (K32.fr rows) n (K32.grp rows) q)),nd1 (M5.plc n (M5.own (K32.grp rows) q.toNat))]
noncomputable def gD(rows:List (List Int))(n:Nat)(qs:List Int):L2.D:=
 .tup [.lst ((_root_.Q.cF [] (M5.fG (K32.fr rows) n (K32.grp rows) qs) (M5.fG (K32.fr rows) n (K32.grp rows) qs)).map nd1),.lst ((_root_.Q.cF 0 (qs.map (brF rows n)) qs).map (br1 rows n))]
noncomputable def qs0(rows:List (List Int))(n:Nat):List Int:=Classical.epsilon (GrQ rows n)
theorem oG{K:af}{H:Hp}{α:Type}{F:V->α->Prop}{g:α->L2.D}(f:∀v a,F v a->Rep K H (g a) v){ys:List V}{ks:List α}(p:Paired F ys ks):fg K H (ks.map g) ys:=by
 induction p with
 |nil=>rfl
 |cons h _ ih=>exact⟨_,_,rfl,f _ _ h,ih⟩
theorem lg{K:af}{H:Hp}{a:Addr}{k:List Int}(h:H a=some (.tup (k.map V.int))):Rep K H (nd1 k) (.ref a):=⟨a,_,rfl,SqT.of h,fg.ints k⟩
theorem Ek{K:af}{rows:List (List Int)}{n:Nat}{H H':Hp}{p:Addr}(hf:∀p,p<n->K32.fr rows p=0\/K32.fr rows p=1)(g:K32.qo rows n H H' p):Rep K H' (gD rows n (qs0 rows n)) (.ref p):=by
 obtain⟨nl,bl,ks,bs,qs,ep,_,_,_,h1,h2,h3,ik,bk,en,eb⟩:=g;have q:GrQ rows n qs:=⟨h1,h2,h3⟩;have q0:GrQ rows n (qs0 rows n):=yA (p:=GrQ rows n) ⟨qs,q⟩;have pm:=q.perm q0;have ndn:=M5.sM hf h1;have ndb:=M5.BN hf h1;have e1:(M5.brK (K32.fr rows) n (K32.grp rows) qs).map _root_.Q.kW=qs.map (brF rows n):=by unfold M5.brK;rw[bg];rfl
 rw[e1]at ndb eb;have s1:_root_.Q.cF [] (M5.fG (K32.fr rows) n (K32.grp rows) qs) (M5.fG (K32.fr rows) n (K32.grp rows) qs)=_root_.Q.cF [] (M5.fG (K32.fr rows) n (K32.grp rows) (qs0 rows n)) (M5.fG (K32.fr rows) n (K32.grp rows) (qs0 rows n)):=by
  have :=mw [] id (ys:=M5.fG (K32.fr rows) n (K32.grp rows) qs) (zs:=M5.fG (K32.fr rows) n (K32.grp rows) (qs0 rows n)) (by rw[fu];exact ndn) (.cons _ (pm.map _))
  rwa [fu,fu]at this
 have s2:=mw (0:Int) (brF rows n) ndb pm;refine⟨p,_,rfl,SqT.of ep,_,_,rfl,⟨nl,_,rfl,SqL.of en,?_⟩,_,_,rfl,⟨bl,_,rfl,SqL.of eb,?_⟩,rfl⟩
 ·rw[<-s1]
  exact oG (fun v a ⟨x,e,h⟩=>by subst e;exact lg h) (mB ndn (Gc ik).symm ik)
 ·rw[<-s2]
  refine oG (fun v q' ⟨a,x,y,z,e,e0,e1,e2,e3⟩=>?_) (mB (d:=(0:Int)) ndb (by rw[ai];exact(Gc bk).symm) bk);subst e;exact⟨a,_,rfl,SqT.of e0,_,_,rfl,lg e1,_,_,rfl,lg e2,_,_,rfl,lg e3,rfl⟩
noncomputable def tD(n:Nat)(R:List K82.Row):L2.D:=if R=[]then .tup [.lst [],.lst []]else gD (K32.rI R) n (qs0 (K32.rI R) n)
theorem yQ{K:af}{R:List K82.Row}{n m:Nat}{H H':Hp}{p:Addr}(hr:∀l∈R,l.2.length=n/\∀y∈l.2,cD y=true)(hm:R≠[]->m=n)(t:K32.TreeK R m H H' p):Rep K H' (tD n R) (.ref p):=by
 unfold tD;rcases t with⟨h,a,b,ep,_,_,_,ea,eb⟩ |⟨h,g⟩
 ·rw[if_pos h]
  exact⟨p,_,rfl,SqT.of ep,_,_,rfl,⟨a,_,rfl,SqL.of ea,rfl⟩,_,_,rfl,⟨b,_,rfl,SqL.of eb,rfl⟩,rfl⟩
 ·rw[if_neg h]
  rw[hm h]at g;refine Ek (fun q hq=>?_) g;cases R with
  |nil=>exact absurd rfl h
  |cons l R=>
   obtain⟨h1,h2⟩:=hr l aI;have :=M6.Ok.at (n:=(l.2.map K32.intOf).length) ⟨rfl,(K32.kT h2).2⟩ q;exact this
section
variable {G:Gam}{K:af}{C CS:Addr}{T:Tb}
noncomputable def Fw(T:Tb):Sp:=fun vs H Q _=>∃x,vs=[x]/\Kn4 H x/\Tab T H/\dR H x=true/\K22.NoC (K22.rowsOf H x) (count H x)/\∀H',Gr T H H'->Q .non H'
theorem wp_ref(g1:G.fn "clash" 1=some (K22.wZ C T,[])):Sat G K (Fw T) md lV:=by
 rintro vs H Q E ⟨x,rfl,hk,tb,e,nc,q⟩;unfold md;change wpB G K _ _ _ [some x,none] H;walk_at "wp";refine⟨_,_,g1,x,rfl,hk,tb,fun _ H1 v gr rs=>?_,fun z=>by rw[e]at z;cases z⟩;rcases rs with⟨rfl,hc⟩ |⟨i,j,a,l,rfl,fi,ea,el⟩
 ·rw[if_neg (by simp)]
  exact q H1 gr
 ·have :=nc i j fi.ij fi.jn
  rw[fi.four]at this;cases this
noncomputable def sk(T:Tb):Sp:=fun vs H Q _=>∃x,vs=[x]/\Kn4 H x/\Tab T H/\dR H x=true/\K22.NoC (K22.rowsOf H x) (count H x)/\∀H' p,Gr T H H'->H p=none->K32.TreeK (K22.rowsOf H x) (count H x) H H' p->Q (.ref p) H'
theorem wp_tree(g1:G.fn "table_list" 1=some (wU C T,[]))(g2:G.fn "refuse_clash" 1=some (Fw T,[]))(g3:G.fn "grown" 1=some (K32.sv,[])):
  Sat G K (sk T) K32.Ii K32.GP:=by
 rintro vs H Q E ⟨x,rfl,hk,tb,e,qc,qn⟩;unfold K32.Ii;change wpB G K _ _ _ [some x,none] H;walk_at "wp";refine⟨_,_,g1,x,rfl,hk,tb,fun _ H1 l zs gr hl el cpd=>?_,fun z=>by rw[e]at z;cases z⟩;obtain⟨kn,tt,ct,rows⟩:=K22.tM e el cpd;obtain⟨ro,_⟩:=K32.y9 e el rows tt;have cps:=K32.cps_of el tt;rw[ct,rows]at cps;have hlen:zs.length=(K22.rowsOf H x).length:=by rw[<-rows,ai]
 have tb1:=gr.tab tb;generalize K22.rowsOf H x=R at qn qc ro cps hlen;generalize count H x=n at qn qc ct cps;unfold K32.zZ;walk_at "wp";refine⟨_,_,g2,.ref l,rfl,kn,tb1,tt,by rw[ro,ct];exact qc,fun H2 gr2=>?_⟩;have cps:=cps.gr gr2 tb1;have tb2:=gr2.tab tb1;have fre:∀p,H2 p=none->H p=none:=fun p=>K32.gr_free (gr.trans gr2) tb2;unfold K32.zY;walk_at "wp";refine Or.inl ⟨l,zs,rfl,.inl (SqL.of cps.ec),?_⟩;refine vM.mpr ⟨_,rfl,?_⟩;by_cases hz:zs=[]
 ·have hR:R=[]:=aX.mp (by rw[<-hlen,hz];rfl)
  rw[hz,if_pos (by simp)];refine⟨short (by simp),fun a ha=>⟨short (by simp),fun b hb=>⟨short (by simp),fun p hp=>?_⟩⟩⟩;have s1:=az (o:=.lst []) ha;have s2:=az (o:=.lst []) hb;have s3:=az (o:=.tup [.ref a,.ref b]) hp;refine qn _ p ((gr.trans gr2).trans (Gr.of (s1.trans (s2.trans s3)))) (fre _ ((s1.trans s2).free hp)) (.inl ⟨hR,a,b,aw,fre _ ha,fre _ (s1.free hb),fun z=>?_,(s2.trans s3) _ _ aw,s3 _ _ aw⟩);rw[<-z,aw]at hb;cases hb
 ·rw[if_neg (fun z=>hz (aX.mp (by have :=of_decide_eq_true z;omega)))]
  unfold K32.zX;walk_at "wp";refine⟨_,_,g3,l,zs,n,K32.rI R,rfl,cps,hz,fun H3 p s3 hp gk=>?_⟩;exact qn H3 p ((gr.trans gr2).trans (Gr.of s3)) (fre _ hp) (.inr ⟨fun z=>hz (aX.mp (by rw[hlen,z];rfl)),gk.old fre⟩)
end
end K83
namespace M8
open K32 M7 K83
theorem ex_grq(rows:List (List Int))(n:Nat):∃qs,GrQ rows n qs:=by
 induction n with
 |zero=>exact⟨[],⟨gJ,fun _ h=>by cases h⟩,by simp,fun p hp=>by omega⟩
 |succ n ih=>
  obtain⟨qs,⟨nd,h1⟩,h2,h3⟩:=ih;by_cases c:grp rows n=0\/(grp rows n:Int)∈qs
  ·refine⟨qs,⟨nd,fun q hq=>let⟨p,hp,e⟩:=h1 q hq;⟨p,by omega,e⟩⟩,h2,fun p hp hz=>?_⟩
   by_cases e:p=n
   ·rw[e]at hz⊢
    rcases c with c|c
    ·exact absurd c hz
    ·exact c
   ·exact h3 p (by omega) hz
  ·rw[not_or]at c
   refine⟨qs++[(grp rows n:Int)],⟨de.mpr ⟨nd,by simp,fun a ha b hb e=>c.2 (by rw[aC.mp hb]at e;rw[<-e];exact ha)⟩,fun q hq=>?_⟩,fun z=>?_,fun p hp hz=>?_⟩
   ·rcases bF.mp hq with hq|hq
    ·obtain⟨p,hp,e⟩:=h1 q hq
     exact⟨p,by omega,e⟩
    ·exact⟨n,by omega,aC.mp hq⟩
   ·rcases bF.mp z with z|z
    ·exact h2 z
    ·have :=aC.mp z
     omega
   ·by_cases e:p=n
    ·rw[e];simp
    ·exact jw _ (h3 p (by omega) hz)
theorem nT(rows:List (List Int))(n:Nat):GrQ rows n (qs0 rows n):=yA (ex_grq rows n)
noncomputable def nds(rows:List (List Int))(n:Nat):List (List Int):=M5.fG (fr rows) n (grp rows) (qs0 rows n)
noncomputable abbrev Tri:=List Int×List Int×List Int
noncomputable def tri(rows:List (List Int))(n p:Nat):Tri:=(M4.lo (hZ rows n p) (below rows n p),M4.hi (hZ rows n p) (below rows n p),M5.plc n (M5.own (grp rows) (grp rows p)))
noncomputable def triQ(rows:List (List Int))(n:Nat)(q:Int):Tri:=(M4.lo (M5.nA (fr rows) n (grp rows) q) (M5.nB (fr rows) n (grp rows) q),M4.hi (M5.nA (fr rows) n (grp rows) q) (M5.nB (fr rows) n (grp rows) q),M5.plc n (M5.own (grp rows) q.toNat))
noncomputable def trs(rows:List (List Int))(n:Nat):List Tri:=(qs0 rows n).map (triQ rows n)
noncomputable def key(x:Tri):List Int:=_root_.Q.kW (x.1,x.2.1)
noncomputable def qW(x:Tri):L2.D:=.tup [nd1 x.1,nd1 x.2.1,nd1 x.2.2]
noncomputable def iZ(xs:List (List Int)):List (List Int):=_root_.Q.cF [] xs xs
noncomputable def pV(xs:List Tri):List Tri:=_root_.Q.cF ([],[],[]) (xs.map key) xs
theorem uJ{α β:Type}(d:α)(e:β)(g:α->β){ps:List (List Int)}{ys:List α}(nd:ps.Nodup)(hl:ps.length=ys.length):(_root_.Q.cF d ps ys).map g=_root_.Q.cF e ps (ys.map g):=by
 unfold _root_.Q.cF;rw[bg];refine cm fun i hi=>?_;have :=xB nd hi;show g (ys.getD i d)=_;rw[ag,ag,ak,ae (by omega)];rfl
section
variable {rows rows2:List (List Int)}{n:Nat}
theorem gN(t:Tbl rows n){v:List Int}:v∈nds rows n↔Fits rows n v:=by
 have q:=nT rows n;unfold nds M5.fG;rw[aB];constructor
 ·rintro(rfl|h)
  ·exact By t
  ·obtain⟨x,hx,rfl⟩:=ao.mp h
   obtain⟨p,hp,rfl⟩:=q.1.2 x hx;exact Bz t (p:=p) fun z=>q.2.1 (by rw[z]at hx;exact hx)
 ·intro h
  rcases of_fits t h with h|⟨p,hp,hz,h⟩
  ·exact .inl h
  ·exact .inr (ao.mpr ⟨_,q.2.2 p hp hz,h.symm⟩)
theorem oA(t:Tbl rows n){x:Tri}:x∈trs rows n↔∃p,p<n/\grp rows p≠0/\x=tri rows n p:=by
 have q:=nT rows n;unfold trs;rw[ao];constructor
 ·rintro⟨y,hy,rfl⟩
  obtain⟨p,hp,rfl⟩:=q.1.2 y hy;exact⟨p,hp,fun z=>q.2.1 (by rw[z]at hy;exact hy),rfl⟩
 ·rintro⟨p,hp,hz,rfl⟩
  exact⟨_,q.2.2 p hp hz,rfl⟩
theorem nU(t:Tbl rows n):(nds rows n).Nodup:=M5.sM (fun p _=>t.f01 p) (nT rows n).1
theorem rZ(t:Tbl rows n):((trs rows n).map key).Nodup:=by
 have :=M5.BN (fun p _=>t.f01 p) (nT rows n).1
 unfold M5.brK at this;rw[bg]at this;unfold trs;rw[bg];exact this
theorem gD_is(t:Tbl rows n):gD rows n (qs0 rows n)=.tup [.lst ((iZ (nds rows n)).map nd1),.lst ((pV (trs rows n)).map qW)]:=by
 unfold gD pV;have nd:=rZ t;have e:(trs rows n).map key=(qs0 rows n).map (brF rows n):=by unfold trs;rw[bg];rfl
 rw[e]at nd⊢;have :=uJ (0:Int) (([],[],[]):Tri) (triQ rows n) (ys:=qs0 rows n) nd (by simp);unfold trs;rw[<-this,bg];rfl
structure Iso(rows rows2:List (List Int))(n:Nat)(φ:List Int->List Int)(o oi:Nat->Nat):Prop where
 t:Tbl rows n
 t2:Tbl rows2 n
 lt:∀j,j<n->o j<n
 lti:∀p,p<n->oi p<n
 l1:∀j,j<n->oi (o j)=j
 l2:∀p,p<n->o (oi p)=p
 fit:∀v,Fits rows n v->Fits rows2 n (φ v)
 tif:∀w,Fits rows2 n w->∃v,Fits rows n v/\w=φ v
 inj:∀u v,M6.Ok n u->M6.Ok n v->φ u=φ v->u=v
 ed:∀j v,j<n->End rows n (o j) v->End rows2 n j (φ v)
 cls:∀i j,i<n->j<n->(Cls rows2 i j↔Cls rows (o i) (o j))
 nz:∀j,j<n->(grp rows2 j≠0↔grp rows (o j)≠0)
noncomputable def psi(n:Nat)(φ:List Int->List Int)(o:Nat->Nat)(x:Tri):Tri:=(M4.lo (φ x.1) (φ x.2.1),M4.hi (φ x.1) (φ x.2.1),M5.plc n fun i=>decide ((o i:Int)∈x.2.2))
variable {φ:List Int->List Int}{o oi:Nat->Nat}
theorem Iso.nodes(I:Iso rows rows2 n φ o oi):((nds rows n).map φ).Perm (nds rows2 n):=by
 refine K84.mD ?_ (nU I.t2) fun w=>?_
 ·refine bQ.mpr ?_
  have nd:(nds rows n).Pairwise (fun a b=>a≠b):=nU I.t;refine(eG.mp nd).imp ?_;rintro a b ⟨ha,hb,hab⟩ e;exact hab (I.inj a b ((gN I.t).mp ha).1 ((gN I.t).mp hb).1 e)
 ·rw[gN I.t2,ao]
  constructor
  ·rintro⟨v,hv,rfl⟩
   exact I.fit v ((gN I.t).mp hv)
  ·intro h
   obtain⟨v,hv,rfl⟩:=I.tif w h;exact⟨v,(gN I.t).mpr hv,rfl⟩
theorem sX{P:Nat->Bool}{x:Int}(h:x∈M5.plc n P):∃i,i<n/\P i=true/\x=(i:Int):=by
 obtain⟨i,hi,rfl⟩:=ao.mp h;have :=eE.mp hi;exact⟨i,aK.mp this.1,this.2,rfl⟩
theorem vq{P P':Nat->Bool}(h:∀i,i<n->P i=P' i):M5.plc n P=M5.plc n P':=by
 unfold M5.plc;rw[List.filter_congr fun i hi=>h i (aK.mp hi)]
theorem Iso.tri(I:Iso rows rows2 n φ o oi){j:Nat}(hj:j<n)(hz:grp rows (o j)≠0):M8.tri rows2 n j=psi n φ o (M8.tri rows n (o j)):=by
 have hp:=I.lt j hj;have hz2:=(I.nz j hj).mpr hz;have a:=zP I.t hp hz;have b:=vN I.t hp hz;have ne:=rO I.t (rows:=rows) hp;have ne2:φ (hZ rows n (o j))≠φ (below rows n (o j)):=fun e=>ne (I.inj _ _ a.ok b.ok e);have c:=HH I.t2 hj hz2 (I.ed j _ hj a) (I.ed j _ hj b) ne2;have d:M4.lo (φ (M4.lo (hZ rows n (o j)) (below rows n (o j)))) (φ (M4.hi (hZ rows n (o j)) (below rows n (o j))))=M4.lo (φ (hZ rows n (o j))) (φ (below rows n (o j)))/\M4.hi (φ (M4.lo (hZ rows n (o j)) (below rows n (o j)))) (φ (M4.hi (hZ rows n (o j)) (below rows n (o j))))=M4.hi (φ (hZ rows n (o j))) (φ (below rows n (o j))):=by
  unfold M4.lo M4.hi;rw[_root_.Q.iT ne];cases _root_.Q.llt (below rows n (o j)) (hZ rows n (o j))with
  |false=>exact⟨rfl,rfl⟩
  |true=>exact⟨Cy (cb ne2),CJ (cb ne2)⟩
 unfold psi M8.tri;refine Prod.ext (c.1.trans d.1.symm) (Prod.ext (c.2.trans d.2.symm) (vq fun i hi=>?_));rw[eH,decide_eq_true_eq,M5.mG (I.lt i hi)];unfold M5.own;rw[decide_eq_true_eq,decide_eq_true_eq,I.t2.cls,I.t.cls];exact I.cls i j hi hj
theorem Iso.tris(I:Iso rows rows2 n φ o oi):((trs rows n).map (psi n φ o)).Perm (trs rows2 n):=by
 have nd2:(trs rows2 n).Nodup:=by
  have :=rZ I.t2
  exact(bQ.mp this).imp fun h e=>h (by rw[e])
 refine K84.mD ?_ nd2 fun x=>?_
 ·unfold trs
  rw[bg];refine bQ.mpr ?_;have q:=nT rows n;have nd:(qs0 rows n).Pairwise (fun a b=>a≠b):=q.1.1;refine(eG.mp nd).imp ?_;rintro a b ⟨ha,hb,hab⟩ e;obtain⟨p,hp,rfl⟩:=q.1.2 a ha;obtain⟨p',hp',rfl⟩:=q.1.2 b hb;have z1:grp rows p≠0:=fun z=>q.2.1 (by rw[z]at ha;exact ha);have z2:grp rows p'≠0:=fun z=>q.2.1 (by rw[z]at hb;exact hb);have e:psi n φ o (M8.tri rows n p)=psi n φ o (M8.tri rows n p'):=e;have j1:=I.lti p hp;have j2:=I.lti p' hp';have t1:=I.tri j1 (by rw[I.l2 p hp];exact z1);have t2:=I.tri j2 (by rw[I.l2 p' hp'];exact z2);rw[I.l2 p hp]at t1;rw[I.l2 p' hp']at t2;have e2:M8.tri rows2 n (oi p)=M8.tri rows2 n (oi p'):=by rw[t1,t2,e]
  have g2:grp rows2 (oi p)=grp rows2 (oi p'):=by
   apply aR
   intro hne;have :=M4.wa (f:=fr rows2) (n:=n) (grp:=grp rows2) (fun p _=>I.t2.f01 p) j1 j2 hne;apply this;show M4.lo (hZ rows2 n (oi p)) (below rows2 n (oi p))++M4.hi (hZ rows2 n (oi p)) (below rows2 n (oi p))=M4.lo (hZ rows2 n (oi p')) (below rows2 n (oi p'))++M4.hi (hZ rows2 n (oi p')) (below rows2 n (oi p'));rw[show M4.lo (hZ rows2 n (oi p)) (below rows2 n (oi p))=M4.lo (hZ rows2 n (oi p')) (below rows2 n (oi p'))from congrArg Prod.fst e2,show M4.hi (hZ rows2 n (oi p)) (below rows2 n (oi p))=M4.hi (hZ rows2 n (oi p')) (below rows2 n (oi p'))from congrArg (fun x:Tri=>x.2.1) e2]
  have c:=(I.cls _ _ j1 j2).mp (I.t2.cls.mp g2);rw[I.l2 p hp,I.l2 p' hp']at c;exact hab (by rw[I.t.cls.mpr c])
 ·rw[oA I.t2,ao]
  constructor
  ·rintro⟨y,hy,rfl⟩
   obtain⟨p,hp,hz,rfl⟩:=(oA I.t).mp hy;have j1:=I.lti p hp;refine⟨oi p,j1,(I.nz _ j1).mpr (by rw[I.l2 p hp];exact hz),?_⟩;rw[I.tri j1 (by rw[I.l2 p hp];exact hz),I.l2 p hp]
  ·rintro⟨j,hj,hz,rfl⟩
   have hz':=(I.nz j hj).mp hz;exact⟨_,(oA I.t).mpr ⟨o j,I.lt j hj,hz',rfl⟩,(I.tri hj hz').symm⟩
end
end M8
namespace M9
open K32 M7 M8
section
variable {rows rows2:List (List Int)}{n:Nat}
theorem oB{p:Nat}(t:Tbl rows n):grp rows p≠0↔∃r∈rows,∃s∈rows,r.getD p 0≠s.getD p 0:=by
 rw[gnz];constructor
 ·rintro⟨r,hr,h⟩
  exact⟨r,hr,_,t.first,kz.mp h⟩
 ·rintro⟨r,hr,s,hs,h⟩
  by_cases e:r.getD p 0=fr rows p
  ·exact⟨s,hs,kz.mpr fun z=>h (e.trans z.symm)⟩
  ·exact⟨r,hr,kz.mpr e⟩
theorem Hg(t:Tbl rows n)(t2:Tbl rows2 n)(h:∀r,r∈rows↔r∈rows2):Iso rows rows2 n id id id where
 t:=t
 t2:=t2
 lt:=fun _ h=>h
 lti:=fun _ h=>h
 l1:=fun _ _=>rfl
 l2:=fun _ _=>rfl
 fit:=fun v f=>f.sub fun r hr=>(h r).mp hr
 tif:=fun w f=>⟨w,f.sub fun r hr=>(h r).mpr hr,rfl⟩
 inj:=fun _ _ _ _ e=>e
 ed:=fun j v hj e=>⟨e.ok,fun q hq c=>by
  obtain⟨r,hr,x⟩:=e.own q hq fun r hr s hs=>c r ((h r).mp hr) s ((h s).mp hs);exact⟨r,(h r).mp hr,x⟩,fun q hq c=>by
  obtain⟨r,hr,s,hs,x⟩:=e.off q hq fun z=>c fun r hr s hs=>z r ((h r).mpr hr) s ((h s).mpr hs);exact⟨r,(h r).mp hr,s,(h s).mp hs,x⟩⟩
 cls:=fun i j _ _=>⟨fun c r hr s hs=>c r ((h r).mp hr) s ((h s).mp hs),fun c r hr s hs=>c r ((h r).mpr hr) s ((h s).mpr hs)⟩
 nz:=fun j _=>by
  rw[oB t,oB t2];exact⟨fun⟨r,hr,s,hs,x⟩=>⟨r,(h r).mpr hr,s,(h s).mpr hs,x⟩,fun⟨r,hr,s,hs,x⟩=>⟨r,(h r).mp hr,s,(h s).mp hs,x⟩⟩
noncomputable def tw(S:Nat->Bool)(p:Nat)(x:Int):Int:=if S p=true then 1-x else x
theorem yO(S:Nat->Bool)(p:Nat)(x:Int):tw S p (tw S p x)=x:=by unfold tw;split <;>omega
theorem j7{S:Nat->Bool}{p:Nat}{x y:Int}:tw S p x=tw S p y↔x=y:=⟨fun h=>by rw[<-yO S p x,h,yO],fun h=>by rw[h]⟩
theorem B2{S:Nat->Bool}{p:Nat}{x:Int}(h:x=0\/x=1):tw S p x=0\/tw S p x=1:=by unfold tw;split <;>omega
noncomputable def lay(n:Nat)(S:Nat->Bool)(o:Nat->Nat)(v:List Int):List Int:=(aq n).map fun j=>tw S (o j) (v.getD (o j) 0)
theorem cY{S:Nat->Bool}{o:Nat->Nat}{v:List Int}{j:Nat}(h:j<n):(lay n S o v).getD j 0=tw S (o j) (v.getD (o j) 0):=by
 unfold lay;rw[ag,ak,a6 h];rfl
theorem Bp{S:Nat->Bool}{o:Nat->Nat}{v:List Int}(h:M6.Ok n v):M6.Ok n (lay n S o v):=⟨by simp[lay],fun x hx=>by
 obtain⟨i,_,rfl⟩:=ao.mp hx;exact B2 (h.at _)⟩
theorem iso_lay(t:Tbl rows n)(S:Nat->Bool){o oi:Nat->Nat}(lt:∀j,j<n->o j<n)(lti:∀p,p<n->oi p<n)(l1:∀j,j<n->oi (o j)=j)(l2:∀p,p<n->o (oi p)=p):Iso rows (rows.map (lay n S o)) n (lay n S o) o oi:=by
 have ois:∀{i j:Nat},i<n->j<n->i≠j->o i≠o j:=fun{i j} hi hj h e=>h (by rw[<-l1 i hi,<-l1 j hj,e]);have t2:Tbl (rows.map (lay n S o)) n:=by
  refine⟨fun r hr=>?_,fun h=>t.ne (pP.mp h),fun i j hij hj=>?_⟩
  ·obtain⟨v,hv,rfl⟩:=ao.mp hr
   exact Bp (t.ok v hv)
  ·have hi:i<n:=by omega
   obtain⟨a,b,ha,hb,k⟩:=t.mis' (ois hi hj (by omega)) (lt i hi) (lt j hj);refine⟨tw S (o i) a,tw S (o j) b,B2 ha,B2 hb,fun r hr=>?_⟩;obtain⟨v,hv,rfl⟩:=ao.mp hr;rw[cY hi,cY hj,j7,j7];exact k v hv
 have cl:∀i j,i<n->j<n->(Cls (rows.map (lay n S o)) i j↔Cls rows (o i) (o j)):=fun i j hi hj=>by
  constructor
  ·intro c r hr s hs
   have :=c _ (bY hr) _ (bY hs)
   rwa [cY hi,cY hi,cY hj,cY hj,j7,j7]at this
  ·intro c r hr s hs
   obtain⟨u,hu,rfl⟩:=ao.mp hr;obtain⟨v,hv,rfl⟩:=ao.mp hs;rw[cY hi,cY hi,cY hj,cY hj,j7,j7];exact c u hu v hv
 refine⟨t,t2,lt,lti,l1,l2,fun v f=>⟨Bp f.1,fun i j hi hj=>?_⟩,fun w f=>?_,fun u v hu hv e=>?_,fun j v hj e=>⟨Bp e.ok,fun q hq c=>?_,fun q hq c=>?_⟩,cl,fun j hj=>?_⟩
 ·obtain⟨r,hr,e1,e2⟩:=f.2 _ _ (lt i hi) (lt j hj)
  refine⟨_,bY hr,?_,?_⟩
  ·rw[cY hi,cY hi,e1]
  ·rw[cY hj,cY hj,e2]
 ·refine⟨(aq n).map fun p=>tw S p (w.getD (oi p) 0),?_,?_⟩
  ·have va:∀{p:Nat},p<n->((aq n).map fun p=>tw S p (w.getD (oi p) 0)).getD p 0=tw S p (w.getD (oi p) 0):=fun{p} hp=>by
    rw[ag,ak,a6 hp];rfl
   refine⟨⟨by simp,fun x hx=>?_⟩,fun p q hp hq=>?_⟩
   ·obtain⟨p,_,rfl⟩:=ao.mp hx
    exact B2 (f.1.at _)
   ·obtain⟨r,hr,e1,e2⟩:=f.2 _ _ (lti p hp) (lti q hq)
    obtain⟨v,hv,rfl⟩:=ao.mp hr;rw[cY (lti p hp),l2 p hp]at e1;rw[cY (lti q hq),l2 q hq]at e2;refine⟨v,hv,?_,?_⟩
    ·rw[va hp,<-e1,yO]
    ·rw[va hq,<-e2,yO]
  ·refine zN f.1.1 (by simp[lay]) fun j hj=>?_
   rw[cY hj,ag (l:=(aq n).map _),ak,a6 (lt j hj)];show _=tw S (o j) (tw S (o j) (w.getD (oi (o j)) 0));rw[yO,l1 j hj]
 ·refine zN hu.1 hv.1 fun p hp=>?_
  have a:=cY (S:=S) (o:=o) (v:=u) (lti p hp);have b:=cY (S:=S) (o:=o) (v:=v) (lti p hp);rw[l2 p hp]at a b;rw[e,b]at a;exact(j7.mp a).symm
 ·obtain⟨r,hr,e1,e2⟩:=e.own (o q) (lt q hq) ((cl j q hj hq).mp c)
  refine⟨_,bY hr,?_,?_⟩
  ·rw[cY hj,cY hj,e1]
  ·rw[cY hq,cY hq,e2]
 ·obtain⟨r,hr,s,hs,e0,e1,e2⟩:=e.off (o q) (lt q hq) fun z=>c ((cl j q hj hq).mpr z)
  refine⟨_,bY hr,_,bY hs,?_,?_,?_⟩
  ·rw[cY hj,cY hj];exact fun z=>e0 (j7.mp z)
  ·rw[cY hq,cY hq,e1]
  ·rw[cY hq,cY hq,e2]
 ·rw[oB t,oB t2]
  constructor
  ·rintro⟨r,hr,s,hs,h⟩
   obtain⟨u,hu,rfl⟩:=ao.mp hr;obtain⟨v,hv,rfl⟩:=ao.mp hs;rw[cY hj,cY hj]at h;exact⟨u,hu,v,hv,fun z=>h (j7.mpr z)⟩
  ·rintro⟨u,hu,v,hv,h⟩
   refine⟨_,bY hu,_,bY hv,?_⟩;rw[cY hj,cY hj];exact fun z=>h (j7.mp z)
theorem jR{v:List Int}{i:Nat}(h:i<n):(v.take n).getD i 0=v.getD i 0:=by
 rw[ag,ag,fA h]
theorem r9(t:Tbl rows (n+1)):Tbl (rows.map (gp n)) n:=by
 refine⟨fun r hr=>?_,fun h=>t.ne (pP.mp h),fun i j hij hj=>?_⟩
 ·obtain⟨v,hv,rfl⟩:=ao.mp hr
  have :=t.ok v hv
  exact⟨by rw[bR,this.1];omega,fun x hx=>this.2 x (jv hx)⟩
 ·obtain⟨a,b,ha,hb,k⟩:=t.mis i j hij (by omega)
  refine⟨a,b,ha,hb,fun r hr=>?_⟩;obtain⟨v,hv,rfl⟩:=ao.mp hr;rw[jR (by omega),jR hj];exact k v hv
theorem G2(t:Tbl rows (n+1)){w:List Int}:Fits (rows.map (gp n)) n w↔∃v,Fits rows (n+1) v/\w=v.take n:=by
 constructor
 ·intro f
  have pair:∀{i j:Nat},i<n->j<n->∃r∈rows,r.getD i 0=w.getD i 0/\r.getD j 0=w.getD j 0:=fun{i j} hi hj=>by
   obtain⟨r,hr,e1,e2⟩:=f.2 i j hi hj;obtain⟨v,hv,rfl⟩:=ao.mp hr;rw[jR hi]at e1;rw[jR hj]at e2;exact⟨v,hv,e1,e2⟩
  obtain⟨x,hx,hx2,hx3⟩:∃x:Int,(x=0\/x=1)/\(∀i,i<n->∃r∈rows,r.getD i 0=w.getD i 0/\r.getD n 0=x)/\∃r∈rows,r.getD n 0=x:=by
   by_cases h0:n=0
   ·exact⟨_,t.f01 n,fun i hi=>by omega,_,t.first,rfl⟩
   ·by_cases c:∀i,i<n->∃r∈rows,r.getD i 0=w.getD i 0/\r.getD n 0=0
    ·obtain⟨r,hr,_,e⟩:=c 0 (by omega)
     exact⟨0,.inl rfl,c,r,hr,e⟩
    ·obtain⟨i,h⟩:=eV.mp c
     obtain⟨hi,h⟩:=j6.mp h;have one:∀r∈rows,r.getD i 0=w.getD i 0->r.getD n 0=1:=fun r hr e=>by
      rcases(t.ok r hr).at n with z|z
      ·exact absurd ⟨r,hr,e,z⟩ h
      ·exact z
     refine⟨1,.inr rfl,fun j hj=>?_,?_⟩
     ·obtain⟨r,hr,e1,e2⟩:=pair hi hj
      exact⟨r,hr,e2,one r hr e1⟩
     ·obtain⟨r,hr,e1,_⟩:=pair hi hi
      exact⟨r,hr,one r hr e1⟩
  have wl:w.length=n:=f.1.1;have va:∀{i:Nat},i<n->(w++[x]).getD i 0=w.getD i 0:=fun{i} hi=>by
   rw[ag,ag,eZ (by omega)]
  have vn:(w++[x]).getD n 0=x:=by
   rw[ag,cX (by omega),wl,uu];rfl
  refine⟨w++[x],⟨⟨by simp[wl],fun y hy=>?_⟩,fun i j hi hj=>?_⟩,by rw[List.take_left' wl]⟩
  ·rcases bF.mp hy with hy|hy
   ·exact f.1.2 y hy
   ·rw[aC.mp hy];exact hx
  ·by_cases hi':i<n
   ·by_cases hj':j<n
    ·rw[va hi',va hj'];exact pair hi' hj'
    ·rw[show j=n from by omega,va hi',vn];exact hx2 i hi'
   ·rw[show i=n from by omega,vn]
    by_cases hj':j<n
    ·obtain⟨r,hr,e1,e2⟩:=hx2 j hj'
     rw[va hj'];exact⟨r,hr,e2,e1⟩
    ·obtain⟨r,hr,e⟩:=hx3
     rw[show j=n from by omega,vn];exact⟨r,hr,e,e⟩
 ·rintro⟨v,f,rfl⟩
  refine⟨⟨by rw[bR,f.1.1];omega,fun x hx=>f.1.2 x (jv hx)⟩,fun i j hi hj=>?_⟩;obtain⟨r,hr,e1,e2⟩:=f.2 i j (by omega) (by omega);refine⟨_,bY hr,?_,?_⟩
  ·rw[jR hi,jR hi];exact e1
  ·rw[jR hj,jR hj];exact e2
theorem Bo(t:Tbl rows (n+1)){w:List Int}:w∈nds (rows.map (gp n)) n↔∃v∈nds rows (n+1),w=v.take n:=by
 rw[gN (r9 t),G2 t];exact⟨fun⟨v,h,e⟩=>⟨v,(gN t).mpr h,e⟩,fun⟨v,h,e⟩=>⟨v,(gN t).mp h,e⟩⟩
end
end M9
namespace M10
open M6
noncomputable def oth(v ms:List Int):List Int:=(aq v.length).map fun j:Nat=>if(j:Int)∈ms then 1-v.getD j 0 else v.getD j 0
theorem xA(v ms:List Int):(oth v ms).length=v.length:=by simp[oth]
theorem GD{v ms:List Int}{j:Nat}(h:j<v.length):(oth v ms).getD j 0=if(j:Int)∈ms then 1-v.getD j 0 else v.getD j 0:=by
 unfold oth;rw[ag,ak,a6 h];rfl
theorem oth_ok{n:Nat}{v ms:List Int}(h:Ok n v):Ok n (oth v ms):=⟨by rw[xA];exact h.1,fun x hx=>by
 obtain⟨j,_,rfl⟩:=ao.mp hx;have :=h.at j;split <;>omega⟩
structure Gt(n:Nat)(fs:List Int)(vs:List (List Int)):Prop where
 ok:∀v∈vs,Ok n v
 mis:∀i j,i<j->j<n->Mis vs i j
 one:∀p:Nat,(p:Int)∈fs->∀v∈vs,∀w∈vs,v.getD p 0=w.getD p 0
theorem Gt.sub{n:Nat}{fs gs:List Int}{vs:List (List Int)}(t:Gt n fs vs)(h:∀x∈gs,x∈fs):Gt n gs vs:=⟨t.ok,t.mis,fun p hp=>t.one p (h _ hp)⟩
theorem Gt.start{n:Nat}{fs v:List Int}(h:Ok n v):Gt n fs [v]:=by
 refine⟨fun w hw=>by rw[aC.mp hw];exact h,fun i j _ _=>⟨1-v.getD i 0,0,?_,.inl rfl,fun w hw ⟨e,_⟩=>?_⟩,fun p _ x hx y hy=>by rw[aC.mp hx,aC.mp hy]⟩
 ·have :=h.at i;omega
 ·rw[aC.mp hw]at e;omega
theorem Gt.turn{n:Nat}{ms fs:List Int}{vs:List (List Int)}(t:Gt n (ms++fs) vs)(nd:(ms++fs).Nodup){v:List Int}(hv:v∈vs):Gt n fs (vs++[oth v ms]):=by
 have ov:=t.ok v hv;have ow:=oth_ok (ms:=ms) ov;have at_:∀j,j<n->(oth v ms).getD j 0=if(j:Int)∈ms then 1-v.getD j 0 else v.getD j 0:=fun j hj=>GD (by rw[ov.1];exact hj)
 refine⟨fun x hx=>?_,fun i j hij hj=>?_,fun p hp=>?_⟩
 ·rcases bF.mp hx with h|h
  ·exact t.ok x h
  ·rw[aC.mp h];exact ow
 ·have hi:i<n:=by omega
  have vi:=ov.at i;have vj:=ov.at j;by_cases c1:(i:Int)∈ms
  ·have si:∀x∈vs,x.getD i 0=v.getD i 0:=fun x hx=>t.one i (bF.mpr (.inl c1)) x hx v hv
   refine⟨1-v.getD i 0,1-(oth v ms).getD j 0,by omega,by have :=ow.at j;omega,fun x hx ⟨h1,h2⟩=>?_⟩;rcases bF.mp hx with h|h
   ·rw[si x h]at h1;omega
   ·rw[aC.mp h]at h2;omega
  ·by_cases c2:(j:Int)∈ms
   ·have sj:∀x∈vs,x.getD j 0=v.getD j 0:=fun x hx=>t.one j (bF.mpr (.inl c2)) x hx v hv
    refine⟨1-(oth v ms).getD i 0,1-v.getD j 0,by have :=ow.at i;omega,by omega,fun x hx ⟨h1,h2⟩=>?_⟩;rcases bF.mp hx with h|h
    ·rw[sj x h]at h2;omega
    ·rw[aC.mp h]at h1;omega
   ·obtain⟨a,b,ha,hb,k⟩:=t.mis i j hij hj
    refine⟨a,b,ha,hb,fun x hx=>?_⟩;rcases bF.mp hx with h|h
    ·exact k x h
    ·rw[aC.mp h,at_ i hi,at_ j hj,if_neg c1,if_neg c2];exact k v hv
 ·have np:(p:Int)∉ms:=fun h=>(de.mp nd).2.2 _ h _ hp rfl
  have key:∀x∈vs++[oth v ms],x.getD p 0=v.getD p 0:=fun x hx=>by
   rcases bF.mp hx with h|h
   ·exact t.one p (bF.mpr (.inr hp)) x h v hv
   ·rw[aC.mp h]
    by_cases c:p<n
    ·rw[at_ p c,if_neg np]
    ·rw[ag,ag,bB (by rw[ow.1];omega),bB (by rw[ov.1];omega)]
  intro x hx y hy;rw[key x hx,key y hy]
end M10
namespace K34
open PySem PySem.Spec PyProof.Rows L2 R Cp Lt Kc K21 K22 Lm M5 K32
theorem ik_at{H:Hp}{ys:List V}{ws:List (List Int)}(h:_root_.Q.IntKeys H ys ws){z:Nat}{y:V}(e:ys[z]? =some y):∃r zs,y=.ref r/\H r=some (.tup (zs.map V.int))/\zs∈ws:=by
 unfold _root_.Q.IntKeys at h
 induction h generalizing z with
 |nil=>simp at e
 |cons y0 t ih=>
  cases z with
  |zero=>
   obtain⟨a,rfl,k⟩:=y0;simp at e;exact⟨a,_,e.symm,k,aI⟩
  |succ z=>
   simp at e;obtain⟨r,zs,k1,k2,k3⟩:=ih e;exact⟨r,zs,k1,k2,aH _ k3⟩
noncomputable def lb(K:af):Sp:=fun vs H Q _=>∃(r b:Addr)(zs ms:List Int),vs=[.ref r,.ref b]/\SqT K H r (zs.map V.int)/\SqL K H b (ms.map V.int)/\zs.length<=40/\
 ∀(H':Hp)(p:Addr),aS H H'->H p=none->H' p=some (.tup ((M10.oth zs ms).map V.int))->Q (.ref p) H'
theorem wp_othN{G:Gam}{K:af}:Sat G K (lb K) lG lF:=by
 rintro vs H Q E ⟨r,b,zs,ms,rfl,hr,hb,hl,q⟩;unfold lG;change wpB G K _ _ _ [some (.ref r),some (.ref b)] H;walk_at "wp";refine dA ?_;walk_at "wp";refine Or.inl ⟨r,_,rfl,.inr hr,_,rfl,by rw[ai];omega,by rw[ai];omega,?_⟩;rw[ai];refine di dP (short (by omega)) (fun _ _=>trivial) (fun i v _=>v=.int (if(i:Int)∈ms then 1-zs.getD i 0 else zs.getD i 0)) (fun _ _ _ _ _ h=>h) (fun τ=>∃t,τ=[t,some (.ref b),some (.ref r)]) ⟨none,rfl⟩ ?_ ?_
 ·rintro i x τ H3 R hi ⟨t,rfl⟩ s3 rfl k
  walk_at "wp"
  simp only[d7];have hi':i<zs.length:=by omega
  have hg:=fV hi';refine .inr ⟨b,_,rfl,.inl (s3.seq hb),rfl,vL ms,_,rfl,?_⟩;show if inV (V.int (i:Int)) (ms.map V.int)=true then _ else _
  rw[CH];by_cases h:(i:Int)∈ms
  ·rw[decide_eq_true h,if_pos rfl]
   refine .inr (.inl ⟨r,_,i,_,rfl,rfl,s3.tup hr,cN hg,?_⟩);walk_at "wp";exact k _ _ _ ⟨_,rfl⟩ (aS.refl _) (by rw[if_pos h])
  ·rw[decide_eq_false h,if_neg aD]
   refine .inr (.inl ⟨r,_,i,_,rfl,rfl,s3.tup hr,cN hg,?_⟩);exact k _ _ _ ⟨_,rfl⟩ (aS.refl _) (by rw[if_neg h])
 ·intro vs H2 l hvl hF s2 hl2
  have e:vs=(M10.oth zs ms).map V.int:=by
   unfold M10.oth;apply gB;intro i;rw[ak,ak];by_cases hi:i<vs.length
   ·rw[ae hi,a6 (by omega),hF i _ (ae hi)]
    rfl
   ·rw[bB (by omega),bB (by rw[bq];omega)]
    rfl
  subst e;exact⟨l,_,rfl,.inl ⟨SqL.of aw,fun p hp=>q _ p (s2.trans ((az hl2).trans (az hp))) ((s2.trans (az hl2)).free hp) aw⟩⟩
noncomputable def wV(K:af):Sp:=fun vs H Q _=>∃(a:Addr)(ns:List Int)(n:Nat),vs=[.ref a,.int n]/\SqL K H a (ns.map V.int)/\ns.length<=14/\n<=10/\
 ∀(H':Hp)(p nd lk:Addr)(ys:List V),aS H H'->H' p=some (.tup [.ref nd,.ref lk])->H nd=none->H' nd=some (.lst ys)->ys≠[]->ys.length<=15->∀vs,_root_.Q.IntKeys H' ys vs->M10.Gt n [] vs->Q (.ref p) H'
section
variable {G:Gam}{K:af}
structure Fs(H:Hp)(nd lk fr:Addr):Prop where
 fnd:H nd=none
 flk:H lk=none
 ffr:H fr=none
 n1:nd≠lk
 n2:nd≠fr
 n3:lk≠fr
noncomputable def Gw(H:Hp)(a nd lk fr:Addr)(n:Nat)(sd:Int)(k:Nat)(σ:L2.St)(H':Hp):Prop:=aS H H'/\∃(ys ls:List V)(fs:List Int),H' nd=some (.lst ys)/\H' lk=some (.lst ls)/\H' fr=some (.lst (fs.map V.int))/\ys≠[]/\ys.length<=k+1/\ls.length<=k/\fs.Nodup/\fs.length<=n/\(∃vs,_root_.Q.IntKeys H' ys vs/\M10.Gt n fs vs)/\∃u v w x y,σ=[some (.ref a),some (.int n),some (.int sd),some (.ref nd),some (.ref lk),some (.ref fr),u,v,w,x,y]
section
variable {E:XS}{D2:Ends}{H:Hp}{a nd lk fr sm:Addr}{ns:List Int}{n k:Nat}{sd d0:Int}{ys ls:List V}{ws:List (List Int)}
noncomputable def Gi(H:Hp)(a nd lk fr sm:Addr)(n k:Nat)(sd d0:Int)(ys ls:List V)(ws:List (List Int))(j:Nat)(σ:L2.St)(H':Hp):Prop:=aS H H'/\H' nd=some (.lst ys)/\H' lk=some (.lst ls)/\_root_.Q.IntKeys H' ys ws/\∃(fs ms:List Int),M10.Gt n (ms++fs) ws/\H' fr=some (.lst (fs.map V.int))/\H' sm=some (.lst (ms.map V.int))/\(ms++fs).Nodup/\ms.length<=j/\fs.length<=n/\∃x y,σ=[some (.ref a),some (.int n),some (.int sd),some (.ref nd),some (.ref lk),some (.ref fr),some (.int k),some (.int d0),some (.ref sm),x,y]
theorem Gi.same{j:Nat}{σ:L2.St}{H1 H2:Hp}(g:Gi H a nd lk fr sm n k sd d0 ys ls ws j σ H1)(s:aS H1 H2):Gi H a nd lk fr sm n k sd d0 ys ls ws j σ H2:=by
 obtain⟨t1,t2,t3,t4,fs,ms,t0,t5,t6,t7⟩:=g;exact⟨t1.trans s,s _ _ t2,s _ _ t3,cR (Tk.of s) t4,fs,ms,t0,s _ _ t5,s _ _ t6,t7⟩
theorem oU{ns:List Int}(hk':k<ns.length):(ns.map V.int)[k]? =some (.int (ns.getD k 0)):=by
 rw[ak,ae hk',ag,ae hk'];rfl
theorem rW(g2:G.fn "_law_otherwise" 2=some (lb K,[]))(F:Fs H nd lk fr)(hk:k<14)(hn:n<=10)(b4:ys≠[])(b5:ys.length<=k+1)(hls:ls.length<=k+1)(hD:∀σ2 H2,Gw H a nd lk fr n sd (k+1) σ2 H2->D2.nx σ2 H2){j:Nat}{H16:Hp}{z:Nat}(hzl:z<ys.length){x y:Option V}
  (g:Gi H a nd lk fr sm n k sd d0 ys ls ws j [some (.ref a),some (.int n),some (.int sd),some (.ref nd),some (.ref lk),some (.ref fr),some (.int k),some (.int d0),some (.ref sm),x,y] H16):
  wpB G K E iD D2 [some (.ref a),some (.int n),some (.int sd),some (.ref nd),some (.ref lk),some (.ref fr),some (.int k),some (.int d0),some (.ref sm),x,some (.int z)] H16:=by
 obtain⟨t1',t2',t3',t4',fs,ms,t0,t5',t6',t7,t8,t9,_⟩:=g;unfold iD;walk_at "wp";have fsn:fs.Nodup:=(de.mp t7).2.1;have hgz:ys[z]? =some ys[z]:=ae hzl;obtain⟨r,zs,ez,k1,k2⟩:=ik_at t4' hgz;have okz:=t0.ok zs k2;rw[ez]at hgz;refine⟨.inl ⟨rfl,_,SqL.of t2'⟩,_,_,g2,.inl ⟨nd,ys,z,_,rfl,rfl,SqL.of t2',cN hgz,?_⟩⟩;refine⟨r,sm,zs,ms,rfl,SqT.of k1,SqL.of t6',by rw[okz.1];omega,fun H17 p s18 hp ep=>?_⟩;have v2:=s18 _ _ t2';refine⟨nd,ys,_,rfl,rfl,v2,cP (by omega:ys.length<=40) (by decide),?_⟩;refine hD _ _ ⟨fN (t1'.trans s18) F.fnd,ys++[.ref p],ls,fs,aw,?_,?_,by simp,by simp;omega,hls,fsn,t9,⟨ws++[M10.oth zs ms],Paired.snoc ⟨p,rfl,?_⟩ (cR (lQ v2) (cR (Tk.of s18) t4')),t0.turn t7 k2⟩,_,_,_,_,_,rfl⟩
 ·rw[bh (cb F.n1)];exact s18 _ _ t3'
 ·rw[bh (cb F.n2)];exact s18 _ _ t5'
 ·rw[bh (fun z=>by rw[z,v2]at ep;cases ep)]
  exact ep
theorem wB(g1:G.fn "_law_draw" 2=some (jB,[]))(g2:G.fn "_law_otherwise" 2=some (lb K,[]))(F:Fs H nd lk fr)(m2:lk≠sm)(ha:SqL K H a (ns.map V.int))(hk':k<ns.length)(hk:k<14)(hn:n<=10)(b4:ys≠[])(b5:ys.length<=k+1)(b6:ls.length<=k)(hD:∀σ2 H2,Gw H a nd lk fr n sd (k+1) σ2 H2->D2.nx σ2 H2){j:Nat}(hj2:j<=2){H11:Hp}{x y:Option V}
  (g:Gi H a nd lk fr sm n k sd d0 ys ls ws j [some (.ref a),some (.int n),some (.int sd),some (.ref nd),some (.ref lk),some (.ref fr),some (.int k),some (.int d0),some (.ref sm),x,y] H11):
  wpB G K E jc D2 [some (.ref a),some (.int n),some (.int sd),some (.ref nd),some (.ref lk),some (.ref fr),some (.int k),some (.int d0),some (.ref sm),x,y] H11:=by
 unfold jc;walk_at "wp";refine⟨short (by simp),fun p0 hp0=>?_⟩;have g:=g.same (az (o:=.lst []) hp0);have e0:upd H11 p0 (.lst []) p0=some (.lst []):=aw;generalize upd H11 p0 (.lst [])=H13 at g e0⊢;obtain⟨t1,t2,t3,t4,fs,ms,t0,t5,t6,t7,t8,t9,_⟩:=id g;have fsn:fs.Nodup:=(de.mp t7).2.1;have msn:ms.Nodup:=(de.mp t7).1;obtain⟨d,d',r1,r2,r3,r4⟩:=jV (K:=K) (SqL.of t6) e0;refine⟨d,d',r1,r2,r3,_,rfl,?_⟩;rw[r4];by_cases hf:ms=[]
 ·rw[decide_eq_true hf]
  exact hD _ _ ⟨t1,ys,ls,fs,t2,t3,t5,b4,by omega,by omega,fsn,t9,⟨ws,t4,t0.sub fun x hx=>bF.mpr (.inr hx)⟩,_,_,_,_,_,rfl⟩
 ·rw[decide_eq_false hf]
  show if true=true then _ else _
  rw[if_pos rfl];refine⟨_,_,g1,.inl ⟨a,_,k,_,rfl,rfl,t1.seq ha,cN (oU hk'),?_⟩⟩;walk_at "wp";refine⟨qJ (by decide) (by decide),_,_,rfl,by omega,by omega,?_⟩;have hyl:0<ys.length:=eK.mpr b4;generalize draw (ns.getD k 0) (41+4*(k:Int))=d1;refine Or.inl ⟨nd,ys,rfl,.inl (SqL.of t2),?_⟩;walk_at "wp";refine⟨by omega,?_⟩;have i0:0<=d1%(ys.length:Int):=bG _ (by omega);have i1:d1%(ys.length:Int)<ys.length:=bV _ (by omega);obtain⟨z,hz⟩:=dD i0;rw[hz];have hzl:z<ys.length:=by omega
  unfold jX;walk_at "wp";refine⟨.inl ⟨rfl,_,SqL.of t3⟩,Or.inl ⟨nd,ys,rfl,.inl (SqL.of t2),?_⟩⟩;have hm64:ms.length<64:=by omega
  refine⟨sm,ms,rfl,SqL.of t6,hm64,msn,fun so hso=>⟨short (by simp),fun tp htp=>?_⟩⟩;have g:=g.same ((az (o:=.lst (_root_.Q.sortI ms)) hso).trans (az (o:=.tup [.int z,.int ys.length,.ref so]) htp));generalize upd (upd H13 so (.lst (_root_.Q.sortI ms))) tp (.tup [.int z,.int ys.length,.ref so])=H15 at g⊢;obtain⟨t1,t2,t3,t4,fs,ms,t0,t5,t6,t7,t8,t9,_⟩:=g;refine⟨lk,ls,_,rfl,rfl,t3,cP (by omega:ls.length<=40) (by decide),?_⟩;refine rW (j:=j) (ls:=ls++[.ref tp]) g2 F hk hn b4 b5 (by simp;omega) hD hzl (x:=x) (y:=y) ⟨fN t1 F.flk,?_,aw,cR (lQ t3) t4,fs,ms,t0,?_,?_,t7,t8,t9,_,_,rfl⟩
  ·rw[bh F.n1];exact t2
  ·rw[bh (cb F.n3)];exact t5
  ·rw[bh (cb m2)];exact t6
theorem wC(g1:G.fn "_law_draw" 2=some (jB,[]))(g2:G.fn "_law_otherwise" 2=some (lb K,[]))(F:Fs H nd lk fr)(fsm:H sm=none)(m1:nd≠sm)(m2:lk≠sm)(m3:fr≠sm)(ha:SqL K H a (ns.map V.int))(hk':k<ns.length)(hk:k<14)(hn:n<=10)(hd0:0<=d0)(b4:ys≠[])(b5:ys.length<=k+1)(b6:ls.length<=k)(hD:∀σ2 H2,Gw H a nd lk fr n sd (k+1) σ2 H2->D2.nx σ2 H2){H10:Hp}{x y:Option V}
  (g:Gi H a nd lk fr sm n k sd d0 ys ls ws 0 [some (.ref a),some (.int n),some (.int sd),some (.ref nd),some (.ref lk),some (.ref fr),some (.int k),some (.int d0),some (.ref sm),x,y] H10):
  wpB G K E jd D2 [some (.ref a),some (.int n),some (.int sd),some (.ref nd),some (.ref lk),some (.ref fr),some (.int k),some (.int d0),some (.ref sm),x,y] H10:=by
 unfold jd;walk_at "wp";refine jb ?_;walk_at "wp";have hq0:0<=d0%7:=bG _ (by decide);have hq1:d0%7<7:=bV _ (by decide);refine⟨by decide,⟨by decide,by decide⟩,_,rfl,by omega,by omega,?_⟩;refine iC dP (Gi H a nd lk fr sm n k sd d0 ys ls ws) g (fun _ _ _ _ _=>trivial) ?_ ?_
 ·rintro j x σ H11 H12 D3 hj g rfl s14 hD3 _
  have hj2:j<2:=by omega
  have g:=g.same s14;obtain⟨_,_,_,_,_,_,_,_,_,_,_,_,x,y,rfl⟩:=id g;walk_at "wp";simp only[d7];refine⟨short (by simp),fun p0 hp0=>?_⟩;have g:=g.same (az (o:=.lst []) hp0);have e0:upd H12 p0 (.lst []) p0=some (.lst []):=aw;generalize upd H12 p0 (.lst [])=H13 at g e0⊢;obtain⟨t1,t2,t3,t4,fs,ms,t0,t5,t6,t7,t8,t9,_⟩:=g;obtain⟨d,d',r1,r2,r3,r4⟩:=jV (K:=K) (SqL.of t5) e0;refine⟨d,d',r1,r2,r3,_,rfl,?_⟩;rw[r4];by_cases hf:fs=[]
  ·rw[decide_eq_true hf]
   exact hD3 _ _ ⟨t1,t2,t3,t4,fs,ms,t0,t5,t6,t7,by omega,t9,_,_,rfl⟩
  ·rw[decide_eq_false hf]
   show if true=true then _ else _
   rw[if_pos rfl];have hfl:0<fs.length:=eK.mpr hf;refine⟨.inl ⟨rfl,_,SqL.of t6⟩,.inl ⟨rfl,_,SqL.of t5⟩,short (by simp),fun p1 hp1=>?_⟩;generalize hX:upd H13 p1 _=H14;obtain⟨s16,e1⟩:=xK hX hp1;clear hX;have t2:=s16 _ _ t2;have t3:=s16 _ _ t3;have t4:=cR (Tk.of s16) t4;have t5:=s16 _ _ t5;have t6:=s16 _ _ t6;have t1:=t1.trans s16;obtain⟨dv,hdv,hdv2⟩:∃dv:Int,[V.int 7,V.int 112][j]? =some (.int dv)/\EC d0 dv:=by
    have :j=0\/j=1:=by omega
    rcases this with rfl|rfl
    ·exact⟨7,rfl,by decide,by decide⟩
    ·exact⟨112,rfl,by decide,by decide⟩
   refine .inl ⟨p1,_,j,_,rfl,rfl,SqL.of e1,cN hdv,?_⟩;walk_at "wp";refine⟨hdv2,Or.inl ⟨fr,_,rfl,.inl (SqL.of t5),?_⟩⟩;rw[ai];walk_at "wp";have i0:0<=d0/dv%(fs.length:Int):=bG _ (by omega);have i1:d0/dv%(fs.length:Int)<fs.length:=bV _ (by omega);obtain⟨z,hz⟩:=dD i0;rw[hz];have hzl:z<fs.length:=by omega
   have hgz:(fs.map V.int)[z]? =some (.int fs[z]):=by rw[ak,ae hzl];rfl
   refine⟨by omega,.inr ⟨fr,_,z,z,_,rfl,rfl,t5,by omega,by omega,?_,hgz,?_⟩⟩
   ·rw[ai,mR (by omega) (by omega)]
    simp
   have ee:(fs.map V.int).eraseIdx z=(fs.eraseIdx z).map V.int:=by
    rw[fC,fC,cH,qr,Ax]
   rw[ee];have t6':upd H14 fr (.lst ((fs.eraseIdx z).map V.int)) sm=some (.lst (ms.map V.int)):=by rw[bh (cb m3)];exact t6
   refine⟨sm,ms.map V.int,_,rfl,rfl,t6',cP (by rw[ai];omega:(ms.map V.int).length<=40) (by decide),?_⟩;have pm:((ms++[fs[z]])++fs.eraseIdx z).Perm (ms++fs):=by
    rw[iY];exact(gY fs z hzl).append_left ms
   refine hD3 _ _ ⟨fN (fN t1 F.ffr) fsm,?_,?_,cR (lQ t6') (cR (lQ t5) t4),fs.eraseIdx z,ms++[fs[z]],t0.sub (fun x hx=>pm.mem_iff.mp hx),?_,?_,pm.nodup_iff.mpr t7,by simp;omega,by rw[List.length_eraseIdx];split <;>omega,_,_,rfl⟩
   ·rw[bh m1,bh F.n2];exact t2
   ·rw[bh m2,bh F.n3];exact t3
   ·rw[bh m3];exact aw
   ·rw[aw,cH];rfl
 ·intro σ H11 g
  obtain⟨_,_,_,_,_,_,_,_,_,_,_,_,x,y,rfl⟩:=id g;exact wB g1 g2 F m2 ha hk' hk hn b4 b5 b6 hD (by omega) g
end
theorem AH(g1:G.fn "_law_draw" 2=some (jB,[]))(g2:G.fn "_law_otherwise" 2=some (lb K,[])){E:XS}{Q:VK}{H0 H H7:Hp}{D:Ends}{a nd lk fr:Addr}{ns:List Int}{n:Nat}{sd:Int}(F:Fs H nd lk fr)(s0:aS H0 H)(ha:SqL K H a (ns.map V.int))(hns:ns.length<=14)(hn:n<=10)(hr:D.rt=Q)
  (q:∀(H':Hp)(p nd lk:Addr)(ys:List V),aS H0 H'->H' p=some (.tup [.ref nd,.ref lk])->H0 nd=none->H' nd=some (.lst ys)->ys≠[]->ys.length<=15->∀vs,_root_.Q.IntKeys H' ys vs->M10.Gt n [] vs->Q (.ref p) H')
  (g:Gw H a nd lk fr n sd 0 [some (.ref a),some (.int n),some (.int sd),some (.ref nd),some (.ref lk),some (.ref fr),none,none,none,none,none] H7):
  wpB G K E kl D [some (.ref a),some (.int n),some (.int sd),some (.ref nd),some (.ref lk),some (.ref fr),none,none,none,none,none] H7:=by
 unfold kl;walk_at "wp";refine jb ?_;walk_at "wp";refine Or.inl ⟨a,_,rfl,.inl (g.1.seq ha),_,rfl,by rw[ai];omega,by rw[ai];omega,?_⟩;refine iC dP (Gw H a nd lk fr n sd) g (fun _ _ _ _ _=>trivial) ?_ ?_
 ·rintro k x σ H8 H9 D2 hk ⟨s9,ys,ls,fs,b1,b2,b3,b4,b5,b6,b7,b8,⟨ws,b9,b0⟩,u,v,w,x',y',rfl⟩ rfl s10 hD _
  have hk':k<ns.length:=by simpa using hk
  have s11:aS H H9:=s9.trans s10;walk_at "wp";simp only[d7];refine⟨_,_,g1,.inl ⟨a,_,k,_,rfl,rfl,s11.seq ha,cN (oU hk'),?_⟩⟩;walk_at "wp";refine⟨qJ (by decide) (by decide),_,_,rfl,by omega,by omega,?_⟩;have hd0:=CY (ns.getD k 0) (40+4*(k:Int));generalize draw (ns.getD k 0) (40+4*(k:Int))=d0 at hd0⊢;unfold lJ;walk_at "wp";refine⟨short (by simp),fun sm hsm=>?_⟩;have c1:=s10 _ _ b1;have c2:=s10 _ _ b2;have c3:=s10 _ _ b3;have s12:aS H9 (upd H9 sm (.lst [])):=az hsm;exact wC g1 g2 F (s11.free hsm) (fun z=>by rw[<-z,c1]at hsm;cases hsm) (fun z=>by rw[<-z,c2]at hsm;cases hsm) (fun z=>by rw[<-z,c3]at hsm;cases hsm) ha hk' (by omega) hn hd0 b4 b5 b6 hD
   ⟨s11.trans s12,s12 _ _ c1,s12 _ _ c2,cR (Tk.of (s10.trans s12)) b9,fs,[],b0,s12 _ _ c3,aw,by simpa using b7,by simp,b8,_,_,rfl⟩
 ·rintro σ H8 ⟨s9,ys,ls,fs,b1,b2,b3,b4,b5,b6,b7,b8,⟨ws,b9,b0⟩,u,v,w,x',y',rfl⟩
  unfold nJ;walk_at "wp";refine⟨short (by simp),fun p hp=>?_⟩;rw[hr];exact q _ p nd lk ys (s0.trans (s9.trans (az hp))) aw (s0.free F.fnd) (az hp _ _ b1) b4 (by simp at b5;omega) ws (cR (Tk.of (az hp)) b9) (b0.sub fun x hx=>by cases hx)
theorem rX(g1:G.fn "_law_draw" 2=some (jB,[]))(g2:G.fn "_law_otherwise" 2=some (lb K,[])){E:XS}{Q:VK}{H0 H:Hp}{D:Ends}{a:Addr}{ns:List Int}{n:Nat}{sd:Int}(s0:aS H0 H)(ha:SqL K H a (ns.map V.int))(hns:ns.length<=14)(hn:n<=10)(hr:D.rt=Q)
  (q:∀(H':Hp)(p nd lk:Addr)(ys:List V),aS H0 H'->H' p=some (.tup [.ref nd,.ref lk])->H0 nd=none->H' nd=some (.lst ys)->ys≠[]->ys.length<=15->∀vs,_root_.Q.IntKeys H' ys vs->M10.Gt n [] vs->Q (.ref p) H'):
  wpB G K E km D [some (.ref a),some (.int n),some (.int sd),none,none,none,none,none,none,none,none] H:=by
 unfold km;walk_at "wp";refine dA ?_;walk_at "wp";refine⟨(n:Int),rfl,by omega,by omega,?_⟩;refine di dP (short (by omega)) (fun _ _=>trivial) (fun i v _=>cD v=true) (fun _ _ _ _ _ h=>h) (fun τ=>∃t,τ=[t,some (.int sd)]) ⟨none,rfl⟩ ?_ ?_
 ·rintro j y τ H3 R hj ⟨t',rfl⟩ s5 rfl k
  walk_at "wp"
  rw[FH];walk_at "wp";simp only[d7,Int.one_mul,aP];exact⟨⟨by omega,by omega,by decide⟩,pow2 (by omega),by decide,k _ _ _ ⟨_,rfl⟩ (aS.refl _) (mod2 _)⟩
 intro vs H3 l hvl hF s3 hl3;have hvr:∀z∈vs,cD z=true:=fun z hz=>by
  obtain⟨k,hk⟩:=bJ.mp hz;exact hF k z hk
 have hvl':vs.length=n:=by rw[hvl];omega
 refine⟨l,vs,rfl,.inl ⟨SqL.of aw,fun r0 hr0=>⟨short (by simp),fun nd hnd=>?_⟩⟩⟩;have s4:aS H (upd (upd H3 l (.lst vs)) r0 (.tup vs)):=s3.trans ((az hl3).trans (az hr0));have er0:upd (upd H3 l (.lst vs)) r0 (.tup vs) r0=some (.tup vs):=aw;generalize upd (upd H3 l (.lst vs)) r0 (.tup vs)=H4 at s4 er0 hnd⊢;have s5:aS H4 (upd H4 nd (.lst [.ref r0])):=az hnd;have end5:upd H4 nd (.lst [.ref r0]) nd=some (.lst [.ref r0]):=aw;have fnd:H nd=none:=s4.free hnd;generalize upd H4 nd (.lst [.ref r0])=H5 at s5 end5⊢;unfold nL;walk_at "wp";refine⟨short (by simp),fun lk hlk=>?_⟩;have s6:aS H5 (upd H5 lk (.lst [])):=az hlk;have elk:upd H5 lk (.lst []) lk=some (.lst []):=aw;have n1:nd≠lk:=fun z=>by rw[<-z,end5]at hlk;cases hlk
 have flk:H lk=none:=(s4.trans s5).free hlk;generalize upd H5 lk (.lst [])=H6 at s6 elk⊢;unfold nK;walk_at "wp";refine⟨_,rfl,n,rfl,by omega,fun fr hfr=>?_⟩;have s7:aS H6 (upd H6 fr (.lst (nats n))):=az hfr;have end6:=s6 _ _ end5;have enats:nats n=((aq n).map fun i:Nat=>(i:Int)).map V.int:=by unfold nats;rw[bg];rfl
 have nd0:((aq n).map fun i:Nat=>(i:Int)).Nodup:=by
  rw[yE,bQ];exact(gU (n:=n)).imp fun h e=>h (u6 e)
 refine AH g1 g2 ⟨fnd,flk,(s4.trans (s5.trans s6)).free hfr,n1,(fun z=>by rw[<-z,end6]at hfr;cases hfr),(fun z=>by rw[<-z,elk]at hfr;cases hfr)⟩ s0 ha hns hn hr q
  ⟨s4.trans (s5.trans (s6.trans s7)),[.ref r0],[],_,s7 _ _ end6,s7 _ _ elk,by rw[aw,enats],by simp,by simp,by simp,nd0,by simp,⟨[vs.map K32.intOf],.cons ⟨r0,rfl,?_⟩ .nil,.start ⟨by rw[ai];exact hvl',(K32.kT hvr).2⟩⟩,_,_,_,_,_,rfl⟩
 rw[(K32.kT hvr).1];exact s7 _ _ (s6 _ _ (s5 _ _ er0))
theorem E4(g1:G.fn "_law_draw" 2=some (jB,[]))(g2:G.fn "_law_otherwise" 2=some (lb K,[])):
  Sat G K (wV K) qO qC:=by
 rintro vs H Q E ⟨a,ns,n,rfl,ha,hns,hn,q⟩;unfold qO nM;change wpB G K _ _ _ [some (.ref a),some (.int n),none,none,none,none,none,none,none,none,none] H;walk_at "wp";refine⟨short (by simp),fun p0 hp0=>?_⟩;generalize hX:upd H p0 _=H1;obtain⟨s0,e0⟩:=xK hX hp0;clear hX;obtain⟨d,d',r1,r2,r3,r4⟩:=jV (K:=K) (s0.seq ha) e0;refine⟨d,d',r1,r2,r3,_,rfl,?_⟩;rw[r4];by_cases hf:ns=[]
 ·rw[decide_eq_true hf]
  exact rX g1 g2 s0 (s0.seq ha) hns hn rfl q
 ·rw[decide_eq_false hf]
  show if true=true then _ else _
  rw[if_pos rfl];have hnl:0<ns.length:=eK.mpr hf;have hc:(ns.map V.int)[0]? =some (.int (ns.getD 0 0)):=by
   rw[ak,ae hnl,ag,ae hnl];rfl
  refine⟨_,_,g1,.inl ⟨a,_,0,_,rfl,rfl,s0.seq ha,cN (j:=0) hc,_,20,rfl,by decide,by decide,?_⟩⟩;exact rX g1 g2 s0 (s0.seq ha) hns hn rfl q
end
end K34
namespace M9
open K32 K83 M7 M8 L2
noncomputable def trD(rows:List (List Int))(n:Nat):L2.D:=.tup [.lst ((iZ (nds rows n)).map nd1),.lst ((pV (trs rows n)).map qW)]
theorem pW{xs ys:List (List Int)}(nd:xs.Nodup)(p:xs.Perm ys):iZ xs=iZ ys:=by
 have :=mw [] id (ys:=xs) (zs:=ys) (by rw[fu];exact nd) p
 rwa [fu,fu]at this
theorem vg{xs ys:List Tri}(nd:(xs.map key).Nodup)(p:xs.Perm ys):pV xs=pV ys:=mw _ key nd p
theorem yX{xs:List (List Int)}(nd:xs.Nodup):(iZ xs).Perm xs:=jC [] nd rfl
theorem Fv{xs:List Tri}(nd:(xs.map key).Nodup):(pV xs).Perm xs:=jC _ nd (by simp)
theorem lo_lo{a b:List Int}:M4.lo (M4.lo a b) (M4.hi a b)=M4.lo a b/\M4.hi (M4.lo a b) (M4.hi a b)=M4.hi a b:=by
 by_cases h:a=b
 ·subst h
  unfold M4.lo M4.hi;split <;>simp_all
 ·have t:=_root_.Q.iT h
  cases c:_root_.Q.llt b a with
  |true=>
   rw[c]at t;have c1:M4.lo a b=b:=if_pos c;have c2:M4.hi a b=a:=if_neg (by rw[t];decide);rw[c1,c2];exact⟨if_neg (by rw[t];decide),if_pos c⟩
  |false=>
   rw[c]at t;have c1:M4.lo a b=a:=if_neg (by rw[c];decide);have c2:M4.hi a b=b:=if_pos t;rw[c1,c2];exact⟨c1,c2⟩
theorem psi_id{n:Nat}{a b:List Int}{P:Nat->Bool}:psi n id id (M4.lo a b,M4.hi a b,M5.plc n P)=(M4.lo a b,M4.hi a b,M5.plc n P):=by
 unfold psi;dsimp only[id];rw[lo_lo.1,lo_lo.2];refine Prod.ext rfl (Prod.ext rfl ?_);refine vq fun i hi=>?_;rw[eH,decide_eq_true_eq];constructor
 ·intro h
  obtain⟨j,_,hP,e⟩:=sX h;rw[show i=j by omega];exact hP
 ·intro h
  unfold M5.plc;exact ao.mpr ⟨i,eE.mpr ⟨aK.mpr hi,h⟩,rfl⟩
theorem r6{rows rows2:List (List Int)}{n:Nat}(t:Tbl rows n)(t2:Tbl rows2 n)(h:∀r,r∈rows↔r∈rows2):trD rows n=trD rows2 n:=by
 have I:=Hg t t2 h;have pn:=I.nodes;rw[fu]at pn;have pt:=I.tris;have e:(trs rows n).map (psi n id id)=trs rows n:=by
  conv =>rhs;rw[<-fu (trs rows n)]
  refine cm fun x hx=>?_;obtain⟨p,_,_,rfl⟩:=(oA t).mp hx;exact psi_id
 rw[e]at pt;unfold trD;rw[pW (nU t) pn,vg (rZ t) pt]
theorem CK(xs:List (List Int))(ts:List Tri):hgt (.tup [.lst (xs.map nd1),.lst (ts.map qW)])<=20:=by
 have ii:∀k:List Int,gv (k.map L2.D.int)=0:=fun k=>by
  induction k with
  |nil=>rfl
  |cons a k ih=>show max 0 (gv (k.map L2.D.int))=0;rw[ih];rfl
 have nn:∀k,hgt (nd1 k)<=1:=fun k=>by show gv (k.map L2.D.int)+1<=1;rw[ii];omega
 have mm:∀{α:Type}(g:α->L2.D)(c:Nat)(l:List α),(∀a,hgt (g a)<=c)->gv (l.map g)<=c:=fun g c l h=>by
  induction l with
  |nil=>exact a7 _
  |cons a l ih=>exact Ai.mpr ⟨h a,ih⟩
 have b1:∀x:Tri,hgt (qW x)<=2:=fun x=>by
  show max (hgt (nd1 _)) (max (hgt (nd1 _)) (max (hgt (nd1 _)) 0))+1<=2;exact Nat.succ_le_succ (Ai.mpr ⟨nn _,Ai.mpr ⟨nn _,Ai.mpr ⟨nn _,a7 _⟩⟩⟩)
 show max (gv (List.map nd1 _)+1) (max (gv (List.map qW _)+1) 0)+1<=20;have x1:=mm nd1 1 xs nn;have x2:=mm qW 2 ts b1;omega
theorem Co(rows:List (List Int))(n:Nat):(nds rows n).length<=n+1:=by
 have :=M5.rN (nT rows n).1
 unfold nds M5.fG;simp;omega
theorem trs_len(rows:List (List Int))(n:Nat):(trs rows n).length<=n:=by
 have :=M5.rN (nT rows n).1
 unfold trs;simp;omega
end M9
namespace K34
open PySem PySem.Spec PyProof.Rows L2 R Cp Lt Kc K21 K22 Lm M5 K32 K24
structure Tn(H:Hp)(t:Addr)(nf:Nat->Str)(n:Nat)(ys:List V)(rows:List (List Int)):Prop where
 et:H t=some (.lst ys)
 ln:rows.length=ys.length
 row:∀(i:Nat) y,ys[i]? =some y->∃b r,y=.ref b/\H b=some (.tup [.str (nf i),.ref r])/\H r=some (.tup ((rows.getD i []).map V.int))
 ok:∀i,iB (nf i)=true
 inj:∀i j,i<ys.length->j<ys.length->nf i=nf j->i=j
 len:ys.length<=15
 n10:n<=10
 rd:∀r∈rows,M6.Ok n r
 mis:∀i j,i<j->j<n->M6.Mis rows i j
section
variable {H H':Hp}{t:Addr}{nf:Nat->Str}{n:Nat}{ys:List V}{rows:List (List Int)}{T:Tb}
theorem Tn.get(d:Tn H t nf n ys rows){i:Nat}(h:i<ys.length):rows.getD i []∈rows:=by
 rw[ag,ae (by rw[d.ln];exact h)];exact bu _
theorem Tn.gr(d:Tn H t nf n ys rows)(g:Gr T H H')(tt:Tab T H):Tn H' t nf n ys rows:=
 {d with et:=g.lst tt d.et,row:=fun i y e=>let⟨b,r,h1,h2,h3⟩:=d.row i y e;⟨b,r,h1,g.yP tt h2,g.yP tt h3⟩}
theorem Tn.same(d:Tn H t nf n ys rows)(s:aS H H'):Tn H' t nf n ys rows:=
 {d with et:=s _ _ d.et,row:=fun i y e=>let⟨b,r,h1,h2,h3⟩:=d.row i y e;⟨b,r,h1,s _ _ h2,s _ _ h3⟩}
theorem Tn.dr(d:Tn H t nf n ys rows):Dr H nf n ys:=fun i y e=>by
 obtain⟨b,r,h1,h2,h3⟩:=d.row i y e;have o:=d.rd _ (d.get (aF.mp e).1);refine⟨b,r,_,h1,h2,h3,by rw[ai];exact o.1,fun z hz=>?_⟩;obtain⟨x,hx,rfl⟩:=ao.mp hz;rcases o.2 x hx with rfl|rfl<;>rfl
theorem Tn.tab(d:Tn H t nf n ys rows):Kn4 H (.ref t)/\dR H (.ref t)=true/\(∀y∈ys,dk H y=true)/\∀y∈ys,cG H y=n:=
 tJ d.ok d.inj d.et d.dr (by have :=d.len;omega) (by have :=d.n10;omega)
theorem Tn.count(d:Tn H t nf n ys rows)(h:ys≠[]):Cp.count H (.ref t)=n:=by
 show(match eD (H t)with |some (y::_)=>cG H y|_=>0)=n;rw[d.et];cases ys with
 |nil=>exact absurd rfl h
 |cons y r=>exact d.tab.2.2.2 y (.head _)
theorem Tn.perm(d:Tn H t nf n ys rows):(rowsOf H (.ref t)).Perm (ys.map (cd H)):=by
 have nd:(ys.map (aW H)).Nodup:=by
  obtain⟨a,xs,e,h1,h2,h3,h4,h5⟩:=eT d.tab.2.1;cases e;rw[show eD (H t)=some ys by rw[d.et];rfl]at h1;cases h1;exact h4
 unfold rowsOf;rw[rF (show eD (H t)=some ys by rw[d.et];rfl)];exact(_root_.Q.gc V.non nd (by simp)).map (cd H)
theorem Tn.cds(d:Tn H t nf n ys rows)(x:Str×List V):x∈ys.map (cd H)↔∃i,i<ys.length/\x=(nf i,(rows.getD i []).map V.int):=by
 constructor
 ·intro h
  obtain⟨y,hy,rfl⟩:=ao.mp h;obtain⟨i,e⟩:=bJ.mp hy;obtain⟨b,r,rfl,h2,h3⟩:=d.row i y e;exact⟨i,(aF.mp e).1,A2 h2 h3⟩
 ·rintro⟨i,hi,rfl⟩
  have e:=ae hi;obtain⟨b,r,e1,h2,h3⟩:=d.row i _ e;refine ao.mpr ⟨ys[i],bu hi,?_⟩;rw[e1];exact A2 h2 h3
theorem zE(z:List Int):(z.map V.int).map intOf=z:=by
 rw[bg]
 conv =>rhs;rw[<-fu z]
 rfl
theorem Tn.mem(d:Tn H t nf n ys rows)(r:List Int):r∈K32.rI (rowsOf H (.ref t))↔r∈rows:=by
 unfold K32.rI;rw[(d.perm.map _).mem_iff];constructor
 ·intro h
  obtain⟨x,hx,rfl⟩:=ao.mp h;obtain⟨i,hi,rfl⟩:=(d.cds x).mp hx;rw[zE];exact d.get hi
 ·intro h
  obtain⟨i,hi,rfl⟩:=dz.mp h;refine ao.mpr ⟨(nf i,(rows.getD i []).map V.int),(d.cds _).mpr ⟨i,by rw[<-d.ln];exact hi,rfl⟩,?_⟩;rw[zE,ag,ae hi];rfl
theorem Tn.tbl(d:Tn H t nf n ys rows)(h:ys≠[]):M7.Tbl rows n:=⟨d.rd,fun z=>h (aX.mp (by rw[<-d.ln,z];rfl)),d.mis⟩
theorem Cm{r:Str×List V}{z:List Int}(e:r.2=z.map V.int)(i:Nat)(h:i<z.length):DT i r=z.getD i 0:=by
 unfold DT;rw[e,aP,ag,ak,ag,ae h];rfl
theorem Tn.noc(d:Tn H t nf n ys rows):NoC (rowsOf H (.ref t)) (Cp.count H (.ref t)):=fun a b hab hb=>by
 rw[gE];intro z;rw[K24.tG]at z;have mem:∀r∈rowsOf H (.ref t),∃q∈rows,r.2=q.map V.int:=fun r hr=>by
  obtain⟨i,hi,rfl⟩:=(d.cds r).mp (d.perm.mem_iff.mp hr);exact⟨_,d.get hi,rfl⟩
 have hy:ys≠[]:=fun e=>by
  obtain⟨r,hr,_⟩:=z 0 0 (.inl rfl) (.inl rfl);obtain⟨q,hq,_⟩:=mem r hr;have :=d.ln;rw[e]at this;rw[aX.mp this]at hq;cases hq
 rw[d.count hy]at hb;obtain⟨u,v,hu,hv,k⟩:=d.mis a b hab hb;obtain⟨r,hr,e1,e2⟩:=z u v hu hv;obtain⟨q,hq,e⟩:=mem r hr;have o:=d.rd q hq;rw[Cm e a (by rw[o.1];omega)]at e1;rw[Cm e b (by rw[o.1];omega)]at e2;exact k q hq ⟨e1,e2⟩
theorem Fg{K:af}{Q:VK}{E:XS}(d:Tn H t nf n ys rows)(tb:Tab T H)(q:∀H' p,Gr T H H'->(∃xs,H' p=some (.tup xs))->Rep K H' (if ys=[]then .tup [.lst [],.lst []]else M9.trD rows n) (.ref p)->Q (.ref p) H')(s:L2.St):K83.sk T [.ref t] H Q (E s):=by
 refine⟨_,rfl,d.tab.1,tb,d.tab.2.1,d.noc,fun H' p gr fp tk=>q H' p gr (by
  rcases tk with⟨_,a,b,ep,_⟩ |⟨_,nl,bl,ks,bs,qs,ep,_⟩
  ·exact⟨_,ep⟩
  ·exact⟨_,ep⟩) ?_⟩
 have h0:rowsOf H (.ref t)=[]↔ys=[]:=by
  have :=d.perm.length_eq
  rw[ai]at this;rw[<-aX,this,aX]
 by_cases hy:ys=[]
 ·rw[if_pos hy]
  have :=K83.yQ (K:=K) (n:=0) (fun l hl=>by rw[h0.mpr hy]at hl;cases hl) (fun h=>absurd (h0.mpr hy) h) tk
  unfold K83.tD at this
  rwa [if_pos (h0.mpr hy)]at this
 ·rw[if_neg hy]
  have tl:=d.tbl hy;have tl2:M7.Tbl (K32.rI (rowsOf H (.ref t))) n:=⟨fun r hr=>tl.ok r ((d.mem r).mp hr),fun z=>?_,fun i j a b=>(tl.mis i j a b).sub fun r hr=>(d.mem r).mp hr⟩
  ·have :=K83.yQ (K:=K) (n:=n) (fun l hl=>?_) (fun _=>d.count hy) tk
   ·unfold K83.tD at this
    rw[if_neg (fun z=>hy (h0.mp z)),M8.gD_is tl2]at this;rw[<-M9.r6 tl2 tl d.mem];exact this
   ·obtain⟨i,hi,rfl⟩:=(d.cds l).mp (d.perm.mem_iff.mp hl)
    have o:=d.rd _ (d.get hi);refine⟨by rw[ai];exact o.1,fun y hy=>?_⟩;obtain⟨x,hx,rfl⟩:=ao.mp hy;rcases o.2 x hx with rfl|rfl<;>rfl
  ·unfold K32.rI at z
   exact hy (h0.mp (pP.mp z))
theorem Tn.of{H2:Hp}{l:Addr}{vs:List V}{f:List Int->List Int}{m:Nat}(d:Tn H t nf n ys rows)(el:H2 l=some (.lst vs))(hvl:vs.length=ys.length)(hF:∀(i:Nat) v,vs[i]? =some v->∃b r,v=.ref b/\H2 b=some (.tup [.str (nf i),.ref r])/\H2 r=some (.tup ((f (rows.getD i [])).map V.int)))(hm:m<=10)(ok:∀r∈rows.map f,M6.Ok m r)(mis:∀i j,i<j->j<m->M6.Mis (rows.map f) i j):Tn H2 l nf m vs (rows.map f) where
 et:=el
 ln:=by rw[ai,d.ln,hvl]
 row:=fun i y e=>by
  obtain⟨b,r,h1,h2,h3⟩:=hF i y e;refine⟨b,r,h1,h2,?_⟩;have hi:i<rows.length:=by rw[d.ln,<-hvl];exact(aF.mp e).1
  rw[h3,ag,ag,ak,ae hi];rfl
 ok:=d.ok
 inj:=fun i j hi hj=>d.inj i j (by rw[<-hvl];exact hi) (by rw[<-hvl];exact hj)
 len:=by rw[hvl];exact d.len
 n10:=hm
 rd:=ok
 mis:=mis
end
end K34
namespace K34
open PySem R
noncomputable def zi:List Str:=["_law_cells","_law_many","_law_first"]
noncomputable def qA:List Str:=["_law_cells","_law_many","_law_first","_law_order_here","_law_left","_law_k"]
noncomputable def nq:CB:=
  (.cons (.ret (.var 3))
  .nil)
noncomputable def nr:CB:=
  (.cons (.forr (.name 5) (.range1 (.var 1))
  (.cons (.expr (.meth1 .append (.var 3) (.meth1 .pop (.var 4) (.bin .Mod (.call "_law_draw" (.cons (.call "_law_cell_at" (.cons (.var 0) (.cons (.var 5) .nil))) (.cons (.bin .Add (.var 2) (.var 5)) .nil))) (.bfn .len (.cons (.var 4) .nil))))))
  .nil))
  nq)
noncomputable def nu:CB:=
  (.cons (.asg (.name 4) (.lrng (.var 1)))
  nr)
noncomputable def qM:CB:=
  (.cons (.asg (.name 3) (.lst .nil))
  nu)
noncomputable def A8:List Str:=["_law_readings","_law_order_here","_law_some"]
noncomputable def sP:List Str:=["_law_readings","_law_order_here","_law_some","_law_otherwise_here"]
noncomputable def pd:CB:=
  (.cons (.ret (.bfn .tuple (.cons (.comp ["_law_place"] [3] (.name 0) (.seq (.var 1)) .no (.idx (.var 1) (.var 0))) .nil)))
  .nil)
noncomputable def tQ:CB:=
  (.cons (.asg (.name 3) (.call "_law_otherwise" (.cons (.var 0) (.cons (.var 2) .nil))))
  pd)
noncomputable def DN:List Str:=["_law_found","_law_order_here","_law_some"]
noncomputable def vA:List Str:=["_law_found","_law_order_here","_law_some","_law_branches","_law_one","_law_other","_law_places","_law_low","_law_high"]
noncomputable def me:CB:=
  (.cons (.ret (.tup (.cons (.bfn .sortl (.cons (.comp ["_law_node"] [1,2] (.name 0) (.seq (.idx (.var 0) (.con (.int 0)))) .no (.call "_law_laid" (.cons (.var 0) (.cons (.var 1) (.cons (.var 2) .nil))))) .nil)) (.cons (.bfn .sortt (.cons (.var 3) .nil)) .nil))))
  .nil)
noncomputable def kj:CB:=
  (.cons (.expr (.meth1 .append (.var 3) (.tup (.cons (.var 7) (.cons (.var 8) (.cons (.bfn .tuple (.cons (.bfn .sorti (.cons (.comp ["_law_place"] [1] (.name 0) (.seq (.var 6)) .no (.meth1 .index (.var 1) (.var 0))) .nil)) .nil)) .nil))))))
  .nil)
noncomputable def qL:CB:=
  (.cons (.forr (.tup (.cons (.name 4) (.cons (.name 5) (.cons (.name 6) .nil)))) (.seq (.idx (.var 0) (.con (.int 1))))
  (.cons (.asg (.ltup (.cons (.name 7) (.cons (.name 8) .nil))) (.bfn .sortl (.cons (.lst (.cons (.call "_law_laid" (.cons (.var 4) (.cons (.var 1) (.cons (.var 2) .nil)))) (.cons (.call "_law_laid" (.cons (.var 5) (.cons (.var 1) (.cons (.var 2) .nil)))) .nil))) .nil)))
  kj))
  me)
noncomputable def vS:CB:=
  (.cons (.asg (.name 3) (.lst .nil))
  qL)
end K34
namespace K34
open PySem PySem.Spec PyProof.Rows L2 R Cp Lt Kc K21 K22 Lm M5 K32
noncomputable def Fy(K:af):Sp:=fun vs H Q _=>∃(b:Addr)(ns:List Int)(n f:Nat),vs=[.ref b,.int n,.int f]/\SqL K H b (ns.map V.int)/\n<=15/\f<=180/\
 ∀(H':Hp)(l:Addr)(os:List Int),aS H H'->H l=none->H' l=some (.lst (os.map V.int))->os.Perm ((aq n).map fun k:Nat=>(k:Int))->Q (.ref l) H'
theorem wp_ord{G:Gam}{K:af}(g0:G.fn "_law_cell_at" 2=some (w6 K,[]))(g1:G.fn "_law_draw" 2=some (jB,[])):
  Sat G K (Fy K) qM qA:=by
 rintro vs H Q E ⟨b,ns,n,ff,rfl,hb,hn,hff,q⟩;unfold qM;change wpB G K _ _ _ [some (.ref b),some (.int n),some (.int ff),none,none,none] H;walk_at "wp";refine⟨short (by simp),fun l hl=>?_⟩;generalize hX:upd H l _=H1;obtain⟨s1,el⟩:=xK hX hl;clear hX;unfold nu;walk_at "wp";refine⟨_,rfl,n,rfl,by omega,fun f hf=>?_⟩;have s2:aS H1 (upd H1 f (.lst (nats n))):=az hf;have ef:upd H1 f (.lst (nats n)) f=some (.lst (nats n)):=aw;have fH:H f=none:=s1.free hf;have nlf:l≠f:=fun z=>by rw[<-z,el]at hf;cases hf
 generalize upd H1 f (.lst (nats n))=H2 at s2 ef⊢;have enats:nats n=((aq n).map fun i:Nat=>(i:Int)).map V.int:=by unfold nats;rw[bg];rfl
 rw[enats]at ef;unfold nr;walk_at "wp";refine jb ?_;walk_at "wp";refine⟨(n:Int),rfl,by omega,by omega,?_⟩;refine iC dP (fun k σ H'=>aS H H'/\(∃(os fs:List Int),H' l=some (.lst (os.map V.int))/\H' f=some (.lst (fs.map V.int))/\(os++fs).Perm ((aq n).map fun k:Nat=>(k:Int))/\os.length=k)/\∃u,σ=[some (.ref b),some (.int n),some (.int ff),some (.ref l),some (.ref f),u])
  ⟨s1.trans s2,⟨[],_,s2 _ _ el,ef,dW _,rfl⟩,none,rfl⟩ (fun _ _ _ _ _=>trivial) ?_ ?_
 ·rintro k x σ H3 H4 D2 hk ⟨s3,⟨os,fs,e1,e2,pm,hk'⟩,u,rfl⟩ rfl s4 hD _
  have hkn:k<n:=by omega
  have e1:=s4 _ _ e1;have e2:=s4 _ _ e2;have s5:aS H H4:=s3.trans s4;have hlen:os.length+fs.length=n:=by
   have :=pm.length_eq
   simpa using this
  have hfl:0<fs.length:=by omega
  walk_at "wp"
  simp only[d7];rw[show(ff:Int)+(k:Int)=((ff+k:Nat):Int) by omega];refine⟨.inl ⟨rfl,_,SqL.of e1⟩,.inl ⟨rfl,_,SqL.of e2⟩,_,_,g1,_,_,g0,b,ns,k,rfl,s5.seq hb,_,((ff+k:Nat):Int),rfl,by omega,by omega,?_⟩;generalize K21.draw (ns.getD k 0) ((ff+k:Nat):Int)=d0;refine Or.inl ⟨f,_,rfl,.inl (SqL.of e2),?_⟩;rw[ai];walk_at "wp";have i0:0<=d0%(fs.length:Int):=bG _ (by omega);have i1:d0%(fs.length:Int)<fs.length:=bV _ (by omega);obtain⟨z,hz⟩:=dD i0;rw[hz];have hzl:z<fs.length:=by omega
  have hgz:(fs.map V.int)[z]? =some (.int fs[z]):=by rw[ak,ae hzl];rfl
  refine⟨by omega,.inr ⟨f,_,z,z,_,rfl,rfl,e2,by omega,by omega,?_,hgz,?_⟩⟩
  ·rw[ai,mR (by omega) (by omega)]
   simp
  have ee:(fs.map V.int).eraseIdx z=(fs.eraseIdx z).map V.int:=by
   rw[fC,fC,cH,qr,Ax]
  rw[ee];have e1':upd H4 f (.lst ((fs.eraseIdx z).map V.int)) l=some (.lst (os.map V.int)):=by rw[bh nlf];exact e1
  refine⟨l,os.map V.int,_,rfl,rfl,e1',cP (by rw[ai];omega:(os.map V.int).length<=40) (by decide),?_⟩;have pm2:((os++[fs[z]])++fs.eraseIdx z).Perm (os++fs):=by
   rw[iY];exact(gY fs z hzl).append_left os
  refine hD _ _ ⟨fN (fN s5 fH) hl,⟨os++[fs[z]],fs.eraseIdx z,?_,?_,pm2.trans pm,by simp[hk']⟩,_,rfl⟩
  ·rw[aw,cH];rfl
  ·rw[bh (cb nlf)];exact aw
 ·rintro σ H3 ⟨s3,⟨os,fs,e1,e2,pm,hk'⟩,u,rfl⟩
  unfold nq;walk_at "wp";have hfs:fs=[]:=by
   have :=pm.length_eq
   rw[cC,ai,bq]at this;have hk2:os.length=n:=by simpa using hk'
   exact aX.mp (by omega)
  rw[hfs,m8]at pm;exact q H3 l os s3 hl e1 pm
noncomputable def oo(os:List Int)(j:Nat):Nat:=(os.getD j 0).toNat
noncomputable def fc(n:Nat)(os ms:List Int):List Int->List Int:=M9.lay n (fun p=>decide ((p:Int)∈ms)) (oo os)
noncomputable def sr(K:af):Sp:=fun vs H Q _=>∃(r o s:Addr)(zs os ms:List Int)(n:Nat),vs=[.ref r,.ref o,.ref s]/\SqT K H r (zs.map V.int)/\SqL K H o (os.map V.int)/\SqL K H s (ms.map V.int)/\zs.length=n/\n<=10/\os.length=n/\(∀x∈os,0<=x/\x<n)/\
 ∀(H':Hp)(p:Addr),aS H H'->H p=none->H' p=some (.tup ((fc n os ms zs).map V.int))->Q (.ref p) H'
theorem wp_laid{G:Gam}{K:af}(g0:G.fn "_law_otherwise" 2=some (lb K,[])):
  Sat G K (sr K) tQ sP:=by
 rintro vs H Q E ⟨r,o,s,zs,os,ms,n,rfl,hr,ho,hs,hz,hn,hol,hos,q⟩;unfold tQ;change wpB G K _ _ _ [some (.ref r),some (.ref o),some (.ref s),none] H;walk_at "wp";refine⟨_,_,g0,r,s,zs,ms,rfl,hr,hs,by omega,fun H1 p1 s1 fp1 ep1=>?_⟩;unfold pd;walk_at "wp";refine dA (dB rfl (s1.seq ho) ?_);refine di eL (short (by rw[ai];omega)) (fun H2 s2=>s2.seq (s1.seq ho)) (fun i v _=>v=.int (M9.tw (fun p=>decide ((p:Int)∈ms)) (oo os i) (zs.getD (oo os i) 0))) (fun _ _ _ _ _ h=>h) (fun τ=>∃t,τ=[t,some (.ref p1)]) ⟨none,rfl⟩ ?_ ?_
 ·rintro i x τ H3 R hi ⟨t,rfl⟩ s3 hx k
  rw[ai]at hi;rw[fV hi]at hx;cases hx;walk_at "wp";have hm:os.getD i 0∈os:=by rw[ag,ae hi];exact bu hi
  obtain⟨h0,h1⟩:=hos _ hm;have ez:os.getD i 0=((oo os i:Nat):Int):=by unfold oo;omega
  rw[ez];have hlt:oo os i<(M10.oth zs ms).length:=by rw[M10.xA];unfold oo;omega
  refine .inr (.inl ⟨p1,_,oo os i,_,rfl,rfl,SqT.of (s3 _ _ ep1),cN (fV hlt),k _ _ _ ⟨_,rfl⟩ (aS.refl _) ?_⟩);rw[M10.GD (by rw[<-M10.xA zs ms];exact hlt)];unfold M9.tw;by_cases c:((oo os i:Nat):Int)∈ms
  ·rw[if_pos c,if_pos (decide_eq_true c)]
  ·rw[if_neg c,if_neg (show ¬decide (((oo os i:Nat):Int)∈ms)=true by rw[decide_eq_false c];decide)]
 ·intro vs H2 l hvl hF s2 hl2
  rw[ai]at hvl;have e:vs=(fc n os ms zs).map V.int:=by
   unfold fc M9.lay;apply gB;intro i;rw[ak,ak];by_cases hi:i<vs.length
   ·rw[ae hi,a6 (by omega),hF i _ (ae hi)]
    rfl
   ·rw[bB (by omega),bB (by rw[bq];omega)]
    rfl
  subst e;exact⟨l,_,rfl,.inl ⟨SqL.of aw,fun p hp=>q _ p (s1.trans (s2.trans ((az hl2).trans (az hp)))) ((s1.trans (s2.trans (az hl2))).free hp) aw⟩⟩
theorem srt_two{a b:List Int}(h:a≠b):M8.iZ [a,b]=[M4.lo a b,M4.hi a b]:=by
 have nd:[a,b].Nodup:=by simp[h]
 have p1:=K83.jC [] (ys:=[a,b]) nd rfl;have r:=K83.oE nd;have t:=_root_.Q.iT h;unfold M8.iZ M4.lo M4.hi;cases c:_root_.Q.llt b a with
 |true=>
  rw[c]at t;rw[if_pos rfl,if_neg (by rw[t];decide)];exact gR (fun x y _ _ h k=>K83.Bl h k) r (.cons (fun y hy=>by rw[aC.mp hy];exact c) (lP _ _)) (p1.trans (jI _ _ _))
 |false=>
  have t:_root_.Q.llt a b=true:=by rw[t,c];rfl
  rw[if_neg (by decide),if_pos t];exact gR (fun x y _ _ h k=>K83.Bl h k) r (.cons (fun y hy=>by rw[aC.mp hy];exact t) (lP _ _)) p1
theorem FF{ns qs:List Int}(nd:ns.Nodup)(ndq:qs.Nodup)(h:∀x,x∈qs↔x∈ns)(r:qs.Pairwise (·<·)):_root_.Q.sortI ns=qs.map V.int:=by
 have pm:=_root_.Q.qb nd;have e:_root_.Q.sortI ns=((_root_.Q.oI ns).map fun i=>ns.getD i 0).map V.int:=by
  unfold _root_.Q.sortI;rw[bg];refine cm fun i hi=>?_;have hi':i<ns.length:=aK.mp (pm.mem_iff.mp hi);show(ns.map V.int).getD i .non=V.int (ns.getD i 0);rw[ag,ag,ak,ae hi'];rfl
 rw[e];congr 1;have pm2:((_root_.Q.oI ns).map fun i=>ns.getD i 0).Perm ns:=by
  have h:=pm.map fun i=>ns.getD i 0;rw[_root_.Q.range_getD]at h;exact h
 have r2:((_root_.Q.oI ns).map fun i=>ns.getD i 0).Pairwise (·<·):=by
  by_cases h2:ns.length<2
  ·have hl:((_root_.Q.oI ns).map fun i=>ns.getD i 0).length<2:=by rw[pm2.length_eq];exact h2
   match(_root_.Q.oI ns).map (fun i=>ns.getD i 0),hl with
   | [],_=>exact .nil
   | [a],_=>exact lP _ _
  ·exact bQ.mpr ((_root_.Q.zm nd h2).imp fun h=>of_decide_eq_true h)
 exact gR (fun x y _ _ h k=>by omega) r2 r (pm2.trans (K84.mD ndq nd h).symm)
theorem A4(n:Nat)(P:Nat->Bool):(plc n P).Pairwise (·<·):=by
 unfold plc;refine bQ.mpr ?_;exact((mU (n:=n)).filter P).imp fun h=>by omega
structure Od(n:Nat)(os:List Int):Prop where
 ln:os.length=n
 nd:os.Nodup
 bd:∀x∈os,0<=x/\x<n
theorem Cj{n:Nat}{os:List Int}(pm:os.Perm ((aq n).map fun k:Nat=>(k:Int))):Od n os/\∀k,k<n->(k:Int)∈os:=by
 refine⟨⟨by simpa using pm.length_eq,pm.nodup_iff.mpr ?_,fun x hx=>?_⟩,fun k hk=>pm.mem_iff.mpr (ao.mpr ⟨k,aK.mpr hk,rfl⟩)⟩
 ·rw[yE,bQ]
  exact(gU (n:=n)).imp fun h e=>h (u6 e)
 ·obtain⟨k,hk,rfl⟩:=ao.mp (pm.mem_iff.mp hx)
  have :=aK.mp hk
  exact⟨by omega,by omega⟩
theorem Od.at{n:Nat}{os:List Int}(d:Od n os){i:Nat}(h:i<n):os.getD i 0∈os/\os.getD i 0=(oo os i:Int)/\oo os i<n:=by
 have hm:os.getD i 0∈os:=by rw[ag,ae (by rw[d.ln];exact h)];exact bu _
 have :=d.bd _ hm
 unfold oo;exact⟨hm,by omega,by omega⟩
theorem Od.idx{n:Nat}{os:List Int}(d:Od n os){p:Int}(h:p∈os):os.idxOf p<n/\os.getD (os.idxOf p) 0=p:=by
 have hl:=List.idxOf_lt_length_of_mem h;refine⟨by rw[<-d.ln];exact hl,?_⟩;rw[ag,ae hl];exact List.getElem_idxOf hl
theorem Od.xdi{n:Nat}{os:List Int}(d:Od n os){i:Nat}(h:i<n):os.idxOf (os.getD i 0)=i:=by
 obtain⟨hm,_⟩:=d.at h;obtain⟨h1,h2⟩:=d.idx hm;have hi:i<os.length:=by rw[d.ln];exact h
 have hj:os.idxOf (os.getD i 0)<os.length:=by rw[d.ln];exact h1
 have g:∀{k:Nat}(h:k<os.length),os.getD k 0=os[k]:=fun{k} h=>by rw[ag,ae h];rfl
 exact(dY d.nd).mp ((g hj).symm.trans (h2.trans (g hi)))
theorem Hn{n:Nat}{os ps:List Int}(d:Od n os)(hs:∀p∈ps,p∈os)(nd:ps.Nodup):(ps.map fun p=>((os.idxOf p:Nat):Int)).Nodup/\_root_.Q.sortI (ps.map fun p=>((os.idxOf p:Nat):Int))=(plc n fun i=>decide ((oo os i:Int)∈ps)).map V.int:=by
 have nd2:(ps.map fun p=>((os.idxOf p:Nat):Int)).Nodup:=by
  refine bQ.mpr ((eG.mp nd).imp ?_);rintro a b ⟨ha,hb,hab⟩ e;have ea:=(d.idx (hs a ha)).2;have eb:=(d.idx (hs b hb)).2;rw[show os.idxOf a=os.idxOf b by omega,eb]at ea;exact hab ea.symm
 refine⟨nd2,FF nd2 ((A4 n _).imp fun h=>by omega) (fun x=>?_) (A4 n _)⟩;rw[ao];constructor
 ·intro h
  obtain⟨i,hi,hP,rfl⟩:=M8.sX h;refine⟨_,of_decide_eq_true hP,?_⟩;rw[<-(d.at hi).2.1,d.xdi hi]
 ·rintro⟨p,hp,rfl⟩
  obtain⟨h1,h2⟩:=d.idx (hs p hp);refine(mG h1).mpr (decide_eq_true ?_);rw[<-(d.at h1).2.1,h2];exact hp
noncomputable def wx(H:Hp)(v:V)(x:M8.Tri):Prop:=∃a p q r,v=.ref a/\H a=some (.tup [.ref p,.ref q,.ref r])/\H p=some (.tup (x.1.map V.int))/\H q=some (.tup (x.2.1.map V.int))/\H r=some (.tup (x.2.2.map V.int))
theorem rE{H H':Hp}(t:Tk H H'){vs:List V}{xs:List M8.Tri}(h:Paired (wx H) vs xs):Paired (wx H') vs xs:=Paired.Bj h fun v k w=>by
 obtain⟨a,x,y,z,e,e1,e2,e3,e4⟩:=w;exact⟨a,x,y,z,e,t _ _ e1,t _ _ e2,t _ _ e3,t _ _ e4⟩
theorem Ff{H:Hp}{vs:List V}{xs:List M8.Tri}(h:Paired (wx H) vs xs):_root_.Q.jF H vs (xs.map fun x=>(x.1,x.2.1)):=by
 induction h with
 |nil=>exact .nil
 |cons x r ih=>
  obtain⟨a,x,y,z,e,e1,e2,e3,_⟩:=x;exact .cons ⟨a,x,y,_,e,e1,e2,e3⟩ ih
theorem vv{α β:Type}{F:α->β->Prop}{ws:List α}{b:β}{m:List β}(h:Paired F ws (b::m)):∃a r,ws=a::r/\F a b/\Paired F r m:=by
 cases h with
 |cons x t=>exact⟨_,_,rfl,x,t⟩
theorem Gb{α β:Type}{F:α->β->Prop}:∀{l:List α}{m:List β},l.length=m.length->(∀(j:Nat) a b,l[j]? =some a->m[j]? =some b->F a b)->Paired F l m
 | [],[],_,_=>.nil
 |a::l,b::m,h,f=>.cons (f 0 a b rfl rfl) (Gb (pN h) fun j x y e1 e2=>f (j+1) x y (by simpa using e1) (by simpa using e2))
theorem rH{K:af}{H:Hp}{α:Type}{g:α->L2.D}:∀{ks:List α}{ys:List V},fg K H (ks.map g) ys->ys.length=ks.length/\∀(i:Nat) y,ys[i]? =some y->∃k,ks[i]? =some k/\Rep K H (g k) y
 | [],ys,h=>by
  obtain rfl:ys=[]:=h;exact⟨rfl,fun i y e=>by simp at e⟩
 |k::ks,ys,h=>by
  obtain⟨x,r,rfl,h1,h2⟩:=h;obtain⟨a,b⟩:=rH h2;refine⟨by simp[a],fun i y e=>?_⟩;cases i with
  |zero=>simp at e;subst e;exact⟨k,rfl,h1⟩
  |succ i=>simp at e;simpa using b i y e
theorem vp{K:af}{H:Hp}:∀{ks:List Int}{ys:List V},fg K H (ks.map L2.D.int) ys->ys=ks.map V.int
 | [],ys,h=>h
 |k::ks,ys,h=>by
  obtain⟨x,r,rfl,h1,h2⟩:=h;obtain rfl:x=.int k:=h1;rw[vp h2];rfl
theorem sO{K:af}{H:Hp}{k:List Int}{v:V}(h:Rep K H (K83.nd1 k) v):∃a,v=.ref a/\SqT K H a (k.map V.int):=by
 obtain⟨a,xs,rfl,hq,rs⟩:=h;rw[vp rs]at hq;exact⟨a,rfl,hq⟩
theorem tri_inv{K:af}{H:Hp}{x:M8.Tri}{v:V}(h:Rep K H (M8.qW x) v):∃a p q r,v=.ref a/\SqT K H a [.ref p,.ref q,.ref r]/\SqT K H p (x.1.map V.int)/\SqT K H q (x.2.1.map V.int)/\SqT K H r (x.2.2.map V.int):=by
 obtain⟨a,_,rfl,hq,_,_,rfl,h1,_,_,rfl,h2,_,_,rfl,h3,rfl⟩:=h;obtain⟨p,rfl,k1⟩:=sO h1;obtain⟨q,rfl,k2⟩:=sO h2;obtain⟨r,rfl,k3⟩:=sO h3;exact⟨a,p,q,r,rfl,hq,k1,k2,k3⟩
noncomputable def mZ(n:Nat)(os ms:List Int):M8.Tri->M8.Tri:=M8.psi n (fc n os ms) (oo os)
structure Pt(n:Nat)(os ms:List Int)(xs:List (List Int))(ts:List M8.Tri):Prop where
 n10:n<=10
 od:Od n os
 all:∀k,k<n->(k:Int)∈os
 xl:xs.length<=20
 tl:ts.length<=20
 xo:∀v∈xs,v.length=n
 xn:(xs.map (fc n os ms)).Nodup
 to:∀t∈ts,t.1.length=n/\t.2.1.length=n/\fc n os ms t.1≠fc n os ms t.2.1/\t.2.2.Nodup/\(∀x∈t.2.2,x∈os)
 tn:((ts.map (mZ n os ms)).map M8.key).Nodup
noncomputable def AR(K:af):Sp:=fun vs H Q _=>∃(f o s:Addr)(os ms:List Int)(n:Nat)(xs:List (List Int))(ts:List M8.Tri),vs=[.ref f,.ref o,.ref s]/\Rep K H (.tup [.lst (xs.map K83.nd1),.lst (ts.map M8.qW)]) (.ref f)/\H o=some (.lst (os.map V.int))/\SqL K H s (ms.map V.int)/\Pt n os ms xs ts/\
 ∀(H':Hp)(p:Addr),aS H H'->Rep K H' (.tup [.lst ((M8.iZ (xs.map (fc n os ms))).map K83.nd1),.lst ((M8.pV (ts.map (mZ n os ms))).map M8.qW)]) (.ref p)->Q (.ref p) H'
theorem oP(n:Nat)(os ms v:List Int):(fc n os ms v).length=n:=by unfold fc M9.lay;simp
section
variable {G:Gam}{K:af}
noncomputable def Pw(H:Hp)(f o s br:Addr)(n:Nat)(os ms:List Int)(ts:List M8.Tri)(k:Nat)(σ:L2.St)(H':Hp):Prop:=aS H H'/\(∃vs,H' br=some (.lst vs)/\Paired (wx H') vs ((ts.take k).map (mZ n os ms)))/\∃a b c d e,σ=[some (.ref f),some (.ref o),some (.ref s),some (.ref br),a,b,c,d,e]
section
variable {E:XS}{D2:Ends}{H H':Hp}{f o s br:Addr}{n k:Nat}{os ms:List Int}{xs:List (List Int)}{ts:List M8.Tri}{t:M8.Tri}{vs:List V}
theorem AE(P:Pt n os ms xs ts)(fb:H br=none)(hk:ts[k]? =some t)(s1:aS H H')(ho:H o=some (.lst (os.map V.int)))(eb:H' br=some (.lst vs))(pv:Paired (wx H') vs ((ts.take k).map (mZ n os ms))){u w r:Addr}{y4 y5:Option V}(eu:H' u=some (.tup ((mZ n os ms t).1.map V.int)))(ew:H' w=some (.tup ((mZ n os ms t).2.1.map V.int)))(er:SqT K H' r (t.2.2.map V.int))(hD:∀σ2 H2,Pw H f o s br n os ms ts (k+1) σ2 H2->D2.nx σ2 H2):
  wpB G K E kj D2 [some (.ref f),some (.ref o),some (.ref s),some (.ref br),y4,y5,some (.ref r),some (.ref u),some (.ref w)] H':=by
 have htm:t∈ts:=aG hk;obtain⟨_,_,_,nd,hsub⟩:=P.to t htm;obtain⟨nd2,es⟩:=Hn P.od hsub nd;have hpl:t.2.2.length<=n:=by
  have :=nd.length_le_of_subset (l₂:=os) (fun x hx=>hsub x hx)
  rw[P.od.ln]at this;exact this
 have h10:=P.n10;have hol:=P.od.ln;unfold kj;walk_at "wp";refine⟨.inl ⟨rfl,_,SqL.of eb⟩,?_⟩;refine dA (qR rfl er ?_);refine di xj (short (by rw[ai];omega)) (fun H2 s2=>s2.tup er) (fun i v _=>v=.int ((os.idxOf (t.2.2.getD i 0):Nat):Int)) (fun _ _ _ _ _ h=>h) (fun τ=>∃t,τ=[t,some (.ref o)]) ⟨none,rfl⟩ ?_ ?_
 ·rintro i x τ H3 R hi ⟨t',rfl⟩ s3 hx k'
  rw[ai]at hi;rw[fV hi]at hx;cases hx;have hm:t.2.2.getD i 0∈t.2.2:=by rw[ag,ae hi];exact bu hi
  have e3:=s3 _ _ (s1 _ _ ho);walk_at "wp";exact⟨.inl ⟨rfl,_,SqL.of e3⟩,o,os,_,rfl,rfl,e3,hsub _ hm,by omega,k' _ _ _ ⟨_,rfl⟩ (aS.refl _) rfl⟩
 ·intro ws H2 l hwl hF s2 hl2
  rw[ai]at hwl;have e:ws=(t.2.2.map fun p=>((os.idxOf p:Nat):Int)).map V.int:=by
   apply gB
   intro i;rw[ak,ak];by_cases hi:i<ws.length
   ·rw[ae hi,hF i _ (ae hi),ae (show i<t.2.2.length by omega),ag,ae (show i<t.2.2.length by omega)]
    rfl
   ·rw[bB (by omega),bB (by omega)]
    rfl
  subst e;have t1:=s2.trans (az (o:=.lst ((t.2.2.map fun p=>((os.idxOf p:Nat):Int)).map V.int)) hl2);have el:upd H2 l (.lst ((t.2.2.map fun p=>((os.idxOf p:Nat):Int)).map V.int)) l=_:=aw;generalize upd H2 l (.lst ((t.2.2.map fun p=>((os.idxOf p:Nat):Int)).map V.int))=H3 at t1 el;refine⟨l,_,rfl,SqL.of el,by rw[ai];omega,nd2,fun l2 hl3=>?_⟩;rw[es];have t2:=t1.trans (az (o:=.lst ((plc n fun i=>decide ((oo os i:Int)∈t.2.2)).map V.int)) hl3);have el2:upd H3 l2 (.lst ((plc n fun i=>decide ((oo os i:Int)∈t.2.2)).map V.int)) l2=_:=aw;generalize upd H3 l2 (.lst ((plc n fun i=>decide ((oo os i:Int)∈t.2.2)).map V.int))=H4 at t2 el2;refine⟨l2,_,rfl,.inl ⟨SqL.of el2,fun z hz=>⟨short (by simp),fun tp htp=>?_⟩⟩⟩;have t3:=t2.trans (az (o:=.tup ((plc n fun i=>decide ((oo os i:Int)∈t.2.2)).map V.int)) hz);have ez:upd H4 z (.tup ((plc n fun i=>decide ((oo os i:Int)∈t.2.2)).map V.int)) z=_:=aw;generalize upd H4 z (.tup ((plc n fun i=>decide ((oo os i:Int)∈t.2.2)).map V.int))=H5 at t3 ez htp;have t4:=az (o:=.tup [.ref u,.ref w,.ref z]) htp;have etp:upd H5 tp (.tup [.ref u,.ref w,.ref z]) tp=_:=aw;generalize upd H5 tp (.tup [.ref u,.ref w,.ref z])=H6 at t4 etp;have t5:=t3.trans t4;have eb6:=t5 _ _ eb;have hvl:vs.length<=20:=by
   have :=fJ pv
   rw[ai,bR]at this;have :=P.tl;have :=(aF.mp hk).1;omega
  refine⟨br,vs,_,rfl,rfl,eb6,cP (by omega:vs.length<=40) (by decide),?_⟩;have tk6:Tk H' (upd H6 br (.lst (vs++[.ref tp]))):=fun a ys e=>lQ eb6 a ys (t5 a _ e);have tk5:Tk H6 (upd H6 br (.lst (vs++[.ref tp]))):=lQ eb6;refine hD _ _ ⟨fN (s1.trans t5) fb,⟨vs++[.ref tp],aw,?_⟩,_,_,_,_,_,rfl⟩;rw[dc,hk,cH];exact Paired.snoc ⟨tp,u,w,z,rfl,tk5 _ _ etp,tk6 _ _ eu,tk6 _ _ ew,tk5 _ _ (t4 _ _ ez)⟩ (rE tk6 pv)
end
theorem E2(gl:G.fn "_law_laid" 3=some (sr K,[])){E:XS}{D:Ends}{Q:VK}{H H':Hp}{f o s br nl:Addr}{n:Nat}{os ms:List Int}{xs:List (List Int)}{ts:List M8.Tri}{vs nys:List V}{y4 y5 y6 y7 y8:Option V}{bz:V}(P:Pt n os ms xs ts)(s1:aS H H')(hq:SqT K H f [.ref nl,bz])(hnl:SqL K H nl nys)(rn:fg K H (xs.map K83.nd1) nys)(ho:H o=some (.lst (os.map V.int)))(hs:SqL K H s (ms.map V.int))(eb:H' br=some (.lst vs))(pv:Paired (wx H') vs (ts.map (mZ n os ms)))(hr:D.rt=Q)
  (q:∀(H':Hp)(p:Addr),aS H H'->Rep K H' (.tup [.lst ((M8.iZ (xs.map (fc n os ms))).map K83.nd1),.lst ((M8.pV (ts.map (mZ n os ms))).map M8.qW)]) (.ref p)->Q (.ref p) H'):
  wpB G K E me D [some (.ref f),some (.ref o),some (.ref s),some (.ref br),y4,y5,y6,y7,y8] H':=by
 obtain⟨nln,nat⟩:=rH rn;have hxl:=P.xl;have h10:=P.n10;unfold me;walk_at "wp";refine dA ?_;simp only[xQ];walk_at "wp";refine .inr (.inl ⟨f,_,0,_,rfl,rfl,s1.tup hq,cN (j:=0) rfl,.inl ⟨nl,rfl,⟨_,s1.seq hnl⟩,?_⟩⟩);refine di eL (short (by omega)) (fun H2 s2=>s2.seq (s1.seq hnl)) (fun i v H=>∃p,v=.ref p/\H p=some (.tup ((fc n os ms (xs.getD i [])).map V.int))) (fun i v _ _ s h=>let⟨p,e,h⟩:=h;⟨p,e,s _ _ h⟩) (fun τ=>∃t,τ=[t,some (.ref o),some (.ref s)]) ⟨none,rfl⟩ ?_ ?_
 ·rintro i x τ H3 R hi ⟨t',rfl⟩ s3 hx k'
  obtain⟨v,hv,rv⟩:=nat i x hx;have s13:=s1.trans s3;obtain⟨a,rfl,ha⟩:=sO (rv.same s13);walk_at "wp";refine⟨_,_,gl,a,o,s,v,os,ms,n,rfl,ha,SqL.of (s13 _ _ ho),s13.seq hs,P.xo v (aG hv),P.n10,P.od.ln,P.od.bd,fun H4 p s4 fp ep=>k' _ _ _ ⟨_,rfl⟩ s4 ⟨p,rfl,?_⟩⟩;rw[getD_some hv];exact ep
 ·intro ws H2 l hwl hF s2 hl2
  have ik:_root_.Q.IntKeys H2 ws (xs.map (fc n os ms)):=by
   refine Gb (by rw[hwl,ai];exact nln) fun j a b e1 e2=>?_;obtain⟨p,rfl,ep⟩:=hF j a e1;rw[ak]at e2;cases e3:xs[j]? with
   |none=>rw[e3]at e2;cases e2
   |some v=>
    rw[e3]at e2;cases e2;rw[getD_some e3]at ep;exact⟨p,rfl,ep⟩
  have t1:=az (o:=.lst ws) hl2;have el:upd H2 l (.lst ws) l=_:=aw;generalize upd H2 l (.lst ws)=H3 at t1 el;have ik3:=cR (Tk.of t1) ik;refine⟨l,ws,_,n,rfl,SqL.of el,by rw[ai];omega,P.xn,fun k hk=>?_,ik3,fun l2 hl3=>?_⟩
  ·obtain⟨v,_,rfl⟩:=ao.mp hk
   exact oP n os ms v
  have t2:=az (o:=.lst (_root_.Q.cF .non (xs.map (fc n os ms)) ws)) hl3;have el2:upd H3 l2 (.lst (_root_.Q.cF .non (xs.map (fc n os ms)) ws)) l2=_:=aw;generalize upd H3 l2 (.lst (_root_.Q.cF .non (xs.map (fc n os ms)) ws))=H4 at t2 el2;have t14:=s2.trans (t1.trans t2);have pv4:=rE (Tk.of t14) pv;have eb4:=t14 _ _ eb;have ek:(((ts.map (mZ n os ms)).map fun x=>(x.1,x.2.1)).map _root_.Q.kW)=(ts.map (mZ n os ms)).map M8.key:=by rw[bg];rfl
  have htl:=P.tl;refine⟨br,vs,_,n,rfl,SqL.of eb4,by rw[ai,ai];omega,by rw[ek];exact P.tn,fun k hk=>?_,Ff pv4,fun l3 hl4=>?_⟩
  ·obtain⟨x,hx,rfl⟩:=ao.mp hk
   obtain⟨t,ht,rfl⟩:=ao.mp hx;have e1:∀a b,(M4.lo (fc n os ms a) (fc n os ms b)).length=n:=fun a b=>by unfold M4.lo;split <;>exact oP ..
   have e2:∀a b,(M4.hi (fc n os ms a) (fc n os ms b)).length=n:=fun a b=>by unfold M4.hi;split <;>exact oP ..
   exact⟨e1 _ _,e2 _ _⟩
  rw[ek];have t3:=az (o:=.lst (_root_.Q.cF .non ((ts.map (mZ n os ms)).map M8.key) vs)) hl4;have el3:upd H4 l3 (.lst (_root_.Q.cF .non ((ts.map (mZ n os ms)).map M8.key) vs)) l3=_:=aw;generalize upd H4 l3 (.lst (_root_.Q.cF .non ((ts.map (mZ n os ms)).map M8.key) vs))=H5 at t3 el3;refine⟨short (by simp),fun p hp=>?_⟩;have t4:=az (o:=.tup [.ref l2,.ref l3]) hp;have ep:upd H5 p (.tup [.ref l2,.ref l3]) p=_:=aw;generalize upd H5 p (.tup [.ref l2,.ref l3])=H6 at t4 ep;rw[hr];refine q H6 p (s1.trans (t14.trans (t3.trans t4))) ⟨p,_,rfl,SqT.of ep,_,_,rfl,⟨l2,_,rfl,SqL.of ((t3.trans t4) _ _ el2),?_⟩,_,_,rfl,⟨l3,_,rfl,SqL.of (t4 _ _ el3),?_⟩,rfl⟩
  ·exact K83.oG (fun v a ⟨x,e,h⟩=>by subst e;exact K83.lg h) (K83.mB (d:=([]:List Int)) P.xn (by rw[hwl,ai,nln]) (cR (Tk.of (t2.trans (t3.trans t4))) ik3))
  ·refine K83.oG (fun v x ⟨a,p,q,r,e,e0,e1,e2,e3⟩=>?_) (K83.mB (d:=(([],[],[]):M8.Tri)) P.tn (by rw[ai];exact fJ pv) (rE (Tk.of (t3.trans t4)) pv4))
   subst e;exact⟨a,_,rfl,SqT.of e0,_,_,rfl,K83.lg e1,_,_,rfl,K83.lg e2,_,_,rfl,K83.lg e3,rfl⟩
theorem wp_put(gl:G.fn "_law_laid" 3=some (sr K,[])):
  Sat G K (AR K) vS vA:=by
 rintro vs H Q E ⟨f,o,s,os,ms,n,xs,ts,rfl,rf,ho,hs,P,q⟩;obtain⟨_,_,e,hq,_,_,rfl,⟨nl,nys,rfl,hnl,rn⟩,_,_,rfl,⟨bl,bys,rfl,hbl,rb⟩,rfl⟩:=rf;cases e;obtain⟨bln,bat⟩:=rH rb;unfold vS;change wpB G K _ _ _ [some (.ref f),some (.ref o),some (.ref s),none,none,none,none,none,none] H;walk_at "wp";refine⟨short (by simp),fun br fb=>?_⟩;have s1:=az (o:=.lst []) fb;have eb:upd H br (.lst []) br=some (.lst []):=aw;generalize upd H br (.lst [])=H1 at s1 eb;unfold qL;walk_at "wp";refine jb ?_;simp only[xQ];walk_at "wp";refine .inr (.inl ⟨f,_,1,_,rfl,rfl,s1.tup hq,cN (j:=1) rfl,.inl ⟨bl,rfl,⟨_,s1.seq hbl⟩,?_⟩⟩);refine iC eL (Pw H f o s br n os ms ts) ⟨s1,⟨[],eb,.nil⟩,_,_,_,_,_,rfl⟩ (fun _ σ H' _ h=>h.1.seq hbl) ?_ ?_
 ·rintro k x σ H2 H3 D2 hk ⟨s2,⟨vs,e1,pv⟩,a,b,c,d,e,rfl⟩ hx s3 hD _
  obtain⟨t,ht,rt⟩:=bat k x hx;have s23:=s2.trans s3;obtain⟨a,p1,p2,p3,rfl,ha,h1,h2,h3⟩:=tri_inv (rt.same s23);obtain⟨l1,l2,ne,_⟩:=P.to t (aG ht);walk_at "wp";refine⟨a,_,rfl,ha,rfl,_,_,rfl,_,_,rfl,_,_,rfl,rfl,?_⟩;refine⟨_,_,gl,p1,o,s,t.1,os,ms,n,rfl,h1,SqL.of (s23 _ _ ho),s23.seq hs,l1,P.n10,P.od.ln,P.od.bd,fun H4 q1 s4 fq1 eq1=>?_⟩;have s24:=s23.trans s4;refine⟨_,_,gl,p2,o,s,t.2.1,os,ms,n,rfl,s4.tup h2,SqL.of (s24 _ _ ho),s24.seq hs,l2,P.n10,P.od.ln,P.od.bd,fun H5 q2 s5 fq2 eq2=>⟨short (by simp),fun l hl=>?_⟩⟩;have t1:=az (o:=.lst [.ref q1,.ref q2]) hl;have el:upd H5 l (.lst [.ref q1,.ref q2]) l=_:=aw;generalize upd H5 l (.lst [.ref q1,.ref q2])=H6 at t1 el;have nd:[fc n os ms t.1,fc n os ms t.2.1].Nodup:=by simp[ne]
  have ik:_root_.Q.IntKeys H6 [.ref q1,.ref q2] [fc n os ms t.1,fc n os ms t.2.1]:=.cons ⟨q1,rfl,t1 _ _ (s5 _ _ eq1)⟩ (.cons ⟨q2,rfl,t1 _ _ eq2⟩ .nil);refine⟨l,_,[fc n os ms t.1,fc n os ms t.2.1],n,rfl,SqL.of el,(show 2<64 by decide),nd,fun k hk=>?_,ik,fun l3 hl3=>?_⟩
  ·rcases aB.mp hk with rfl|hk
   ·exact oP ..
   ·rw[aC.mp hk];exact oP ..
  have pr:=K83.mB (d:=([]:List Int)) nd rfl ik;have e2:_root_.Q.cF [] [fc n os ms t.1,fc n os ms t.2.1] [fc n os ms t.1,fc n os ms t.2.1]=_:=srt_two ne;rw[e2]at pr;generalize _root_.Q.cF V.non [fc n os ms t.1,fc n os ms t.2.1] [.ref q1,.ref q2]=ws at pr;obtain⟨v1,w1,rfl,⟨u,rfl,eu⟩,pr1⟩:=vv pr;obtain⟨v2,w2,rfl,⟨w,rfl,ew⟩,pr2⟩:=vv pr1;cases pr2;have t2:=az (o:=.lst [.ref u,.ref w]) hl3;have el3:upd H6 l3 (.lst [.ref u,.ref w]) l3=_:=aw;generalize upd H6 l3 (.lst [.ref u,.ref w])=H7 at t2 el3;refine⟨l3,_,rfl,SqL.of el3,rfl,?_⟩;refine⟨_,_,rfl,_,_,rfl,rfl,?_⟩;have s37:=s4.trans (s5.trans (t1.trans t2));exact AE P fb ht (s23.trans s37) ho ((s3.trans s37) _ _ e1) (rE (Tk.of (s3.trans s37)) pv) (t2 _ _ eu) (t2 _ _ ew) (s37.tup h3) hD
 ·rintro σ H2 ⟨s2,⟨vs,e1,pv⟩,a,b,c,d,e,rfl⟩
  rw[eN (by rw[bln];exact ax _)]at pv;exact E2 gl P s2 hq hnl rn ho hs e1 pv rfl q
end
end K34
namespace K34
open PySem R
noncomputable def p_law:List Str:=["_law_script"]
noncomputable def GQ:List Str:=["_law_script","_law_many","_law_names_here","_law_nodes","_law_links","_law_held_here","_law_table","_law_found","_law_turn","_law_draw_here","_law_order_here","_law_some","_law_other","_law_less"]
noncomputable def tT:CB:=
  (.cons (.ret (.cmp .Eq (.idx (.var 13) (.con (.int 0))) (.ssetl (.comp ["_law_node"] [] (.name 0) (.seq (.idx (.var 7) (.con (.int 0)))) .no (.cut (.var 0) .no (.yes (.un .USub (.con (.int 1)))))))))
  .nil)
noncomputable def tU:CB:=
  (.cons (.asg (.name 13) (.call "tree" (.cons (.comp ["_law_name","_law_readings"] [] (.tup (.cons (.name 0) (.cons (.name 1) .nil))) (.seq (.var 6)) .no (.tup (.cons (.var 0) (.cons (.cut (.var 1) .no (.yes (.un .USub (.con (.int 1))))) .nil)))) .nil)))
  tT)
noncomputable def tV:CB:=
  (.cons (.iff (.cmp .Eq (.var 1) (.con (.int 0)))
  (.cons (.ret (.con (.bool true)))
  .nil)
  .nil)
  tU)
noncomputable def tW:CB:=
  (.cons (.iff (.cmp .NotEq (.call "tree" (.cons (.var 12) .nil)) (.call "_law_put" (.cons (.var 7) (.cons (.var 10) (.cons (.var 11) .nil)))))
  (.cons (.ret (.con (.bool false)))
  .nil)
  .nil)
  tV)
noncomputable def tX:CB:=
  (.cons (.asgc 12 (.comp ["_law_name","_law_readings"] [10,11] (.tup (.cons (.name 0) (.cons (.name 1) .nil))) (.seq (.var 6)) .no (.tup (.cons (.var 0) (.cons (.call "_law_laid" (.cons (.var 1) (.cons (.var 2) (.cons (.var 3) .nil)))) .nil)))))
  tW)
noncomputable def z6:CB:=
  (.cons (.asgc 11 (.comp ["_law_place"] [9] (.name 0) (.range1 (.var 1)) (.yes (.cmp .Eq (.bin .Mod (.bin .FloorDiv (.bin .FloorDiv (.var 1) (.con (.int 100))) (.bin .LShift (.con (.int 1)) (.var 0))) (.con (.int 2))) (.con (.int 1)))) (.var 0)))
  tX)
noncomputable def tY:CB:=
  (.cons (.asg (.name 10) (.call "_law_order" (.cons (.cut (.var 0) (.yes (.con (.int 5))) .no) (.cons (.var 1) (.cons (.con (.int 124)) .nil)))))
  z6)
noncomputable def z7:CB:=
  (.cons (.iff (.cmp .NotEq (.call "tree" (.cons (.bin .Add (.lst (.cons (.tup (.cons (.idx (.var 2) (.con (.int 14))) (.cons (.idx (.idx (.var 6) (.bin .Mod (.var 9) (.bfn .len (.cons (.var 6) .nil)))) (.con (.int 1))) .nil))) .nil)) (.var 6)) .nil)) (.var 7))
  (.cons (.ret (.con (.bool false)))
  .nil)
  .nil)
  tY)
noncomputable def tZ:CB:=
  (.cons (.asg (.name 9) (.call "_law_draw" (.cons (.call "_law_cell_at" (.cons (.var 0) (.cons (.con (.int 1)) .nil))) (.cons (.con (.int 9)) .nil))))
  z7)
noncomputable def z8:CB:=
  (.cons (.iff (.cmp .NotEq (.call "tree" (.cons (.comp ["_law_k"] [6] (.name 0) (.seq (.var 8)) .no (.idx (.var 1) (.var 0))) .nil)) (.var 7))
  (.cons (.ret (.con (.bool false)))
  .nil)
  .nil)
  tZ)
noncomputable def yf:CB:=
  (.cons (.asg (.name 8) (.call "_law_order" (.cons (.cut (.var 0) (.yes (.con (.int 4))) .no) (.cons (.bfn .len (.cons (.var 6) .nil)) (.cons (.con (.int 100)) .nil)))))
  z8)
noncomputable def C2:CB:=
  (.cons (.iff (.or (.not (.bfn .isinstance (.cons (.var 7) (.cons (.ty .tuple) .nil)))) (.cmp .Eq (.var 6) (.lst .nil)))
  (.cons (.ret (.cmp .Eq (.var 7) (.tup (.cons (.lst .nil) (.cons (.lst .nil) .nil)))))
  .nil)
  .nil)
  yf)
noncomputable def yg:CB:=
  (.cons (.asg (.name 7) (.call "tree" (.cons (.var 6) .nil)))
  C2)
noncomputable def C3:CB:=
  (.cons (.asgc 6 (.comp ["_law_k"] [2,3,5] (.name 0) (.range1 (.bfn .len (.cons (.var 5) .nil))) .no (.tup (.cons (.idx (.var 1) (.var 0)) (.cons (.idx (.var 2) (.idx (.var 3) (.var 0))) .nil)))))
  yg)
noncomputable def C4:CB:=
  (.cons (.asg (.name 5) (.call "_law_held" (.cons (.cut (.var 0) (.yes (.con (.int 2))) (.yes (.con (.int 16)))) (.cons (.var 3) .nil))))
  C3)
noncomputable def C5:CB:=
  (.cons (.asg (.tup (.cons (.name 3) (.cons (.name 4) .nil))) (.call "_law_grown" (.cons (.cut (.var 0) (.yes (.con (.int 2))) (.yes (.con (.int 16)))) (.cons (.var 1) .nil))))
  C4)
noncomputable def C6:CB:=
  (.cons (.asg (.name 2) (.call "_law_names" (.cons (.call "_law_cell_at" (.cons (.var 0) (.cons (.con (.int 0)) .nil))) (.cons (.con (.int 15)) .nil))))
  C5)
noncomputable def C7:CB:=
  (.cons (.asg (.name 1) (.bin .Mod (.call "_law_draw" (.cons (.call "_law_cell_at" (.cons (.var 0) (.cons (.con (.int 1)) .nil))) (.cons (.con (.int 3)) .nil))) (.con (.int 11))))
  C6)
noncomputable def Ij:CB:=
  (.cons (.asgc 0 (.comp ["_law_cell"] [0] (.name 0) (.seq (.var 0)) .no (.bin .Add (.bin .Mult (.con (.int 2)) (.var 0)) (.bin .Mod (.bfn .sum (.cons (.cut (.var 1) .no (.yes (.con (.int 1)))) .nil)) (.con (.int 2))))))
  C7)
end K34
namespace K34
open PySem PySem.Spec PyProof.Rows L2 R Cp Lt Kc K21 K22 Lm M5 K32
mutual
theorem FY{K:af}{H H':Hp}(e1:∀a xs,SqL K H a xs->SqL K H' a xs)(e2:∀a xs,SqT K H a xs->SqT K H' a xs):∀{d:L2.D}{v:V},Rep K H d v->Rep K H' d v
 |.non,_,h=>h
 |.bl _,_,h=>h
 |.int _,_,h=>h
 |.str _,_,h=>h
 |.tup ds,_,h=>by
  obtain⟨a,xs,e,h1,h2⟩:=h;exact⟨a,xs,e,e2 _ _ h1,xq e1 e2 h2⟩
 |.lst ds,_,h=>by
  obtain⟨a,xs,e,h1,h2⟩:=h;exact⟨a,xs,e,e1 _ _ h1,xq e1 e2 h2⟩
theorem xq{K:af}{H H':Hp}(e1:∀a xs,SqL K H a xs->SqL K H' a xs)(e2:∀a xs,SqT K H a xs->SqT K H' a xs):∀{ds:List L2.D}{xs:List V},fg K H ds xs->fg K H' ds xs
 | [],_,h=>h
 |d::ds,_,h=>by
  obtain⟨x,r,e,h1,h2⟩:=h;exact⟨x,r,e,FY e1 e2 h1,xq e1 e2 h2⟩
end
theorem rep_gr{K:af}{T:Tb}{H H':Hp}{d:L2.D}{v:V}(g:Gr T H H')(t:Tab T H)(h:Rep K H d v):Rep K H' d v:=FY (fun _ _=>g.seq t) (fun _ _=>g.tup t) h
section
variable {rows:List (List Int)}{n:Nat}{os ms:List Int}
theorem Hh(t:M7.Tbl rows n)(pm:os.Perm ((aq n).map fun k:Nat=>(k:Int)))(ms:List Int):M8.Iso rows (rows.map (fc n os ms)) n (fc n os ms) (oo os) fun p=>os.idxOf (p:Int):=by
 obtain⟨d,all⟩:=Cj pm;refine M9.iso_lay t _ (fun j hj=>(d.at hj).2.2) (fun p hp=>(d.idx (all p hp)).1) (fun j hj=>?_) fun p hp=>?_
 ·rw[<-(d.at hj).2.1,d.xdi hj]
 ·have :=(d.idx (all p hp)).2
  unfold oo;rw[this];omega
theorem put_pt(t:M7.Tbl rows n)(h10:n<=10)(pm:os.Perm ((aq n).map fun k:Nat=>(k:Int)))(ms:List Int):Pt n os ms (M8.iZ (M8.nds rows n)) (M8.pV (M8.trs rows n))/\
  (M8.iZ ((M8.iZ (M8.nds rows n)).map (fc n os ms))=M8.iZ (M8.nds (rows.map (fc n os ms)) n)/\M8.pV ((M8.pV (M8.trs rows n)).map (mZ n os ms))=M8.pV (M8.trs (rows.map (fc n os ms)) n)):=by
 have I:=Hh t pm ms;obtain⟨d,all⟩:=Cj pm;have ndn:=M8.nU t;have ndt:=M8.rZ t;have p1:=M9.yX ndn;have p2:=M9.Fv ndt;have q1:=(p1.map (fc n os ms)).trans I.nodes;have q2:=(p2.map (mZ n os ms)).trans I.tris;have n1:((M8.iZ (M8.nds rows n)).map (fc n os ms)).Nodup:=q1.nodup_iff.mpr (M8.nU I.t2);have n2:(((M8.pV (M8.trs rows n)).map (mZ n os ms)).map M8.key).Nodup:=(q2.map M8.key).nodup_iff.mpr (M8.rZ I.t2);refine⟨⟨h10,d,all,?_,?_,fun v hv=>((M8.gN t).mp (p1.mem_iff.mp hv)).1.1,n1,fun x hx=>?_,n2⟩,M9.pW n1 q1,M9.vg n2 q2⟩
 ·have :=M9.Co rows n;rw[p1.length_eq];omega
 ·have :=M9.trs_len rows n;rw[p2.length_eq];omega
 ·obtain⟨p,hp,hz,rfl⟩:=(M8.oA t).mp (p2.mem_iff.mp hx)
  have oa:M6.Ok n (M7.hZ rows n p):=M7.wg t _;have ob:M6.Ok n (M7.below rows n p):=M7.wg t _;have ne:=M7.rO t hp;have olo:M6.Ok n (M4.lo (M7.hZ rows n p) (M7.below rows n p)):=by unfold M4.lo;split <;>assumption
  have ohi:M6.Ok n (M4.hi (M7.hZ rows n p) (M7.below rows n p)):=by unfold M4.hi;split <;>assumption
  refine⟨olo.1,ohi.1,fun e=>?_,(A4 n _).imp fun h=>by omega,fun x hx=>?_⟩
  ·have :=I.inj _ _ olo ohi e
   have tr:=_root_.Q.iT ne;unfold M4.lo M4.hi at this;cases c:_root_.Q.llt (M7.below rows n p) (M7.hZ rows n p)with
   |true=>
    rw[c]at tr;rw[if_pos c,if_neg (by rw[tr];decide)]at this;exact ne this.symm
   |false=>
    rw[c]at tr;rw[if_neg (by rw[c];decide),if_pos (show _=true from tr)]at this;exact ne this
  ·obtain⟨i,hi,_,rfl⟩:=M8.sX hx
   exact all i hi
end
structure G4(G:Gam)(K:af)(T:Tb):Prop where
 c0:G.fn "_law_cell_at" 2=some (w6 K,[])
 c1:G.fn "_law_draw" 2=some (jB,[])
 c2:G.fn "_law_names" 2=some (wR,[])
 c3:G.fn "_law_grown" 2=some (K34.wV K,[])
 c4:G.fn "_law_held" 2=some (AS K,[])
 c5:G.fn "_law_order" 3=some (Fy K,[])
 c6:G.fn "_law_laid" 3=some (sr K,[])
 c7:G.fn "_law_put" 3=some (AR K,[])
 c8:G.fn "tree" 1=some (K83.sk T,[])
structure Lw(T:Tb)(K:af)(H:Hp)(a nm t fd:Addr)(ns:List Int)(c:Int)(n:Nat)(ys:List V)(rows:List (List Int)):Prop where
 sq:SqL K H a (ns.map V.int)
 nm:H nm=some (.lst ((aq 15).map fun k=>V.str (K21.nm c k)))
 d:Tn H t (K21.nm c) n ys rows
 ne:ys≠[]
 l14:ys.length<=14
 fd:Rep K H (M9.trD rows n) (.ref fd)
 tb:Tab T H
section
variable {G:Gam}{K:af}{T:Tb}{E:XS}{D:Ends}{Q:VK}{H:Hp}{a nm t fd:Addr}{ns os ms:List Int}{c:Int}{n m:Nat}{ys:List V}{rows:List (List Int)}{x0 x1 x2 x3 x4 x5 x6 x7 x8 x9 x10 x11 x12 x13:Option V}
theorem Lw.gr{H':Hp}(w:Lw T K H a nm t fd ns c n ys rows)(g:Gr T H H'):Lw T K H' a nm t fd ns c n ys rows:=⟨g.seq w.tb w.sq,g.lst w.tb w.nm,w.d.gr g w.tb,w.ne,w.l14,rep_gr g w.tb w.fd,g.tab w.tb⟩
theorem Lw.same{H':Hp}(w:Lw T K H a nm t fd ns c n ys rows)(s:aS H H'):Lw T K H' a nm t fd ns c n ys rows:=w.gr (Gr.of s)
theorem wK{H:Hp}{l:Addr}{nf:Nat->Str}{vs:List V}{rows:List (List Int)}{E:XK}(d:Tn H l nf n vs rows)(tb:Tab T H)(ne:vs≠[])(q:∀H' p,Gr T H H'->Rep K H' (M9.trD rows n) (.ref p)->Q (.ref p) H'):K83.sk T [.ref l] H Q E:=
 Fg (E:=fun _=>E) d tb (fun H' p gr _ r=>q H' p gr (by rw[if_neg ne]at r;exact r)) []
theorem ne_d{v w:V}{dd:L2.D}{H:Hp}{Q:VK}(h1:Rep K H dd v)(h2:Rep K H dd w)(hh:hgt dd<=20)(q:Q (.bl false) H):iz K .NotEq v w H Q:=⟨dd,dd,h1,h2,by omega,by rw[o5];exact q⟩
theorem eq_d{v w:V}{dd:L2.D}{H:Hp}{Q:VK}(h1:Rep K H dd v)(h2:Rep K H dd w)(hh:hgt dd<=20)(q:Q (.bl true) H):iz K .Eq v w H Q:=⟨dd,dd,h1,h2,by omega,by rw[o5];exact q⟩
theorem C0(xs:List V)(h:xs.length=m+1):¬(HT.sIx xs.length 0 none=0/\HT.sIx xs.length xs.length (some (-1))=xs.length):=fun⟨_,e⟩=>by
 rw[h]at e;have :HT.sIx (m+1) (m+1) (some (-1))=m:=by
  show(if(-1:Int)<0 then(-1+((m+1:Nat):Int)).toNat else min (-1:Int).toNat (m+1))=m;rw[if_pos (by decide)];omega
 omega
theorem HW{z:List Int}(h:z.length=m+1):rh (z.map V.int) none (some (-1))=(z.take m).map V.int:=by
 unfold rh;rw[ai,h];have :HT.sIx (m+1) (m+1) (some (-1))=m:=by
  show(if(-1:Int)<0 then(-1+((m+1:Nat):Int)).toNat else min (-1:Int).toNat (m+1))=m;rw[if_pos (by decide)];omega
 rw[this];show((z.map V.int).drop 0).take (m-0)=_;rw[yH,EO,qr]
theorem lw_19{ls:Addr}(w:Lw T K H a nm t fd ns c (m+1) ys rows)(hl:Rep K H (M9.trD (rows.map (gp m)) m) (.ref ls))(hr:D.rt=Q)(q:∀H',Q (.bl true) H'):
  wpB G K E tT D [x0,x1,x2,x3,x4,x5,x6,some (.ref fd),x8,x9,x10,x11,x12,some (.ref ls)] H:=by
 have tb:=w.d.tbl w.ne;have fd0:=w.fd;have n10:=w.d.n10;unfold M9.trD at fd0 hl;obtain⟨_,_,e,hq,_,_,rfl,⟨nl,nys,rfl,hnl,rn⟩,_,_,rfl,_,rfl⟩:=fd0;cases e;obtain⟨_,_,e,hq2,_,_,rfl,⟨nl2,nys2,rfl,hnl2,rn2⟩,_,_,rfl,_,rfl⟩:=hl;cases e;obtain⟨nln,nat⟩:=rH rn;have ndn:=M8.nU tb;have pmn:=M9.yX ndn;have hlen:(M8.iZ (M8.nds rows (m+1))).length<=11:=by
  have :=M9.Co rows (m+1)
  rw[pmn.length_eq];omega
 have hvl:∀v∈M8.iZ (M8.nds rows (m+1)),v.length=m+1:=fun v hv=>((M8.gN tb).mp (pmn.mem_iff.mp hv)).1.1;unfold tT;walk_at "wp";refine .inr (.inl ⟨ls,_,0,_,rfl,rfl,hq2,cN (j:=0) rfl,?_⟩);simp only[pT];walk_at "wp";refine dA ?_;simp only[xQ];walk_at "wp";refine .inr (.inl ⟨fd,_,0,_,rfl,rfl,hq,cN (j:=0) rfl,.inl ⟨nl,rfl,⟨_,hnl⟩,?_⟩⟩);refine di eL (short (by omega)) (fun H2 s2=>s2.seq hnl) (fun i v H=>∃p,v=.ref p/\H p=some (.tup ((((M8.iZ (M8.nds rows (m+1))).getD i []).take m).map V.int))) (fun i v _ _ s h=>let⟨p,e,h⟩:=h;⟨p,e,s _ _ h⟩) (fun τ=>∃t,τ=[t]) ⟨none,rfl⟩ ?_ ?_
 ·rintro i x τ H3 R hi ⟨t',rfl⟩ s3 hx k
  obtain⟨v,hv,rv⟩:=nat i x hx;obtain⟨a',rfl,ha⟩:=sO (rv.same s3);have hl1:=hvl v (aG hv);walk_at "wp";refine .inr (.inl ⟨a',_,rfl,ha,C0 _ (by rw[ai];exact hl1),fun p hp=>k _ _ _ ⟨_,rfl⟩ (az hp) ⟨p,rfl,?_⟩⟩);rw[aw,getD_some hv,HW hl1]
 ·intro ws H2 l hwl hF s2 hl2
  have ik:_root_.Q.IntKeys H2 ws ((M8.iZ (M8.nds rows (m+1))).map (gp m)):=by
   refine Gb (by rw[hwl,ai];exact nln) fun j a b e1 e2=>?_;obtain⟨p,rfl,ep⟩:=hF j a e1;rw[ak]at e2;cases e3:(M8.iZ (M8.nds rows (m+1)))[j]? with
   |none=>rw[e3]at e2;cases e2
   |some v=>
    rw[e3]at e2;cases e2;rw[getD_some e3]at ep;exact⟨p,rfl,ep⟩
  have t1:=az (o:=.lst ws) hl2;have el:upd H2 l (.lst ws) l=_:=aw;generalize upd H2 l (.lst ws)=H3 at t1 el;refine⟨l,ws,_,m,rfl,SqL.of el,by rw[ai];omega,fun k hk=>?_,cR (Tk.of t1) ik,fun zs qs l2 ndq hqs ikz hl3=>?_⟩
  ·obtain⟨v,hv,rfl⟩:=ao.mp hk
   rw[bR,hvl v hv];omega
  have tb2:=M9.r9 tb;have eq:M8.iZ qs=M8.iZ (M8.nds (rows.map (gp m)) m):=by
   refine M9.pW ndq (K84.mD ndq (M8.nU tb2) fun x=>?_);rw[hqs,ao,M9.Bo tb];constructor
   ·rintro⟨v,hv,rfl⟩
    exact⟨v,pmn.mem_iff.mp hv,rfl⟩
   ·rintro⟨v,hv,rfl⟩
    exact⟨v,pmn.mem_iff.mpr hv,rfl⟩
  have t2:=az (o:=.lst (_root_.Q.cF .non qs zs)) hl3;have el2:upd H3 l2 (.lst (_root_.Q.cF .non qs zs)) l2=_:=aw;generalize upd H3 l2 (.lst (_root_.Q.cF .non qs zs))=H4 at t2 el2;have s4:=s2.trans (t1.trans t2);have hg:=M9.CK (M8.iZ (M8.nds (rows.map (gp m)) m)) [];refine eq_d (dd:=.lst ((M8.iZ (M8.nds (rows.map (gp m)) m)).map K83.nd1)) ⟨nl2,_,rfl,s4.seq hnl2,fg.same s4 rn2⟩ ⟨l2,_,rfl,SqL.of el2,?_⟩ ?_ ?_
  ·rw[<-eq]
   exact K83.oG (fun v a ⟨x,e,h⟩=>by subst e;exact K83.lg h) (K83.mB (d:=([]:List Int)) ndq (fJ ikz) (cR (Tk.of t2) ikz))
  ·have :hgt (.lst ((M8.iZ (M8.nds (rows.map (gp m)) m)).map K83.nd1))<=gv [.lst ((M8.iZ (M8.nds (rows.map (gp m)) m)).map K83.nd1),.lst (([]:List M8.Tri).map M8.qW)]:=Nat.le_max_left _ _
   have h2:gv [.lst ((M8.iZ (M8.nds (rows.map (gp m)) m)).map K83.nd1),.lst (([]:List M8.Tri).map M8.qW)]+1<=20:=hg;omega
  ·rw[hr]
   exact q _
theorem lw_18(g:G4 G K T)(w:Lw T K H a nm t fd ns c (m+1) ys rows)(hr:D.rt=Q)(q:∀H',Q (.bl true) H'):
  wpB G K E tU D [x0,x1,x2,x3,x4,x5,some (.ref t),some (.ref fd),x8,x9,x10,x11,x12,x13] H:=by
 have tb:=w.d.tbl w.ne;have tb2:=M9.r9 tb;have n10:=w.d.n10;have l14:=w.l14;unfold tU;walk_at "wp";refine⟨_,_,g.c8,?_⟩;refine dA (dB rfl (SqL.of w.d.et) ?_);refine di eL (short (by omega)) (fun H2 s2=>SqL.of (s2 _ _ w.d.et)) (fun i v H=>∃b r,v=.ref b/\H b=some (.tup [.str (K21.nm c i),.ref r])/\H r=some (.tup (((rows.getD i []).take m).map V.int))) (fun i v _ _ s h=>let⟨b,r,e,h1,h2⟩:=h;⟨b,r,e,s _ _ h1,s _ _ h2⟩) (fun τ=>∃t u,τ=[t,u]) ⟨none,none,rfl⟩ ?_ ?_
 ·rintro i x τ H3 R hi ⟨t',u',rfl⟩ s3 hx k
  obtain⟨b,r,rfl,e1,e2⟩:=(w.d.same s3).row i x hx;have hl1:=(w.d.rd _ (w.d.get (aF.mp hx).1)).1;walk_at "wp";refine⟨b,_,rfl,SqT.of e1,rfl,_,_,rfl,_,_,rfl,rfl,?_⟩;refine .inr (.inl ⟨r,_,rfl,SqT.of e2,C0 _ (by rw[ai];exact hl1),fun p hp=>⟨short (by simp),fun tp htp=>k _ _ _ ⟨_,_,rfl⟩ ((az hp).trans (az htp)) ⟨tp,p,rfl,aw,?_⟩⟩⟩);rw[az htp _ _ aw,HW hl1]
 ·intro vs H2 l hvl hF s2 hl2
  have s3:=s2.trans (az (o:=.lst vs) hl2);have el:upd H2 l (.lst vs) l=_:=aw;have t2:=az (o:=.lst vs) hl2;generalize upd H2 l (.lst vs)=H3 at s3 el t2;have d3:Tn H3 l (K21.nm c) m vs (rows.map (gp m)):=w.d.of el hvl (fun i v e=>let⟨b,r,e,h1,h2⟩:=hF i v e;⟨b,r,e,t2 _ _ h1,t2 _ _ h2⟩) (by omega) tb2.ok tb2.mis;have w3:=w.same s3;refine wK (K:=K) d3 w3.tb (fun z=>w.ne (aX.mp (by rw[<-hvl,z];rfl))) fun H4 p gr r4=>?_;exact lw_19 (w3.gr gr) r4 hr q
theorem lw_17(g:G4 G K T)(w:Lw T K H a nm t fd ns c n ys rows)(hr:D.rt=Q)(q:∀H',Q (.bl true) H'):
  wpB G K E tV D [x0,some (.int n),x2,x3,x4,x5,some (.ref t),some (.ref fd),x8,x9,x10,x11,x12,x13] H:=by
 unfold tV;walk_at "wp";cases n with
 |zero=>
  rw[if_pos (by decide),hr];exact q _
 |succ m=>
  rw[if_neg (by rw[decide_eq_false (by omega)];decide)];exact lw_18 g w hr q
theorem lw_16(g:G4 G K T){o s ot:Addr}{vs:List V}(w:Lw T K H a nm t fd ns c n ys rows)(pm:os.Perm ((aq n).map fun k:Nat=>(k:Int)))(eo:H o=some (.lst (os.map V.int)))(es:H s=some (.lst (ms.map V.int)))(d2:Tn H ot (K21.nm c) n vs (rows.map (fc n os ms)))(ne:vs≠[])(hr:D.rt=Q)(q:∀H',Q (.bl true) H'):
  wpB G K E tW D [x0,some (.int n),x2,x3,x4,x5,some (.ref t),some (.ref fd),x8,x9,some (.ref o),some (.ref s),some (.ref ot),x13] H:=by
 obtain⟨P,e1,e2⟩:=put_pt (w.d.tbl w.ne) w.d.n10 pm ms;unfold tW;walk_at "wp";refine⟨_,_,g.c8,wK (K:=K) d2 w.tb ne fun H1 p gr r1=>?_⟩;have w1:=w.gr gr;refine⟨_,_,g.c7,fd,o,s,os,ms,n,_,_,rfl,w1.fd,gr.lst w.tb eo,SqL.of (gr.lst w.tb es),P,fun H2 p2 s2 r2=>?_⟩;rw[e1,e2]at r2;refine ne_d (r1.same s2) r2 (M9.CK _ _) ⟨_,rfl,?_⟩;rw[if_neg (by decide)];exact lw_17 g (w1.same s2) hr q
theorem lw_15(g:G4 G K T){o s:Addr}(w:Lw T K H a nm t fd ns c n ys rows)(pm:os.Perm ((aq n).map fun k:Nat=>(k:Int)))(eo:H o=some (.lst (os.map V.int)))(es:H s=some (.lst (ms.map V.int)))(hr:D.rt=Q)(q:∀H',Q (.bl true) H'):
  wpB G K E tX D [x0,some (.int n),x2,x3,x4,x5,some (.ref t),some (.ref fd),x8,x9,some (.ref o),some (.ref s),x12,x13] H:=by
 have I:=Hh (w.d.tbl w.ne) pm ms;obtain⟨od,_⟩:=Cj pm;have l14:=w.l14;unfold tX;walk_at "wp";refine dA (dB rfl (SqL.of w.d.et) ?_);refine di eL (short (by omega)) (fun H2 s2=>SqL.of (s2 _ _ w.d.et)) (fun i v H=>∃b r,v=.ref b/\H b=some (.tup [.str (K21.nm c i),.ref r])/\H r=some (.tup ((fc n os ms (rows.getD i [])).map V.int))) (fun i v _ _ s h=>let⟨b,r,e,h1,h2⟩:=h;⟨b,r,e,s _ _ h1,s _ _ h2⟩) (fun τ=>∃t u,τ=[t,u,some (.ref o),some (.ref s)]) ⟨none,none,rfl⟩ ?_ ?_
 ·rintro i x τ H3 R hi ⟨t',u',rfl⟩ s3 hx k
  obtain⟨b,r,rfl,e1,e2⟩:=(w.d.same s3).row i x hx;have hl1:=(w.d.rd _ (w.d.get (aF.mp hx).1)).1;walk_at "wp";refine⟨b,_,rfl,SqT.of e1,rfl,_,_,rfl,_,_,rfl,rfl,?_⟩;refine⟨_,_,g.c6,r,o,s,rows.getD i [],os,ms,n,rfl,SqT.of e2,SqL.of (s3 _ _ eo),SqL.of (s3 _ _ es),hl1,w.d.n10,od.ln,od.bd,fun H4 p s4 fp ep=>⟨short (by simp),fun tp htp=>k _ _ _ ⟨_,_,rfl⟩ (s4.trans (az htp)) ⟨tp,p,rfl,aw,az htp _ _ ep⟩⟩⟩
 ·intro vs H2 l hvl hF s2 hl2
  have s3:=s2.trans (az (o:=.lst vs) hl2);have el:upd H2 l (.lst vs) l=_:=aw;have t2:=az (o:=.lst vs) hl2;generalize upd H2 l (.lst vs)=H3 at s3 el t2;have d3:Tn H3 l (K21.nm c) n vs (rows.map (fc n os ms)):=w.d.of el hvl (fun i v e=>let⟨b,r,e,h1,h2⟩:=hF i v e;⟨b,r,e,t2 _ _ h1,t2 _ _ h2⟩) w.d.n10 I.t2.ok I.t2.mis;exact lw_16 g (w.same s3) pm (s3 _ _ eo) (s3 _ _ es) d3 (fun z=>w.ne (aX.mp (by rw[<-hvl,z];rfl))) hr q
theorem lw_13(g:G4 G K T){dh:Int}(w:Lw T K H a nm t fd ns c n ys rows)(hr:D.rt=Q)(q:∀H',Q (.bl true) H'):
  wpB G K E tY D [some (.ref a),some (.int n),x2,x3,x4,x5,some (.ref t),some (.ref fd),x8,some (.int dh),x10,x11,x12,x13] H:=by
 have n10:=w.d.n10;unfold tY;walk_at "wp";obtain⟨cs,ec⟩:=o7 ns (some 5) none;refine⟨_,_,g.c5,.inl ⟨a,_,rfl,w.sq,fun p hp=>?_⟩⟩;rw[ec];have s1:=az (o:=.lst (cs.map V.int)) hp;have ep:upd H p (.lst (cs.map V.int)) p=_:=aw;generalize upd H p (.lst (cs.map V.int))=H1 at s1 ep;refine⟨p,cs,n,124,rfl,SqL.of ep,by omega,by decide,fun H2 o os s2 fo eo pm=>?_⟩;have w2:=w.same (s1.trans s2);unfold z6;walk_at "wp";refine dA ?_;walk_at "wp";refine⟨(n:Int),rfl,by omega,by omega,?_⟩;rw[aP];have ok:∀k:Nat,k<n->EC (dh/100) ((1:Int)*2^k):=fun k hk=>by
  have :k=0\/k=1\/k=2\/k=3\/k=4\/k=5\/k=6\/k=7\/k=8\/k=9:=by omega
  rcases this with rfl|rfl|rfl|rfl|rfl|rfl|rfl|rfl|rfl|rfl<;>exact⟨by decide,by decide⟩
 refine vP za (short (by simp[nats];omega)) (fun _ _=>trivial) (fun x=>match x with |.int k=>decide (dh/100/(1*2^k.toNat)%2=1) |_=>false) id (fun τ=>∃x,τ=[x,some (.int dh)]) ⟨none,rfl⟩ ?_ ?_
 ·rintro x τ H3 Rt Rf hx ⟨y,rfl⟩ s3 kt kf
  obtain⟨k,hk,rfl⟩:=ao.mp hx;have hk':k<n:=aK.mp hk;walk_at "wp";refine⟨⟨by decide,by decide⟩,?_⟩;rw[FH];refine⟨⟨by omega,by omega,by decide⟩,?_⟩;walk_at "wp";refine⟨by rw[aP];exact ok k hk',by decide,?_⟩;cases hb:decide (dh/100/(1*2^((k:Int)).toNat)%2=1)with
  |true=>rw[if_pos rfl];exact kt _ _ ⟨_,rfl⟩ (aS.refl _) hb
  |false=>rw[if_neg aD];exact kf _ _ ⟨_,rfl⟩ (aS.refl _) hb
 ·intro H3 sm s3 hsm
  rw[vz (n:=n) (P:=fun p=>decide (dh/100/(1*2^p)%2=1)) (fun p _=>by simp only[aP])];generalize plc n (fun p=>decide (dh/100/(1*2^p)%2=1))=ms;have s4:=s3.trans (az (o:=.lst (ms.map V.int)) hsm);exact lw_15 g (w2.same s4) pm (s4 _ _ eo) aw hr q
theorem lw_11(g:G4 G K T)(w:Lw T K H a nm t fd ns c n ys rows)(hr:D.rt=Q)(q:∀H',Q (.bl true) H'):
  wpB G K E tZ D [some (.ref a),some (.int n),some (.ref nm),x3,x4,x5,some (.ref t),some (.ref fd),x8,x9,x10,x11,x12,x13] H:=by
 have tb:=w.d.tbl w.ne;have l14:=w.l14;have hyl:0<ys.length:=eK.mpr w.ne;unfold tZ;walk_at "wp";refine⟨_,_,g.c1,_,_,g.c0,a,ns,1,rfl,w.sq,_,9,rfl,by decide,by decide,?_⟩;generalize K21.draw (ns.getD 1 0) 9=dh;unfold z7;walk_at "wp";refine⟨_,_,g.c8,.inl ⟨nm,_,14,_,rfl,rfl,SqL.of w.nm,cN (j:=14) rfl,?_⟩⟩;refine Or.inl ⟨t,ys,rfl,.inl (SqL.of w.d.et),?_⟩;walk_at "wp";have i0:0<=dh%(ys.length:Int):=bG _ (by omega);have i1:dh%(ys.length:Int)<ys.length:=bV _ (by omega);obtain⟨z,hz⟩:=dD i0;rw[hz];have hzl:z<ys.length:=by omega
 have hy:=ae hzl;obtain⟨b,r,ey,e1,e2⟩:=w.d.row z _ hy;rw[ey]at hy;refine⟨by omega,.inl ⟨t,_,z,_,rfl,rfl,SqL.of w.d.et,cN hy,.inr (.inl ⟨b,_,1,_,rfl,rfl,SqT.of e1,cN (j:=1) rfl,short (by simp),fun tp htp=>?_⟩)⟩⟩;have s1:=az (o:=.tup [.str (K21.nm c 14),.ref r]) htp;have etp:upd H tp (.tup [.str (K21.nm c 14),.ref r]) tp=_:=aw;generalize upd H tp (.tup [.str (K21.nm c 14),.ref r])=H1 at s1 etp;refine⟨short (by simp),fun l hl=>?_⟩;have s2:=az (o:=.lst [.ref tp]) hl;have el:upd H1 l (.lst [.ref tp]) l=_:=aw;generalize upd H1 l (.lst [.ref tp])=H2 at s2 el;refine .inr (.inr (.inl ⟨l,t,_,_,rfl,rfl,el,s2 _ _ (s1 _ _ w.d.et),short (by simp;omega),fun l3 hl3=>?_⟩));have s3:=az (o:=.lst ([.ref tp]++ys)) hl3;have el3:upd H2 l3 (.lst ([.ref tp]++ys)) l3=_:=aw;generalize upd H2 l3 (.lst ([.ref tp]++ys))=H3 at s3 el3;have s13:=s1.trans (s2.trans s3);have w3:=w.same s13;have hrz:=w.d.get hzl;have mem:∀x,x∈rows.getD z []::rows↔x∈rows:=fun x=>⟨fun h=>(aB.mp h).elim (fun e=>e▸hrz) id,aH _⟩;have d3:Tn H3 l3 (fun i=>K21.nm c (if i=0 then 14 else i-1)) n ([.ref tp]++ys) (rows.getD z []::rows):=by
  refine⟨el3,by simp[w.d.ln],fun i y e=>?_,fun i=>K21.GL c _,fun i j hi hj e=>?_,by simp;omega,w.d.n10,fun x hx=>w.d.rd x ((mem x).mp hx),fun i j h1 h2=>(w.d.mis i j h1 h2).sub fun x hx=>(mem x).mp hx⟩
  ·cases i with
   |zero=>
    cases e;exact⟨tp,r,rfl,(s2.trans s3) _ _ etp,s13 _ _ e2⟩
   |succ i=>
    obtain⟨b',r',h1,h2,h3⟩:=w3.d.row i y e;exact⟨b',r',h1,h2,h3⟩
  ·have hi:i<ys.length+1:=by simpa using hi
   have hj:j<ys.length+1:=by simpa using hj
   have :=K21.Bh (by split <;>omega) (by split <;>omega) e
   split at this<;>split at this<;>omega
 refine wK (K:=K) d3 w3.tb (by simp) fun H4 p gr r4=>?_;have t3:=d3.tbl (by simp);rw[M9.r6 t3 tb mem]at r4;have w4:=w3.gr gr;refine ne_d r4 w4.fd (M9.CK _ _) ⟨_,rfl,?_⟩;rw[if_neg (by decide)];exact lw_13 g w4 hr q
theorem lw_9(g:G4 G K T)(w:Lw T K H a nm t fd ns c n ys rows)(hr:D.rt=Q)(q:∀H',Q (.bl true) H'):
  wpB G K E yf D [some (.ref a),some (.int n),some (.ref nm),x3,x4,x5,some (.ref t),some (.ref fd),x8,x9,x10,x11,x12,x13] H:=by
 have tb:=w.d.tbl w.ne;have l14:=w.l14;unfold yf;walk_at "wp";obtain⟨cs,ec⟩:=o7 ns (some 4) none;refine⟨_,_,g.c5,.inl ⟨a,_,rfl,w.sq,fun p hp=>?_⟩⟩;rw[ec];have s1:=az (o:=.lst (cs.map V.int)) hp;have ep:upd H p (.lst (cs.map V.int)) p=_:=aw;generalize upd H p (.lst (cs.map V.int))=H1 at s1 ep;refine .inl ⟨t,ys,rfl,.inl (SqL.of (s1 _ _ w.d.et)),?_⟩;refine⟨p,cs,ys.length,100,rfl,SqL.of ep,by omega,by decide,fun H2 o os s2 fo eo pm=>?_⟩;obtain⟨od,all⟩:=Cj pm;have w2:=w.same (s1.trans s2);unfold z8;walk_at "wp";refine⟨_,_,g.c8,?_⟩;refine dA (dB rfl (SqL.of eo) ?_);refine di eL (short (by rw[ai,od.ln];omega)) (fun H3 s3=>SqL.of (s3 _ _ eo)) (fun i v _=>ys[oo os i]? =some v) (fun _ _ _ _ _ h=>h) (fun τ=>∃t',τ=[t',some (.ref t)]) ⟨none,rfl⟩ ?_ ?_
 ·rintro i x τ H3 R hi ⟨t',rfl⟩ s3 hx k
  rw[ai]at hi;rw[fV hi]at hx;cases hx;obtain⟨_,e1,e2⟩:=od.at (by rw[<-od.ln];exact hi);rw[e1];walk_at "wp";exact .inl ⟨t,_,oo os i,_,rfl,rfl,SqL.of (s3 _ _ w2.d.et),cN (ae e2),k _ _ _ ⟨_,rfl⟩ (aS.refl _) (ae e2)⟩
 ·intro vs H3 l hvl hF s3 hl3
  rw[ai,od.ln]at hvl;have s4:=s3.trans (az (o:=.lst vs) hl3);have el:upd H3 l (.lst vs) l=_:=aw;generalize upd H3 l (.lst vs)=H4 at s4 el;have w4:=w2.same s4;have gl:∀i,i<ys.length->((aq ys.length).map fun i=>rows.getD (oo os i) []).getD i []=rows.getD (oo os i) []:=fun i hi=>by
   rw[ag,ak,a6 hi];rfl
  have mem:∀x,x∈(aq ys.length).map (fun i=>rows.getD (oo os i) [])↔x∈rows:=fun x=>by
   constructor
   ·intro h
    obtain⟨i,hi,rfl⟩:=ao.mp h;exact w.d.get (od.at (aK.mp hi)).2.2
   ·intro h
    obtain⟨k,hk,rfl⟩:=dz.mp h;have hk':k<ys.length:=by rw[<-w.d.ln];exact hk
    obtain⟨h1,h2⟩:=od.idx (all k hk');refine ao.mpr ⟨os.idxOf (k:Int),aK.mpr h1,?_⟩;have :oo os (os.idxOf (k:Int))=k:=by unfold oo;rw[h2];omega
    rw[this,ag,ae hk];rfl
  have d4:Tn H4 l (fun i=>K21.nm c (oo os i)) n vs ((aq ys.length).map fun i=>rows.getD (oo os i) []):=by
   refine⟨el,by simp[hvl],fun i y e=>?_,fun i=>K21.GL c _,fun i j hi hj e=>?_,by omega,w.d.n10,fun x hx=>w.d.rd x ((mem x).mp hx),fun i j h1 h2=>(w.d.mis i j h1 h2).sub fun x hx=>(mem x).mp hx⟩
   ·have hi:i<ys.length:=by rw[<-hvl];exact(aF.mp e).1
    rw[gl i hi];exact w4.d.row _ y (hF i y e)
   ·have hi':i<ys.length:=by omega
    have hj':j<ys.length:=by omega
    obtain⟨_,a1,a2⟩:=od.at hi';obtain⟨_,b1,b2⟩:=od.at hj';have :=K21.Bh (by omega) (by omega) e;rw[<-od.xdi hi',<-od.xdi hj',a1,b1,this]
  have nv:vs≠[]:=fun z=>w.ne (aX.mp (by rw[<-hvl,z];rfl));refine wK (K:=K) d4 w4.tb nv fun H5 p gr r5=>?_;rw[M9.r6 (d4.tbl nv) tb mem]at r5;have w5:=w4.gr gr;refine ne_d r5 w5.fd (M9.CK _ _) ⟨_,rfl,?_⟩;rw[if_neg (by decide)];exact lw_11 g w5 hr q
theorem lw_7(g:G4 G K T)(sq:SqL K H a (ns.map V.int))(hnm:H nm=some (.lst ((aq 15).map fun k=>V.str (K21.nm c k))))(d:Tn H t (K21.nm c) n ys rows)(l14:ys.length<=14)(tb:Tab T H)(hr:D.rt=Q)(q:∀H',Q (.bl true) H'):
  wpB G K E yg D [some (.ref a),some (.int n),some (.ref nm),x3,x4,x5,some (.ref t),x7,x8,x9,x10,x11,x12,x13] H:=by
 unfold yg;walk_at "wp";refine⟨_,_,g.c8,Fg (E:=E) (K:=K) d tb (fun H1 p gr ⟨ps,ep⟩ r1=>?_) _⟩;have sq:=gr.seq tb sq;have hnm:=gr.lst tb hnm;have d:=d.gr gr tb;have tb:=gr.tab tb;unfold C2;walk_at "wp";refine .inl ⟨_,_,_,true,rfl,.tup ep,G9 K "tuple" .tuple (by decide),⟨_,rfl,?_⟩⟩;rw[if_neg (by decide)];refine⟨short (by simp),fun p0 hp0=>?_⟩;have s1:=az (o:=.lst []) hp0;have e0:upd H1 p0 (.lst []) p0=_:=aw;generalize upd H1 p0 (.lst [])=H2 at s1 e0;have d2:=d.same s1;obtain⟨ds,r2,r3⟩:=qz (K:=K) ys d2.tab.2.2.1;refine⟨.lst ds,.lst [],⟨t,ys,rfl,SqL.of d2.et,r2⟩,⟨p0,[],rfl,SqL.of e0,rfl⟩,by show gv ds+1<=30;omega,_,rfl,?_⟩;by_cases hy:ys=[]
 ·subst hy
  have hd:ds=[]:=by
   cases ds with
   |nil=>rfl
   |cons d ds=>obtain⟨_,_,e,_⟩:=r2;cases e
  rw[hd,o5,if_pos rfl];rw[if_pos rfl]at r1;refine⟨short (by simp),fun l1 h1=>⟨short (by simp),fun l2 h2=>⟨short (by simp),fun l3 h3=>?_⟩⟩⟩;have t1:=az (o:=.lst []) h1;have t2:=az (o:=.lst []) h2;have t3:=az (o:=.tup [.ref l1,.ref l2]) h3;refine eq_d (r1.same (s1.trans (t1.trans (t2.trans t3)))) ⟨l3,_,rfl,SqT.of aw,_,_,rfl,⟨l1,[],rfl,SqL.of ((t2.trans t3) _ _ aw),rfl⟩,_,_,rfl,⟨l2,[],rfl,SqL.of (t3 _ _ aw),rfl⟩,rfl⟩ (by decide) ?_;rw[hr];exact q _
 ·have hd:eqD (.lst ds) (.lst [])=false:=by
   cases ds with
   |nil=>exact absurd (show ys=[]from r2) hy
   |cons d ds=>simp[eqD,lr]
  rw[hd,if_neg aD];rw[if_neg hy]at r1;exact lw_9 g ⟨s1.seq sq,s1 _ _ hnm,d2,hy,l14,r1.same s1,(Gr.of s1).tab tb⟩ hr q
noncomputable def Fz(K:af)(T:Tb):Sp:=fun vs H Q _=>∃(a:Addr)(ns:List Int),vs=[.ref a]/\SqL K H a (ns.map V.int)/\ns.length<=63/\Tab T H/\∀H',Q (.bl true) H'
theorem wp_law(g:G4 G K T):Sat G K (Fz K T) Ij GQ:=by
 rintro vs H Q E ⟨a,ns,rfl,hs,hn63,tb0,q⟩;unfold Ij;change wpB G K _ _ _ [some (.ref a),none,none,none,none,none,none,none,none,none,none,none,none,none] H;walk_at "wp";refine dA (dB rfl hs (di eL (by rw[ai];exact ba hn63 (by decide)) (fun H1 s1=>s1.seq hs) (fun i v _=>∃m:Int,v=.int m) (fun _ _ _ _ _ h=>h) (fun τ=>∃t,τ=[t,some (.ref a)]) ⟨none,rfl⟩ ?_ ?_))
 ·rintro i y τ H3 R hi ⟨t,rfl⟩ s3 hy k
  obtain⟨m,hm⟩:∃m:Int,y=.int m:=by
   obtain⟨m,_,rfl⟩:=ao.mp (aG hy);exact⟨m,rfl⟩
  subst hm;walk_at "wp";refine⟨qJ (by decide) (by decide),.inl ⟨a,_,rfl,s3.seq hs,fun l hl=>?_⟩⟩;obtain⟨ms,em⟩:=o7 ns none (some 1);refine⟨l,ms,rfl,by rw[<-em];exact SqL.of aw,?_⟩;walk_at "wp";exact⟨by decide,k _ _ _ ⟨_,rfl⟩ (az hl) ⟨_,rfl⟩⟩
 intro vs H1 b hvl hF s1 hb;obtain⟨ns',rfl⟩:=K21.oS hF;have s2:aS H (upd H1 b (.lst (ns'.map V.int))):=s1.trans (az hb);have eb:upd H1 b (.lst (ns'.map V.int)) b=some (.lst (ns'.map V.int)):=aw;generalize upd H1 b (.lst (ns'.map V.int))=H2 at s2 eb⊢;have tb2:=(Gr.of (T:=T) s2).tab tb0;unfold C7;walk_at "wp";refine⟨_,_,g.c1,_,_,g.c0,b,ns',1,rfl,SqL.of eb,_,3,rfl,by decide,by decide,?_⟩;walk_at "wp";have h0:0<=K21.draw (ns'.getD 1 0) 3%11:=bG _ (by decide);have h1:K21.draw (ns'.getD 1 0) 3%11<11:=bV _ (by decide);obtain⟨n,hn⟩:=dD h0;rw[hn];have n10:n<=10:=by omega
 refine⟨by decide,?_⟩;unfold C6;walk_at "wp";refine⟨_,_,g.c2,_,_,g.c0,b,ns',0,rfl,SqL.of eb,_,15,rfl,by decide,fun H3 l s3 hl el=>?_⟩;generalize ns'.getD 0 0=c at el;obtain⟨ms,em⟩:=o7 ns' (some 2) (some 16);have hml:ms.length<=14:=by
  have :=Em (ns'.map V.int)
  rw[em,ai]at this;exact this
 unfold C5;walk_at "wp";refine⟨_,_,g.c3,.inl ⟨b,_,rfl,SqL.of (s3 _ _ eb),fun p hp=>?_⟩⟩;rw[em];have s4:=az (o:=.lst (ms.map V.int)) hp;have ep:upd H3 p (.lst (ms.map V.int)) p=_:=aw;generalize upd H3 p (.lst (ms.map V.int))=H4 at s4 ep;refine⟨p,ms,n,rfl,SqL.of ep,hml,n10,fun H5 pr nd lk ys s5 epr fnd end5 hy0 hyl vs5 ik gt=>?_⟩;refine⟨pr,_,rfl,SqT.of epr,rfl,_,_,rfl,_,_,rfl,rfl,?_⟩;have s35:=s3.trans (s4.trans s5);unfold C4;walk_at "wp";refine⟨_,_,g.c4,.inl ⟨b,_,rfl,SqL.of (s35 _ _ eb),fun p2 hp2=>?_⟩⟩;rw[em];have s6:=az (o:=.lst (ms.map V.int)) hp2;have ep2:upd H5 p2 (.lst (ms.map V.int)) p2=_:=aw;generalize upd H5 p2 (.lst (ms.map V.int))=H6 at s6 ep2;refine⟨p2,nd,ms,ys,rfl,SqL.of ep2,SqL.of (s6 _ _ end5),hml,hy0,fun H7 l2 hs2 s7 hl2 el2 hhl hh=>?_⟩;have s57:=s6.trans s7;have end7:=s57 _ _ end5;have ik7:=cR (Tk.of s57) ik;have s47:=s4.trans (s5.trans s57);have el7:=s47 _ _ el;have yl:vs5.length=ys.length:=fJ ik;have iat:∀z,z<ys.length->∃r,ys[z]? =some (.ref r)/\H7 r=some (.tup ((vs5.getD z []).map V.int)):=fun z hz=>by
  obtain⟨k,e,r,h1,h2⟩:=K83.pr_at ik7 (ae hz);refine⟨r,by rw[ae hz,h1],?_⟩;rw[getD_some e];exact h2
 unfold C3;walk_at "wp";refine dA ?_;walk_at "wp";refine Or.inl ⟨l2,_,rfl,.inl (SqL.of el2),_,rfl,by rw[ai];omega,by rw[ai];omega,?_⟩;refine di dP (short (by simp;omega)) (fun _ _=>trivial) (fun k v H'=>∃b r,v=.ref b/\H' b=some (.tup [.str (K21.nm c k),.ref r])/\H' r=some (.tup ((vs5.getD (hs2.getD k 0).toNat []).map V.int)))
  (fun k v H8 H9 s ⟨b,r,h1,h2,h3⟩=>⟨b,r,h1,s _ _ h2,s _ _ h3⟩) (fun τ=>∃t,τ=[t,some (.ref l),some (.ref nd),some (.ref l2)]) ⟨none,rfl⟩ ?_ ?_
 ·rintro k x τ H8 R hk ⟨t,rfl⟩ s8 rfl kk
  walk_at "wp"
  simp only[d7];have hk':k<hs2.length:=by simpa using hk
  have hb':((aq 15).map fun k=>V.str (K21.nm c k))[k]? =some (.str (K21.nm c k)):=by
   rw[ak,a6 (by omega)];rfl
  have hgd:hs2.getD k 0∈hs2:=by rw[ag,ae hk'];exact bu hk'
  obtain⟨i0,i1⟩:=hh _ hgd;obtain⟨z,hz⟩:=dD i0;have hzl:z<ys.length:=by omega
  obtain⟨r,e1,e2⟩:=iat z hzl;refine .inl ⟨l,_,k,_,rfl,rfl,SqL.of (s8 _ _ el7),cN hb',?_⟩;refine .inl ⟨l2,_,k,_,rfl,rfl,SqL.of (s8 _ _ el2),cN (fV hk'),?_⟩;rw[hz];refine .inl ⟨nd,_,z,_,rfl,rfl,SqL.of (s8 _ _ end7),cN e1,short (by simp),fun tp htp=>?_⟩;refine kk _ _ _ ⟨_,rfl⟩ (az htp) ⟨tp,r,rfl,aw,?_⟩;rw[hz,aP];exact az htp _ _ (s8 _ _ e2)
 ·intro vs H8 t hvl hF s8 ht
  have hvl':vs.length=hs2.length:=by simpa using hvl
  have s9:=az (o:=.lst vs) ht;have et:upd H8 t (.lst vs) t=_:=aw;generalize upd H8 t (.lst vs)=H9 at s9 et;have s79:=s8.trans s9;have gm:∀k,k<hs2.length->vs5.getD (hs2.getD k 0).toNat []∈vs5:=fun k hk=>by
   have hgd:hs2.getD k 0∈hs2:=by rw[ag,ae hk];exact bu hk
   obtain⟨i0,i1⟩:=hh _ hgd;have :(hs2.getD k 0).toNat<vs5.length:=by omega
   rw[ag,ae this];exact bu this
  have sub:∀x∈(aq hs2.length).map (fun k=>vs5.getD (hs2.getD k 0).toNat []),x∈vs5:=fun x hx=>by
   obtain⟨k,hk,rfl⟩:=ao.mp hx;exact gm k (aK.mp hk)
  have d9:Tn H9 t (K21.nm c) n vs ((aq hs2.length).map fun k=>vs5.getD (hs2.getD k 0).toNat []):=by
   refine⟨et,by simp[hvl'],fun i y e=>?_,K21.GL c,fun i j hi hj e=>K21.Bh (by omega) (by omega) e,by omega,n10,fun x hx=>gt.ok x (sub x hx),fun i j h1 h2=>(gt.mis i j h1 h2).sub sub⟩;obtain⟨b',r,h1,h2,h3⟩:=hF i y e;refine⟨b',r,h1,s9 _ _ h2,?_⟩;have hi:i<hs2.length:=by rw[<-hvl'];exact(aF.mp e).1
   rw[s9 _ _ h3,ag (l:=(aq hs2.length).map _),ak,a6 hi];rfl
  exact lw_7 g (SqL.of ((s35.trans (s57.trans s79)) _ _ eb)) (s79 _ _ el7) d9 (by omega) ((Gr.of (T:=T) (s35.trans (s57.trans s79))).tab tb2) rfl q
end
end K34
set_option maxHeartbeats 0
namespace K34
open PySem PySem.Spec PySem.Calls PyProof.Rows L2 R Cp Lt Lm
noncomputable def zI(P:PySem.Params):af:=
 (nat_lit 2,⟨.none,none,(.dict #[] 0),#[]⟩)::
 (nat_lit 3,⟨.type "dict",none,(.dict #[⟨aA P "__name__",.str "__name__" 165,.str "law_copykin_k34_whole_any_order" 392⟩,⟨aA P "__doc__",.str "__doc__" 166,.none⟩,⟨aA P "__package__",.str "__package__" 167,.none⟩,⟨aA P "__loader__",.str "__loader__" 168,.builtin "__main__.__loader__#opaque"⟩,⟨aA P "__spec__",.str "__spec__" 169,.none⟩,⟨aA P "__annotations__",.str "__annotations__" 170,.ref 6⟩,⟨aA P "__builtins__",.str "__builtins__" 171,.ref 4⟩,⟨aA P "__file__",.str "__file__" 173,.str "/claim/cut.py" 172⟩,⟨aA P "__cached__",.str "__cached__" 174,.none⟩,⟨aA P "KinError",.str "KinError" 206,.ref 24⟩,⟨aA P "Clash",.str "Clash" 235,.ref 44⟩,⟨aA P "NoTable",.str "NoTable" 251,.ref 56⟩,⟨aA P "LETTERS",.str "LETTERS" 255,.str "abcdefghijklmnopqrstuvwxyz" 254⟩,⟨aA P "LONGEST_NAME",.str "LONGEST_NAME" 257,.int 8 256⟩,⟨aA P "MOST_PLACES",.str "MOST_PLACES" 259,.int 60 258⟩,⟨aA P "MOST_COPIES",.str "MOST_COPIES" 261,.int 40 260⟩,⟨aA P "is_whole",.str "is_whole" 268,.ref 65⟩,⟨aA P "is_name",.str "is_name" 274,.ref 70⟩,⟨aA P "is_reading",.str "is_reading" 281,.ref 77⟩,⟨aA P "are_readings",.str "are_readings" 287,.ref 82⟩,⟨aA P "is_copy",.str "is_copy" 294,.ref 89⟩,⟨aA P "is_table",.str "is_table" 300,.ref 94⟩,⟨aA P "need_table",.str "need_table" 307,.ref 101⟩,⟨aA P "table_list",.str "table_list" 313,.ref 106⟩,⟨aA P "place_count",.str "place_count" 320,.ref 113⟩,⟨aA P "KINDS",.str "KINDS" 331,.ref 118⟩,⟨aA P "first_of_kinds",.str "first_of_kinds" 337,.ref 123⟩,⟨aA P "clash",.str "clash" 349,.ref 130⟩,⟨aA P "refuse_clash",.str "refuse_clash" 357,.ref 137⟩,⟨aA P "group_at",.str "group_at" 371,.ref 144⟩,⟨aA P "turned",.str "turned" 377,.ref 149⟩,⟨aA P "grown",.str "grown" 383,.ref 154⟩,⟨aA P "tree",.str "tree" 391,.ref 161⟩,⟨aA P "_law_cell_at",.str "_law_cell_at" 401,.ref 168⟩,⟨aA P "_law_whole",.str "_law_whole" 408,.ref 175⟩,⟨aA P "_law_draw",.str "_law_draw" 418,.ref 182⟩,⟨aA P "_law_names",.str "_law_names" 433,.ref 189⟩,⟨aA P "_law_otherwise",.str "_law_otherwise" 439,.ref 194⟩,⟨aA P "_law_grown",.str "_law_grown" 445,.ref 199⟩,⟨aA P "_law_held",.str "_law_held" 456,.ref 206⟩,⟨aA P "_law_order",.str "_law_order" 468,.ref 213⟩,⟨aA P "_law_laid",.str "_law_laid" 474,.ref 218⟩,⟨aA P "_law_put",.str "_law_put" 480,.ref 223⟩,⟨aA P "law",.str "law" 486,.ref 228⟩] 44),#[]⟩)::
 (nat_lit 23,⟨.type "dict",none,(.dict #[⟨aA P "__module__",.str "__module__" 196,.str "copykin.errors" 187⟩,⟨aA P "__firstlineno__",.str "__firstlineno__" 200,.int 2 199⟩,⟨aA P "__static_attributes__",.str "__static_attributes__" 201,.ref 22⟩,⟨aA P "__weakref__",.str "__weakref__" 203,.ref 25⟩,⟨aA P "__doc__",.str "__doc__" 204,.none⟩] 3),#[]⟩)::
 (nat_lit 24,⟨.type "type",none,(.cls {name:="KinError",bases:=[.type "ValueError"],mro:=[.ref 24,.type "ValueError",.type "Exception",.type "BaseException",.type "object"],ns:=23,qualname:="KinError",hasDict:=true,slotNames:=[],subclasses:=[.ref 44,.ref 56],abstract:=false,collection:=none,hasDel:=false}),#[(some (.ref 15)),none,(some (.str "KinError" 189)),(some (.str "KinError" 197)),(some (.builtin "ValueError.__new__")),(some (.bool true))]⟩)::
 (nat_lit 55,⟨.type "dict",none,(.dict #[⟨aA P "__module__",.str "__module__" 243,.str "copykin.errors" 187⟩,⟨aA P "__firstlineno__",.str "__firstlineno__" 247,.int 11 246⟩,⟨aA P "__static_attributes__",.str "__static_attributes__" 248,.ref 54⟩,⟨aA P "__doc__",.str "__doc__" 249,.none⟩] 2),#[]⟩)::
 (nat_lit 56,⟨.type "type",none,(.cls {name:="NoTable",bases:=[.ref 24],mro:=[.ref 56,.ref 24,.type "ValueError",.type "Exception",.type "BaseException",.type "object"],ns:=55,qualname:="NoTable",hasDict:=true,slotNames:=[],subclasses:=[],abstract:=false,collection:=none,hasDel:=false}),#[(some (.ref 47)),none,(some (.str "NoTable" 236)),(some (.str "NoTable" 244)),(some (.builtin "ValueError.__new__")),(some (.bool true))]⟩)::
 (nat_lit 64,⟨.type "code",none,(.fields #[.str "is_whole" 262,.str "is_whole" 263,.str "/claim/cut.py" 264,.int 18 0,.int 1 0,.int 0 0,.int 0 0,.int 3 0,.ref 59,.bool true,.int 181 0,.ref 60,.none,.ref 61,.ref 62,.ref 63,.int 266 0,.int 18 0,.str "/claim/cut.py" 267]),#[]⟩)::
 (nat_lit 65,⟨.type "function",none,(.func (aQ "is_whole" "is_whole" (bW (top 9)) (bw (top 9)) (aU (top 9)) .none .none .none (.str "copykin.tables" 252) none (.ref 64) .none)),#[]⟩)::
 (nat_lit 69,⟨.type "code",none,(.fields #[.str "is_name" 269,.str "is_name" 270,.str "/claim/cut.py" 271,.int 20 0,.int 1 0,.int 0 0,.int 0 0,.int 3 0,.ref 66,.bool true,.int 181 0,.ref 67,.none,.none,.none,.ref 68,.int 272 0,.int 20 0,.str "/claim/cut.py" 273]),#[]⟩)::
 (nat_lit 70,⟨.type "function",none,(.func (aQ "is_name" "is_name" (bW (top 10)) (bw (top 10)) (aU (top 10)) .none .none .none (.str "copykin.tables" 252) none (.ref 69) .none)),#[]⟩)::
 (nat_lit 76,⟨.type "code",none,(.fields #[.str "is_reading" 275,.str "is_reading" 276,.str "/claim/cut.py" 277,.int 26 0,.int 1 0,.int 0 0,.int 0 0,.int 3 0,.ref 71,.bool true,.int 181 0,.ref 72,.none,.ref 73,.ref 74,.ref 75,.int 279 0,.int 26 0,.str "/claim/cut.py" 280]),#[]⟩)::
 (nat_lit 77,⟨.type "function",none,(.func (aQ "is_reading" "is_reading" (bW (top 11)) (bw (top 11)) (aU (top 11)) .none .none .none (.str "copykin.tables" 252) none (.ref 76) .none)),#[]⟩)::
 (nat_lit 81,⟨.type "code",none,(.fields #[.str "are_readings" 282,.str "are_readings" 283,.str "/claim/cut.py" 284,.int 28 0,.int 1 0,.int 0 0,.int 0 0,.int 3 0,.ref 78,.bool true,.int 181 0,.ref 79,.none,.none,.none,.ref 80,.int 285 0,.int 28 0,.str "/claim/cut.py" 286]),#[]⟩)::
 (nat_lit 82,⟨.type "function",none,(.func (aQ "are_readings" "are_readings" (bW (top 12)) (bw (top 12)) (aU (top 12)) .none .none .none (.str "copykin.tables" 252) none (.ref 81) .none)),#[]⟩)::
 (nat_lit 88,⟨.type "code",none,(.fields #[.str "is_copy" 288,.str "is_copy" 289,.str "/claim/cut.py" 290,.int 32 0,.int 1 0,.int 0 0,.int 0 0,.int 3 0,.ref 83,.bool true,.int 181 0,.ref 84,.none,.ref 85,.ref 86,.ref 87,.int 292 0,.int 32 0,.str "/claim/cut.py" 293]),#[]⟩)::
 (nat_lit 89,⟨.type "function",none,(.func (aQ "is_copy" "is_copy" (bW (top 13)) (bw (top 13)) (aU (top 13)) .none .none .none (.str "copykin.tables" 252) none (.ref 88) .none)),#[]⟩)::
 (nat_lit 93,⟨.type "code",none,(.fields #[.str "is_table" 295,.str "is_table" 296,.str "/claim/cut.py" 297,.int 36 0,.int 1 0,.int 0 0,.int 0 0,.int 3 0,.ref 90,.bool true,.int 181 0,.ref 91,.none,.none,.none,.ref 92,.int 298 0,.int 36 0,.str "/claim/cut.py" 299]),#[]⟩)::
 (nat_lit 94,⟨.type "function",none,(.func (aQ "is_table" "is_table" (bW (top 14)) (bw (top 14)) (aU (top 14)) .none .none .none (.str "copykin.tables" 252) none (.ref 93) .none)),#[]⟩)::
 (nat_lit 100,⟨.type "code",none,(.fields #[.str "need_table" 301,.str "need_table" 302,.str "/claim/cut.py" 303,.int 44 0,.int 1 0,.int 0 0,.int 0 0,.int 3 0,.ref 95,.bool true,.int 181 0,.ref 96,.none,.ref 97,.ref 98,.ref 99,.int 305 0,.int 44 0,.str "/claim/cut.py" 306]),#[]⟩)::
 (nat_lit 101,⟨.type "function",none,(.func (aQ "need_table" "need_table" (bW (top 15)) (bw (top 15)) (aU (top 15)) .none .none .none (.str "copykin.tables" 252) none (.ref 100) .none)),#[]⟩)::
 (nat_lit 105,⟨.type "code",none,(.fields #[.str "table_list" 308,.str "table_list" 309,.str "/claim/cut.py" 310,.int 47 0,.int 1 0,.int 0 0,.int 0 0,.int 3 0,.ref 102,.bool true,.int 181 0,.ref 103,.none,.none,.none,.ref 104,.int 311 0,.int 47 0,.str "/claim/cut.py" 312]),#[]⟩)::
 (nat_lit 106,⟨.type "function",none,(.func (aQ "table_list" "table_list" (bW (top 16)) (bw (top 16)) (aU (top 16)) .none .none .none (.str "copykin.tables" 252) none (.ref 105) .none)),#[]⟩)::
 (nat_lit 112,⟨.type "code",none,(.fields #[.str "place_count" 314,.str "place_count" 315,.str "/claim/cut.py" 316,.int 51 0,.int 1 0,.int 0 0,.int 0 0,.int 3 0,.ref 107,.bool true,.int 181 0,.ref 108,.none,.ref 109,.ref 110,.ref 111,.int 318 0,.int 51 0,.str "/claim/cut.py" 319]),#[]⟩)::
 (nat_lit 113,⟨.type "function",none,(.func (aQ "place_count" "place_count" (bW (top 17)) (bw (top 17)) (aU (top 17)) .none .none .none (.str "copykin.tables" 252) none (.ref 112) .none)),#[]⟩)::
 (nat_lit 114,⟨.type "tuple",none,(.seq #[.int 0 323,.int 0 324] 0),#[]⟩)::
 (nat_lit 115,⟨.type "tuple",none,(.seq #[.int 0 325,.int 1 326] 0),#[]⟩)::
 (nat_lit 116,⟨.type "tuple",none,(.seq #[.int 1 327,.int 0 328] 0),#[]⟩)::
 (nat_lit 117,⟨.type "tuple",none,(.seq #[.int 1 329,.int 1 330] 0),#[]⟩)::
 (nat_lit 118,⟨.type "tuple",none,(.seq #[.ref 114,.ref 115,.ref 116,.ref 117] 0),#[]⟩)::
 (nat_lit 122,⟨.type "code",none,(.fields #[.str "first_of_kinds" 332,.str "first_of_kinds" 333,.str "/claim/cut.py" 334,.int 58 0,.int 3 0,.int 0 0,.int 0 0,.int 3 0,.ref 119,.bool true,.int 181 0,.ref 120,.none,.none,.none,.ref 121,.int 335 0,.int 58 0,.str "/claim/cut.py" 336]),#[]⟩)::
 (nat_lit 123,⟨.type "function",none,(.func (aQ "first_of_kinds" "first_of_kinds" (bW (top 20)) (bw (top 20)) (aU (top 20)) .none .none .none (.str "copykin.clashes" 321) none (.ref 122) .none)),#[]⟩)::
 (nat_lit 129,⟨.type "code",none,(.fields #[.str "clash" 338,.str "clash" 339,.str "/claim/cut.py" 340,.int 65 0,.int 1 0,.int 0 0,.int 0 0,.int 3 0,.ref 124,.bool true,.int 181 0,.ref 125,.none,.ref 126,.ref 127,.ref 128,.int 347 0,.int 65 0,.str "/claim/cut.py" 348]),#[]⟩)::
 (nat_lit 130,⟨.type "function",none,(.func (aQ "clash" "clash" (bW (top 21)) (bw (top 21)) (aU (top 21)) .none .none .none (.str "copykin.clashes" 321) none (.ref 129) .none)),#[]⟩)::
 (nat_lit 136,⟨.type "code",none,(.fields #[.str "refuse_clash" 350,.str "refuse_clash" 351,.str "/claim/cut.py" 352,.int 74 0,.int 1 0,.int 0 0,.int 0 0,.int 3 0,.ref 131,.bool true,.int 181 0,.ref 132,.none,.ref 133,.ref 134,.ref 135,.int 355 0,.int 74 0,.str "/claim/cut.py" 356]),#[]⟩)::
 (nat_lit 137,⟨.type "function",none,(.func (aQ "refuse_clash" "refuse_clash" (bW (top 22)) (bw (top 22)) (aU (top 22)) .none .none .none (.str "copykin.clashes" 321) none (.ref 136) .none)),#[]⟩)::
 (nat_lit 143,⟨.type "code",none,(.fields #[.str "group_at" 360,.str "group_at" 361,.str "/claim/cut.py" 362,.int 79 0,.int 2 0,.int 0 0,.int 0 0,.int 3 0,.ref 138,.bool true,.int 181 0,.ref 139,.none,.ref 140,.ref 141,.ref 142,.int 369 0,.int 79 0,.str "/claim/cut.py" 370]),#[]⟩)::
 (nat_lit 144,⟨.type "function",none,(.func (aQ "group_at" "group_at" (bW (top 24)) (bw (top 24)) (aU (top 24)) .none .none .none (.str "copykin.trees" 358) none (.ref 143) .none)),#[]⟩)::
 (nat_lit 148,⟨.type "code",none,(.fields #[.str "turned" 372,.str "turned" 373,.str "/claim/cut.py" 374,.int 85 0,.int 2 0,.int 0 0,.int 0 0,.int 3 0,.ref 145,.bool true,.int 181 0,.ref 146,.none,.none,.none,.ref 147,.int 375 0,.int 85 0,.str "/claim/cut.py" 376]),#[]⟩)::
 (nat_lit 149,⟨.type "function",none,(.func (aQ "turned" "turned" (bW (top 25)) (bw (top 25)) (aU (top 25)) .none .none .none (.str "copykin.trees" 358) none (.ref 148) .none)),#[]⟩)::
 (nat_lit 153,⟨.type "code",none,(.fields #[.str "grown" 378,.str "grown" 379,.str "/claim/cut.py" 380,.int 87 0,.int 1 0,.int 0 0,.int 0 0,.int 3 0,.ref 150,.bool true,.int 181 0,.ref 151,.none,.none,.none,.ref 152,.int 381 0,.int 87 0,.str "/claim/cut.py" 382]),#[]⟩)::
 (nat_lit 154,⟨.type "function",none,(.func (aQ "grown" "grown" (bW (top 26)) (bw (top 26)) (aU (top 26)) .none .none .none (.str "copykin.trees" 358) none (.ref 153) .none)),#[]⟩)::
 (nat_lit 160,⟨.type "code",none,(.fields #[.str "tree" 384,.str "tree" 385,.str "/claim/cut.py" 386,.int 102 0,.int 1 0,.int 0 0,.int 0 0,.int 3 0,.ref 155,.bool true,.int 181 0,.ref 156,.none,.ref 157,.ref 158,.ref 159,.int 389 0,.int 102 0,.str "/claim/cut.py" 390]),#[]⟩)::
 (nat_lit 161,⟨.type "function",none,(.func (aQ "tree" "tree" (bW (top 27)) (bw (top 27)) (aU (top 27)) .none .none .none (.str "copykin.trees" 358) none (.ref 160) .none)),#[]⟩)::
 (nat_lit 167,⟨.type "code",none,(.fields #[.str "_law_cell_at" 394,.str "_law_cell_at" 395,.str "/claim/cut.py" 396,.int 109 0,.int 2 0,.int 0 0,.int 0 0,.int 3 0,.ref 162,.bool true,.int 181 0,.ref 163,.none,.ref 164,.ref 165,.ref 166,.int 399 0,.int 109 0,.str "/claim/cut.py" 400]),#[]⟩)::
 (nat_lit 168,⟨.type "function",none,(.func (aQ "_law_cell_at" "_law_cell_at" (bW (top 29)) (bw (top 29)) (aU (top 29)) .none .none .none (.str "law_copykin_k34_whole_any_order" 392) none (.ref 167) .none)),#[]⟩)::
 (nat_lit 181,⟨.type "code",none,(.fields #[.str "_law_draw" 409,.str "_law_draw" 410,.str "/claim/cut.py" 411,.int 115 0,.int 2 0,.int 0 0,.int 0 0,.int 3 0,.ref 176,.bool true,.int 181 0,.ref 177,.none,.ref 178,.ref 179,.ref 180,.int 416 0,.int 115 0,.str "/claim/cut.py" 417]),#[]⟩)::
 (nat_lit 182,⟨.type "function",none,(.func (aQ "_law_draw" "_law_draw" (bW (top 31)) (bw (top 31)) (aU (top 31)) .none .none .none (.str "law_copykin_k34_whole_any_order" 392) none (.ref 181) .none)),#[]⟩)::
 (nat_lit 188,⟨.type "code",none,(.fields #[.str "_law_names" 419,.str "_law_names" 420,.str "/claim/cut.py" 421,.int 121 0,.int 2 0,.int 0 0,.int 0 0,.int 3 0,.ref 183,.bool true,.int 181 0,.ref 184,.none,.ref 185,.ref 186,.ref 187,.int 431 0,.int 121 0,.str "/claim/cut.py" 432]),#[]⟩)::
 (nat_lit 189,⟨.type "function",none,(.func (aQ "_law_names" "_law_names" (bW (top 32)) (bw (top 32)) (aU (top 32)) .none .none .none (.str "law_copykin_k34_whole_any_order" 392) none (.ref 188) .none)),#[]⟩)::
 (nat_lit 193,⟨.type "code",none,(.fields #[.str "_law_otherwise" 434,.str "_law_otherwise" 435,.str "/claim/cut.py" 436,.int 132 0,.int 2 0,.int 0 0,.int 0 0,.int 3 0,.ref 190,.bool true,.int 181 0,.ref 191,.none,.none,.none,.ref 192,.int 437 0,.int 132 0,.str "/claim/cut.py" 438]),#[]⟩)::
 (nat_lit 194,⟨.type "function",none,(.func (aQ "_law_otherwise" "_law_otherwise" (bW (top 33)) (bw (top 33)) (aU (top 33)) .none .none .none (.str "law_copykin_k34_whole_any_order" 392) none (.ref 193) .none)),#[]⟩)::
 (nat_lit 198,⟨.type "code",none,(.fields #[.str "_law_grown" 440,.str "_law_grown" 441,.str "/claim/cut.py" 442,.int 134 0,.int 2 0,.int 0 0,.int 0 0,.int 3 0,.ref 195,.bool true,.int 181 0,.ref 196,.none,.none,.none,.ref 197,.int 443 0,.int 134 0,.str "/claim/cut.py" 444]),#[]⟩)::
 (nat_lit 199,⟨.type "function",none,(.func (aQ "_law_grown" "_law_grown" (bW (top 34)) (bw (top 34)) (aU (top 34)) .none .none .none (.str "law_copykin_k34_whole_any_order" 392) none (.ref 198) .none)),#[]⟩)::
 (nat_lit 205,⟨.type "code",none,(.fields #[.str "_law_held" 446,.str "_law_held" 447,.str "/claim/cut.py" 448,.int 152 0,.int 2 0,.int 0 0,.int 0 0,.int 3 0,.ref 200,.bool true,.int 181 0,.ref 201,.none,.ref 202,.ref 203,.ref 204,.int 454 0,.int 152 0,.str "/claim/cut.py" 455]),#[]⟩)::
 (nat_lit 206,⟨.type "function",none,(.func (aQ "_law_held" "_law_held" (bW (top 35)) (bw (top 35)) (aU (top 35)) .none .none .none (.str "law_copykin_k34_whole_any_order" 392) none (.ref 205) .none)),#[]⟩)::
 (nat_lit 212,⟨.type "code",none,(.fields #[.str "_law_order" 457,.str "_law_order" 458,.str "/claim/cut.py" 459,.int 161 0,.int 3 0,.int 0 0,.int 0 0,.int 3 0,.ref 207,.bool true,.int 181 0,.ref 208,.none,.ref 209,.ref 210,.ref 211,.int 466 0,.int 161 0,.str "/claim/cut.py" 467]),#[]⟩)::
 (nat_lit 213,⟨.type "function",none,(.func (aQ "_law_order" "_law_order" (bW (top 36)) (bw (top 36)) (aU (top 36)) .none .none .none (.str "law_copykin_k34_whole_any_order" 392) none (.ref 212) .none)),#[]⟩)::
 (nat_lit 217,⟨.type "code",none,(.fields #[.str "_law_laid" 469,.str "_law_laid" 470,.str "/claim/cut.py" 471,.int 167 0,.int 3 0,.int 0 0,.int 0 0,.int 3 0,.ref 214,.bool true,.int 181 0,.ref 215,.none,.none,.none,.ref 216,.int 472 0,.int 167 0,.str "/claim/cut.py" 473]),#[]⟩)::
 (nat_lit 218,⟨.type "function",none,(.func (aQ "_law_laid" "_law_laid" (bW (top 37)) (bw (top 37)) (aU (top 37)) .none .none .none (.str "law_copykin_k34_whole_any_order" 392) none (.ref 217) .none)),#[]⟩)::
 (nat_lit 222,⟨.type "code",none,(.fields #[.str "_law_put" 475,.str "_law_put" 476,.str "/claim/cut.py" 477,.int 170 0,.int 3 0,.int 0 0,.int 0 0,.int 3 0,.ref 219,.bool true,.int 181 0,.ref 220,.none,.none,.none,.ref 221,.int 478 0,.int 170 0,.str "/claim/cut.py" 479]),#[]⟩)::
 (nat_lit 223,⟨.type "function",none,(.func (aQ "_law_put" "_law_put" (bW (top 38)) (bw (top 38)) (aU (top 38)) .none .none .none (.str "law_copykin_k34_whole_any_order" 392) none (.ref 222) .none)),#[]⟩)::
 (nat_lit 227,⟨.type "code",none,(.fields #[.str "law" 481,.str "law" 482,.str "/claim/cut.py" 483,.int 176 0,.int 1 0,.int 0 0,.int 0 0,.int 3 0,.ref 224,.bool true,.int 181 0,.ref 225,.none,.none,.none,.ref 226,.int 484 0,.int 176 0,.str "/claim/cut.py" 485]),#[]⟩)::
 (nat_lit 228,⟨.type "function",none,(.func (aQ "law" "law" (bW (top 39)) (bw (top 39)) (aU (top 39)) .none .none .none (.str "law_copykin_k34_whole_any_order" 392) none (.ref 227) .none)),#[]⟩)::[]
noncomputable def zJ:List Addr:=[2,3,23,24,55,56,64,65,69,70,76,77,81,82,88,89,93,94,100,101,105,106,112,113,114,115,116,117,118,122,123,129,130,136,137,143,144,148,149,153,154,160,161,167,168,181,182,188,189,193,194,198,199,205,206,212,213,217,218,222,223,227,228]
noncomputable def lhsB(w:World):=(IG treeTable PySem.Challenge.pw_copykin_k34_whole_any_order w 3196).map (Av (jN K34.zI K34.zJ (fun _=>by kernel_rfl) [103]))
noncomputable def rhsB(w:World):=some (Au (jN K34.zI K34.zJ (fun _=>by kernel_rfl) [103]) w)
theorem laidB:(seen lhsB&&seen rhsB)=true:=by k_qdec
theorem leftB(w:World):lhsB w=rhsB w:=by
 have _:=laidB;rw[PySem.W.Fast.te11358461497435759956,PySem.W.Fast.te18183266899217123534]
 kernel_rfl
noncomputable def G5(st:Stmt):Pos:=match bw st with
 |_::.Assign _ (.Call _ _ [⟨_,.Lambda _ _ _ p,_⟩] _) _::_=>p
 |_=>⟨0,0,0,0⟩
noncomputable def tb(p:Addr):Tb:=⟨p,G5 (top 16),"table_list.<locals>.<lambda>"⟩
theorem tl_ok:(oJ ji oH (aU (top 16))&&chkK (aU (top 16)) ji ku 1 (.var 0) "copy" (G5 (top 16)) kq (bw (top 16)))=true:=by decide+kernel
theorem tl_q:("table_list":Str)++".<locals>."++"<lambda>"="table_list.<locals>.<lambda>":=by decide+kernel
noncomputable def vals(C kd:Addr):List (Str×V):=[("LETTERS",.str LETTERS),("LONGEST_NAME",.int 8),("MOST_PLACES",.int 60),("MOST_COPIES",.int 40),("NoTable",.ref C),("KINDS",.ref kd)]
theorem rJ{K:af}{a:Addr}{od:Option Addr}{n:Nat}{sl:Array (Option Value)}{i j:Int}{t u:Tok}(l:K.lookup a=some ⟨.type "tuple",od,.seq #[.int i t,.int j u] n,sl⟩)(H:Hp):SqT K H a [.int i,.int j]:=
 .inr ⟨_,_,_,l,rfl,rfl,by show 2<=sizeLine;decide,.cons ⟨t,rfl⟩ (.cons ⟨u,rfl⟩ .nil)⟩
theorem Hb{K:af}{kd a0 a1 a2 a3:Addr}{od o0 o1 o2 o3:Option Addr}{n n0 n1 n2 n3:Nat}{sl s0 s1 s2 s3:Array (Option Value)}{t0 t1 t2 t3 u0 u1 u2 u3:Tok}(l:K.lookup kd=some ⟨.type "tuple",od,.seq #[.ref a0,.ref a1,.ref a2,.ref a3] n,sl⟩)
  (l0:K.lookup a0=some ⟨.type "tuple",o0,.seq #[.int 0 t0,.int 0 u0] n0,s0⟩)(l1:K.lookup a1=some ⟨.type "tuple",o1,.seq #[.int 0 t1,.int 1 u1] n1,s1⟩)(l2:K.lookup a2=some ⟨.type "tuple",o2,.seq #[.int 1 t2,.int 0 u2] n2,s2⟩)(l3:K.lookup a3=some ⟨.type "tuple",o3,.seq #[.int 1 t3,.int 1 u3] n3,s3⟩):Kc.Kinds K kd:=
 ⟨a0,a1,a2,a3,fun H=>⟨.inr ⟨_,_,_,l,rfl,rfl,by show 4<=sizeLine;decide,.cons rfl (.cons rfl (.cons rfl (.cons rfl .nil)))⟩,rJ l0 H,rJ l1 H,rJ l2 H,rJ l3 H⟩⟩
noncomputable def yk(K:af)(x:Str)(st:Stmt)(c p:Addr):Prop:=∃(f:Addr)(oc:Value)(od an:Option Addr)(osl:Array (Option Value))(kV doc pm ct:Value),eJ K bM x=some (some (.ref f))/\
 K.lookup f=some ⟨oc,od,.func (aQ x x (bW st) (bw st) (aU st) .none kV doc pm an (.ref c) ct),osl⟩/\fB K (.ref c) x=true/\cE K (.ref f)=true/\II K c p=true
theorem vJ{K:af}{x:Str}{st:Stmt}{f c p:Addr}{oc:Value}{od an:Option Addr}{osl:Array (Option Value)}{kV doc pm ct:Value}(a:eJ K bM x=some (some (.ref f)))
  (l:K.lookup f=some ⟨oc,od,.func (aQ x x (bW st) (bw st) (aU st) .none kV doc pm an (.ref c) ct),osl⟩)(k:fB K (.ref c) x=true)(q:cE K (.ref f)=true)(h:II K c p=true):∃c,yk K x st c p:=
 ⟨c,f,oc,od,an,osl,kV,doc,pm,ct,a,l,k,q,h⟩
theorem add_fnK{P:Program}{w:World}{K:af}{mg:Str->Option Value}{base h:Heap}{k:Nat}{vals:List (Str×V)}{fns:List ((Str×Nat)×(Sp×List V))}{x lx:Str}{st:Stmt}{N ps:List Str}{sp:Sp}{c1:CS}{i:Nat}{ce:R.CE}{c2:CB}{T:Tb}{c:Addr}{inis:List ((Str×Nat)×(Addr×Sp×List V))}{dics:List (Addr×List (Key×V))}
  (g:GOk P w K mg base (CXx P w) k (gam vals fns inis dics))(X:K.In h)(Xb:K.In base)(Gm:h.Ns bM mg)(d:yk K x st c T.P)(hc:(oJ N ps (aU st)&&chkK (aU st) N c1 i ce lx T.pos c2 (bw st))=true)(hq:x++".<locals>."++"<lambda>"=T.q)(hb:BM mg base)
  (hbd:∀(p:Pos)(body:Expr)(scope:Scope)(qual:Str)(pm ctv v:Value)(c':Addr),oh (PySem.W.kla_fn "<lambda>" qual (oQ lx p) body scope [] pm (.ref c') ctv) ⟨[v],[]⟩=pure [(lx,v)])
  (hba:∀(kV doc pm:Value)(an:Option Addr)(cdv ct:Value)(us:List Value),us.length=ps.length->oh (aQ x x (bW st) (bw st) (aU st) .none kV doc pm an cdv ct) ⟨us,[]⟩=pure (ps.zip us))(len:∀vs H Q E,sp vs H Q E->vs.length=ps.length)
  (hw:∀vs H Q E,sp vs H Q E->uI (R.wpS (gam vals fns inis dics) K (fun _=>E) c1) (uI (wM (se K T (wpE (gam vals fns inis dics) K (fun _=>E) ce)) (l7 i)) (wpB (gam vals fns inis dics) K (fun _=>E) c2)) {nx:=fun _ H'=>Q .non H',rt:=Q} (L2.start N vs) H):
  GOk P w K mg base (CXx P w) (k+1) (gam vals (((x,ps.length),(sp,[]))::fns) inis dics):=by
 rw[aL]at hc;obtain⟨f,oc,od,an,osl,kV,doc,pm,ct,a,l,q1,q2,q3⟩:=d;have F:=Bx l q1 q2;exact g.add (n:=ps.length) (HB F hc.1 hc.2 rfl (Dj Xb q3) hq hb hbd g len hw) (fk X Gm a) q2 (F.binds hba) .nil
theorem all_mk{P:Program}{w:World}{K:af}{h:Heap}{mg:Str->Option Value}{fa p:Addr}(X:K.In h)(Gm:h.Ns bM mg)(hfa:mg "law"=some (.ref fa)){t1 t2 t3 t4:Tok}{C kd:Addr}
  (v1:eJ K bM "LETTERS"=some (some (.str LETTERS t1)))(v2:eJ K bM "LONGEST_NAME"=some (some (.int 8 t2)))(v3:eJ K bM "MOST_PLACES"=some (some (.int 60 t3)))(v4:eJ K bM "MOST_COPIES"=some (some (.int 40 t4)))(v5:eJ K bM "NoTable"=some (some (.ref C)))(v6:eJ K bM "KINDS"=some (some (.ref kd)))
  (xc:XC K C)(kd0:Kc.Kinds K kd)(bl:∀x∈i4,eJ K bM x=some none)
  (h9:HasFn K "is_whole" (top 9))(h10:HasFn K "is_name" (top 10))(h11:HasFn K "is_reading" (top 11))(h12:HasFn K "are_readings" (top 12))(h13:HasFn K "is_copy" (top 13))(h14:HasFn K "is_table" (top 14))(h15:HasFn K "need_table" (top 15))(h17:HasFn K "place_count" (top 17))(h20:HasFn K "first_of_kinds" (top 20))(h21:HasFn K "clash" (top 21))(h22:HasFn K "refuse_clash" (top 22))(h24:HasFn K "group_at" (top 24))(h25:HasFn K "turned" (top 25))(h26:HasFn K "grown" (top 26))(h27:HasFn K "tree" (top 27))(h29:HasFn K "_law_cell_at" (top 29))(h31:HasFn K "_law_draw" (top 31))(h32:HasFn K "_law_names" (top 32))(h33:HasFn K "_law_otherwise" (top 33))(h34:HasFn K "_law_grown" (top 34))(h35:HasFn K "_law_held" (top 35))(h36:HasFn K "_law_order" (top 36))(h37:HasFn K "_law_laid" (top 37))(h38:HasFn K "_law_put" (top 38))(h16:∃c,yk K "table_list" (top 16) c p)(h39:HasFn K "law" (top 39)):
  ∃fd:gH,(∀(s:Shared)(v:Value),BindsTo s fd ⟨[v],[]⟩ [("_law_script",v)])/\∀base:Heap,K.In base->base.Ns bM mg->BM mg base->jH P w K mg base CX0 26 fa fd ["_law_script"] (fun vs H Q _=>Fz K (tb p) vs H Q E0):=by
 obtain⟨f,oc',od,an,osl,kV,doc,pm,cdv,ct,a,l,c,k⟩:=id h39;have e:=hfa.symm.trans (fk X Gm a);cases e;obtain⟨cc,h16⟩:=h16;refine⟨aQ "law" "law" (bW (top 39)) (bw (top 39)) (aU (top 39)) .none kV doc pm an cdv ct,fun s v=>.of_eq rfl,fun base Xb _ bm=>?_⟩;have hv:∀x v,(x,v)∈vals C kd->∃u,mg x=some u/\RelV v u:=by
  intro x v hm;simp only[vals,aB,dy,or_false,Prod.mk.injEq]at hm;rcases hm with⟨rfl,rfl⟩ |⟨rfl,rfl⟩ |⟨rfl,rfl⟩ |⟨rfl,rfl⟩ |⟨rfl,rfl⟩ |⟨rfl,rfl⟩
  ·exact⟨_,fk X Gm v1,t1,rfl⟩
  ·exact⟨_,fk X Gm v2,t2,rfl⟩
  ·exact⟨_,fk X Gm v3,t3,rfl⟩
  ·exact⟨_,fk X Gm v4,t4,rfl⟩
  ·exact⟨_,fk X Gm v5,rfl⟩
  ·exact⟨_,fk X Gm v6,rfl⟩
 have g0:GOk P w K mg base (CXx P w) 0 (gam (vals C kd) []):=GOk.start hv fun x hx=>PySem.W.mg_none_of X Gm (bl x hx);have g1:=eB (N:=Cp.sS) (ps:=Cp.Bb) g0 (h9.def X Gm) (by decide+kernel) (fun _ _ _ _ _ _ us hl=>by obtain⟨_,rfl⟩:=Kc.iA hl;rfl) (sp:=spB isWhole) (fun vs H Q E h=>Kc.cT h fun _ h=>Kc.i2 h rfl) yJ;have g2:=eB (N:=Cp.vB) (ps:=Cp.DO) g1 (h10.def X Gm) (by decide+kernel) (fun _ _ _ _ _ _ us hl=>by obtain⟨_,rfl⟩:=Kc.iA hl;rfl) (sp:=spN) (fun vs H Q E h=>Kc.cT h fun _ h=>Kc.i2 h rfl) (AF (by kernel_rfl) (by kernel_rfl));have g3:=eB (N:=Cp.oN) (ps:=Cp.xy) g2 (h11.def X Gm) (by decide+kernel) (fun _ _ _ _ _ _ us hl=>by obtain⟨_,rfl⟩:=Kc.iA hl;rfl) (sp:=spB cD) (fun vs H Q E h=>Kc.cT h fun _ h=>Kc.i2 h rfl) (uF (by kernel_rfl));have g4:=eB (N:=Cp.lW) (ps:=Cp.sH) g3 (h12.def X Gm) (by decide+kernel) (fun _ _ _ _ _ _ us hl=>by obtain⟨_,rfl⟩:=Kc.iA hl;rfl) (sp:=spR) (fun vs H Q E h=>Kc.cT h fun _ h=>Kc.i2 h rfl) (qV (by kernel_rfl) (by kernel_rfl));have g5:=eB (N:=Cp.vC) (ps:=Cp.DP) g4 (h13.def X Gm) (by decide+kernel) (fun _ _ _ _ _ _ us hl=>by obtain⟨_,rfl⟩:=Kc.iA hl;rfl) (sp:=spC) (fun vs H Q E h=>Kc.cT h fun _ h=>Kc.i2 h rfl) (AG (by kernel_rfl) (by kernel_rfl));have g6:=eB (N:=Cp.sT) (ps:=Cp.Bc) g5 (h14.def X Gm) (by decide+kernel) (fun _ _ _ _ _ _ us hl=>by obtain⟨_,rfl⟩:=Kc.iA hl;rfl) (sp:=Cp.spT) (fun vs H Q E h=>Kc.cT h fun _ h=>Kc.i2 h rfl) (yK (by kernel_rfl) (by kernel_rfl));have g7:=eB (N:=Cp.oM) (ps:=Cp.xx) g6 (h15.def X Gm) (by decide+kernel) (fun _ _ _ _ _ _ us hl=>by obtain⟨_,rfl⟩:=Kc.iA hl;rfl) (sp:=wQ C) (fun vs H Q E h=>Kc.cT h fun _ h=>Kc.i2 h rfl) (uE (by kernel_rfl) (by kernel_rfl) xc);have g8:=add_fnK (T:=tb p) (N:=ji) (ps:=oH) (lx:="copy") g7 X Xb Gm h16 tl_ok tl_q bm (fun _ _ _ _ _ _ _ _=>rfl) (fun _ _ _ _ _ _ us hl=>by obtain⟨_,rfl⟩:=Kc.iA hl;rfl) (sp:=wU C (tb p)) (fun vs H Q E h=>Kc.cT h fun _ h=>Kc.i2 h rfl) (uD (C:=C) (by kernel_rfl));have g9:=eB (N:=Cp.m9) (ps:=Cp.uM) g8 (h17.def X Gm) (by decide+kernel) (fun _ _ _ _ _ _ us hl=>by obtain⟨_,rfl⟩:=Kc.iA hl;rfl) (sp:=wY C) (fun vs H Q E h=>Kc.cT h fun _ h=>Kc.i2 h rfl) (rV (C:=C) (by kernel_rfl));have g10:=eB (N:=Kc.kQ) (ps:=Kc.p9) g9 (h20.def X Gm) (by decide+kernel) (fun _ _ _ _ _ _ us hl=>by obtain⟨_,_,_,rfl⟩:=Kc.oD hl;rfl) (sp:=Kc.wX) (fun vs H Q E h=>Kc.cT h fun _ h=>Kc.cT h fun _ h=>Kc.cT h fun _ h=>Kc.cT h fun _ h=>Kc.cT h fun _ h=>Kc.i2 h rfl) (Kc.E6 (by kernel_rfl) kd0);have g11:=eB (N:=K22.Ct) (ps:=K22.p_clash) g10 (h21.def X Gm) (by decide+kernel) (fun _ _ _ _ _ _ us hl=>by obtain⟨_,rfl⟩:=Kc.iA hl;rfl) (sp:=K22.wZ C (tb p)) (fun vs H Q E h=>Kc.cT h fun _ h=>Kc.i2 h rfl) (K22.E7 (C:=C) (T:=tb p) (by kernel_rfl) (by kernel_rfl) (by kernel_rfl));have g12:=eB (N:=K83.lV) (ps:=K83.sG) g11 (h22.def X Gm) (by decide+kernel) (fun _ _ _ _ _ _ us hl=>by obtain⟨_,rfl⟩:=Kc.iA hl;rfl) (sp:=K83.Fw (tb p)) (fun vs H Q E h=>Kc.cT h fun _ h=>Kc.i2 h rfl) (K83.wp_ref (C:=C) (T:=tb p) (by kernel_rfl));have g13:=eB (N:=K32.sU) (ps:=K32.Bd) g12 (h24.def X Gm) (by decide+kernel) (fun _ _ _ _ _ _ us hl=>by obtain⟨_,_,rfl⟩:=Kc.la hl;rfl) (sp:=K32.wW) (fun vs H Q E h=>Kc.cT h fun _ h=>Kc.cT h fun _ h=>Kc.cT h fun _ h=>Kc.cT h fun _ h=>Kc.cT h fun _ h=>Kc.i2 h rfl) K32.E5;have g14:=eB (N:=K32.zu) (ps:=K32.GA) g13 (h25.def X Gm) (by decide+kernel) (fun _ _ _ _ _ _ us hl=>by obtain⟨_,_,rfl⟩:=Kc.la hl;rfl) (sp:=K32.lR K) (fun vs H Q E h=>Kc.cT h fun _ h=>Kc.cT h fun _ h=>Kc.cT h fun _ h=>Kc.cT h fun _ h=>Kc.i2 h rfl) K32.Dp;have g15:=eB (N:=K32.Cs) (ps:=K32.p_grown) g14 (h26.def X Gm) (by decide+kernel) (fun _ _ _ _ _ _ us hl=>by obtain⟨_,rfl⟩:=Kc.iA hl;rfl) (sp:=K32.sv) (fun vs H Q E h=>Kc.cT h fun _ h=>Kc.cT h fun _ h=>Kc.cT h fun _ h=>Kc.cT h fun _ h=>Kc.i2 h rfl) (K32.Dq (by kernel_rfl) (by kernel_rfl));have g16:=eB (N:=K32.GP) (ps:=K32.p_tree) g15 (h27.def X Gm) (by decide+kernel) (fun _ _ _ _ _ _ us hl=>by obtain⟨_,rfl⟩:=Kc.iA hl;rfl) (sp:=K83.sk (tb p)) (fun vs H Q E h=>Kc.cT h fun _ h=>Kc.i2 h rfl) (K83.wp_tree (C:=C) (T:=tb p) (by kernel_rfl) (by kernel_rfl) (by kernel_rfl));have g17:=eB (N:=Lt.ng) (ps:=Lt.uN) g16 (h29.def X Gm) (by decide+kernel) (fun _ _ _ _ _ _ us hl=>by obtain⟨_,_,rfl⟩:=Kc.la hl;rfl) (sp:=Lt.w6 K) (fun vs H Q E h=>Kc.cT h fun _ h=>Kc.cT h fun _ h=>Kc.cT h fun _ h=>Kc.i2 h rfl) Lt.wp_cell;have g18:=eB (N:=K21.sR) (ps:=K21.Ba) g17 (h31.def X Gm) (by decide+kernel) (fun _ _ _ _ _ _ us hl=>by obtain⟨_,_,rfl⟩:=Kc.la hl;rfl) (sp:=K21.jB) (fun vs H Q E h=>Kc.cT h fun _ h=>Kc.cT h fun _ h=>Kc.i2 h rfl) K21.wp_draw;have g19:=eB (N:=K21.qB) (ps:=K21.zj) g18 (h32.def X Gm) (by decide+kernel) (fun _ _ _ _ _ _ us hl=>by obtain⟨_,_,rfl⟩:=Kc.la hl;rfl) (sp:=K21.wR) (fun vs H Q E h=>Kc.cT h fun _ h=>Kc.cT h fun _ h=>Kc.i2 h rfl) (K21.E3 (by kernel_rfl));have g20:=eB (N:=K22.lF) (ps:=K22.qX) g19 (h33.def X Gm) (by decide+kernel) (fun _ _ _ _ _ _ us hl=>by obtain⟨_,_,rfl⟩:=Kc.la hl;rfl) (sp:=K34.lb K) (fun vs H Q E h=>Kc.cT h fun _ h=>Kc.cT h fun _ h=>Kc.cT h fun _ h=>Kc.cT h fun _ h=>Kc.i2 h rfl) K34.wp_othN;have g21:=eB (N:=K22.qC) (ps:=K22.zk) g20 (h34.def X Gm) (by decide+kernel) (fun _ _ _ _ _ _ us hl=>by obtain⟨_,_,rfl⟩:=Kc.la hl;rfl) (sp:=K34.wV K) (fun vs H Q E h=>Kc.cT h fun _ h=>Kc.cT h fun _ h=>Kc.cT h fun _ h=>Kc.i2 h rfl) (K34.E4 (by kernel_rfl) (by kernel_rfl));have g22:=eB (N:=K22.sQ) (ps:=K22.A9) g21 (h35.def X Gm) (by decide+kernel) (fun _ _ _ _ _ _ us hl=>by obtain⟨_,_,rfl⟩:=Kc.la hl;rfl) (sp:=K22.AS K) (fun vs H Q E h=>Kc.cT h fun _ h=>Kc.cT h fun _ h=>Kc.cT h fun _ h=>Kc.cT h fun _ h=>Kc.i2 h rfl) (K22.wp_held (by kernel_rfl));have g23:=eB (N:=K34.qA) (ps:=K34.zi) g22 (h36.def X Gm) (by decide+kernel) (fun _ _ _ _ _ _ us hl=>by obtain⟨_,_,_,rfl⟩:=Kc.oD hl;rfl) (sp:=K34.Fy K) (fun vs H Q E h=>Kc.cT h fun _ h=>Kc.cT h fun _ h=>Kc.cT h fun _ h=>Kc.cT h fun _ h=>Kc.i2 h rfl) (K34.wp_ord (by kernel_rfl) (by kernel_rfl));have g24:=eB (N:=K34.sP) (ps:=K34.A8) g23 (h37.def X Gm) (by decide+kernel) (fun _ _ _ _ _ _ us hl=>by obtain⟨_,_,_,rfl⟩:=Kc.oD hl;rfl) (sp:=K34.sr K) (fun vs H Q E h=>Kc.cT h fun _ h=>Kc.cT h fun _ h=>Kc.cT h fun _ h=>Kc.cT h fun _ h=>Kc.cT h fun _ h=>Kc.cT h fun _ h=>Kc.cT h fun _ h=>Kc.i2 h rfl) (K34.wp_laid (by kernel_rfl));have g25:=eB (N:=K34.vA) (ps:=K34.DN) g24 (h38.def X Gm) (by decide+kernel) (fun _ _ _ _ _ _ us hl=>by obtain⟨_,_,_,rfl⟩:=Kc.oD hl;rfl) (sp:=K34.AR K) (fun vs H Q E h=>Kc.cT h fun _ h=>Kc.cT h fun _ h=>Kc.cT h fun _ h=>Kc.cT h fun _ h=>Kc.cT h fun _ h=>Kc.cT h fun _ h=>Kc.cT h fun _ h=>Kc.cT h fun _ h=>Kc.i2 h rfl) (K34.wp_put (by kernel_rfl));have hk:(oJ K34.GQ K34.p_law (aU (top 39))&&uU (aU (top 39)) K34.GQ K34.Ij (bw (top 39)))=true:=by decide+kernel
 rw[aL]at hk;exact jH.calm (CU (Bx l c k) hk.1 hk.2 g25 (fun vs H Q E h=>Kc.cT h fun _ h=>Kc.cT h fun _ h=>Kc.i2 h rfl) (wp_law (T:=tb p) ⟨(by kernel_rfl),(by kernel_rfl),(by kernel_rfl),(by kernel_rfl),(by kernel_rfl),(by kernel_rfl),(by kernel_rfl),(by kernel_rfl),(by kernel_rfl)⟩))
end K34
open PySem PySem.W PyProof.Rows
set_option maxRecDepth 100000 in
set_option maxHeartbeats 0 in
theorem PySem.Challenge.cw_copykin_k34_whole_any_order_holds : PySem.Challenge.rw_copykin_k34_whole_any_order.Holds := by
 w_on;o_law
 refine PySem.W.holds_open (q:=K34.vw) (loose:=K34.loo) (Xt:=K34.xt)
  (XP:=PySem.W.XL K34.vw []) (Yf:=Av (jN K34.zI K34.zJ (fun _=>by kernel_rfl) [103])) (Ya:=Au (jN K34.zI K34.zJ (fun _=>by kernel_rfl) [103]))
  (YP:=PySem.W.Hook.says (jN K34.zI K34.zJ (fun _=>by kernel_rfl) [103])) (N:=3196) (fun w=>K34.both (K34.leftA w) (K34.leftB w)) (PySem.W.Hook.of _) (PySem.W.Hook.keeps _)
  (fun s e=>PySem.W.xl_of s (E1.mp e).1) PySem.W.XL.keeps
  (by rfl) (by rfl) (by rfl)
  (fun s e=>PySem.W.recFacts_of (E1.mp e).2) rfl (by assumption) (by decide+kernel)
  ⟨rfl,rfl,rfl,rfl,rfl,by decide+kernel⟩ ?hw ?hc
 (case hw=>w_witness2)
 k_fill
 refine Lm.E9 (l:=PySem.Challenge.rw_copykin_k34_whole_any_order) (n:=63) (k:=26) (x:="_law_script") (CX:=L2.CX0) (sp:=fun K=>fun vs H Q _=>K34.Fz K (K34.tb 103) vs H Q L2.E0) (tabs:=[103]) rfl (by decide) rfl ⟨rfl,by decide,by decide⟩ (fun w h Y=>IH Y) ?T ?F (fun K H a ns hl ht hS=>⟨a,ns,rfl,hS,hl,.inl (ht 103 (aC.mpr rfl)),fun _=>rfl⟩) (fun _ _ _ _ z=>z)
 case T=>
  intro w s₀ mg mb h G Y p hp;obtain rfl:=aC.mp hp;have KX:=IH Y;have T:=PySem.W.km_tabs_of Y 103 (aC.mpr rfl);have F:∃c,K34.yk (L2.KOf KX) "table_list" (K34.top 16) c 103:=by
   dsimp only[L2.KOf];refine' K34.vJ ?ta ?tl ?tk ?tq ?th;(case ta=>k_is);(case tl=>k_is);(case tk=>k_is);(case tq=>k_is);(case th=>first |k_is|kernel_rfl)
  obtain⟨c,_,_,_,_,_,_,_,_,_,_,_,_,_,q⟩:=F;exact⟨T,((Dj KX q).tab T).isCodeTable,by kernel_rfl⟩
 case F=>
  intro w mg fa h KX G hmg;refine' K34.all_mk (p:=103) KX G hmg ?v1 ?v2 ?v3 ?v4 ?v5 ?v6 ?xc ?kd0 ?bl ?h9 ?h10 ?h11 ?h12 ?h13 ?h14 ?h15 ?h17 ?h20 ?h21 ?h22 ?h24 ?h25 ?h26 ?h27 ?h29 ?h31 ?h32 ?h33 ?h34 ?h35 ?h36 ?h37 ?h38 ?h16 ?h39
  (case v1=>k_is);(case v2=>k_is);(case v3=>k_is);(case v4=>k_is);(case v5=>k_is);(case v6=>k_is)
  (case xc=>refine'⟨?x1,?x2⟩;(case x1=>k_is);(case x2=>k_exc))
  (case kd0=>refine' K34.Hb ?l ?l0 ?l1 ?l2 ?l3;(case l=>k_is);(case l0=>k_is);(case l1=>k_is);(case l2=>k_is);(case l3=>k_is))
  (case bl=>
   intro x hx;simp only[R.i4,aB,dy,or_false]at hx;rcases hx with rfl|rfl|rfl|rfl|rfl|rfl|rfl|rfl|rfl|rfl|rfl|rfl|rfl|rfl|rfl|rfl|rfl|rfl|rfl<;>k_is)
  (case h16=>refine' K34.vJ ?ua ?ul ?uk ?uq ?uh;(case ua=>k_is);(case ul=>k_is);(case uk=>k_is);(case uq=>k_is);(case uh=>first |k_is|kernel_rfl))
  all_goals(refine' R.Ht ?a ?l ?c ?k;(case a=>k_is);(case l=>k_is);(case c=>k_is);(case k=>k_is))
