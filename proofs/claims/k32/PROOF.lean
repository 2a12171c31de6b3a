import PyProof.Rows.All
import Wide.All
import OpenK.AllK
import Wide.FinOn
import Lean
import PyProof.EqAt
import PyProof.EqKinds
import PyProof.TupleCall
import PyProof.NeKinds
import PySem.Challenge.RW_copykin_k32_node_of_a_copy
open Array renaming length_toList → bX, getElem?_eq_some_iff → ck, perm_iff_toList_perm → gc, getElem?_toList → iD, mem_toList_iff → i4, getElem?_setIfInBounds_self_of_lt → m8, find?_toList → pY, ext' → xT, forIn_toList → Ic
open Bool renaming and_eq_true → ah, false_ne_true → aq, false_eq_true → aI, or_eq_true → cD, false_and → cQ, and_false → dQ, true_and → eA, not_true → eB, eq_iff_iff → js, and_eq_true_iff → nS, beq_eq_decide_eq → En
open Classical renaming byContradiction → tT
open False renaming elim → gb
open ForInStep renaming yield → gv
open Int renaming toNat_natCast → aR, emod_nonneg → bw, emod_lt_of_pos → bL, eq_ofNat_of_zero_le → cN, zero_add → dD, fdiv_eq_ediv_of_nonneg → zE
open Lean.Name renaming str → cb, anonymous → zO
open List renaming getElem?_eq_getElem → ag, getD_eq_getElem?_getD → aj, length_map → ao, size_toArray → ay, range → az, mem_cons → aC, getElem?_map → aF, getElem?_eq_some_iff → aM, mem_cons_of_mem → aN, mem_singleton → aO, lookup_cons → aP, mem_cons_self → aS, mem_of_getElem? → aU, mem_map → aV, mem_append_right → aZ, getElem_mem → bq, map_cons → bB, mem_iff_getElem? → bH, length_cons → bJ, all_eq_true → bK, map_congr_left → bP, length_eq_zero_iff → bW, mem_range → cC, any_eq_true → cE, getElem?_range → cG, length_range → cJ, lookup → cP, nodup_cons → cS, ext_getElem → cU, length_pos_iff → cX, getElem?_eq_none → dc, map_append → de, length_append → di, not_mem_nil → dj, length_take → dk, nodup_append → dA, map_map → dB, getElem_map → dJ, toArray → dN, mem_append_left → dP, take_add_one → dU, mem_append → dW, getElem?_append_right → eE, mem_filter → eO, foldl_cons → eP, mem_iff_getElem → eQ, take_length → fj, getElem_inj → fk, length → fz, take_of_length_le → fE, getElem?_append_left → gB, find?_cons → gT, replicate → iq, length_nil → jr, map_nil → jM, zip_cons_cons → j8, nodup_nil → j9, getElem?_drop → kb, filter_append → kc, pairwise_iff_getElem → kH, pairwise_map → kX, ext_getElem? → kY, getElem?_take_of_lt → lq, any_cons → lr, length_singleton → m7, getElem?_set_ne → nO, toList_toArray → pd, mem_map_of_mem → pf, filter_sublist → ph, filterMap_cons → pj, set_cons_zero → qv, set_cons_succ → qw, lookup_append → qx, find?_eq_none → qz, take_sublist → qX, append_assoc → qY, eraseIdx_eq_take_drop_succ → tO, eraseIdxIfInBounds_toArray → tP, cons_append → tS, of_mem_zip → vI, append_nil → vJ, length_eraseIdx_of_lt → xW, forIn_nil → xX, all_cons → zN, pairwise_lt_range → Cu, getElem?_set_self → Cv, any_map → Cw, mem_of_mem_take → Es, mem_erase_of_ne → Et
open List.Pairwise renaming nil → i7
open List.Perm renaming refl → d4, swap → tQ
open Nat renaming le_refl → aw, ne_of_lt → aD, lt_of_lt_of_le → aW, le_trans → aX, lt_succ_of_lt → bo, zero_le → bA, lt_succ_self → bZ, lt_of_le_of_lt → cy, ne_of_gt → cV, le_succ → cZ, le_add_right → dq, lt_irrefl → eD, lt_trans → fJ, not_lt_zero → fS, le_of_not_lt → gA, not_lt → gX, le_succ_of_le → iB, le_of_lt → j6, zero_add → tN, le_antisymm → xP, min_self → El, le_of_eq → Em
open Nat.succ renaming inj → pb
open Ne renaming symm → bz
open Option renaming isSome_iff_exists → cg, bind_some → eX, isSome_some → fw, map_some → i6, map_eq_some_iff → lC, getD_none → qW, isSome_none → Er
open Option.some renaming inj → aY, injEq → jq
open Prod renaming fst → nN
open PyProof.Rows renaming IntsAre → bV, callWith_type1 → cA, listUpdate_at → fo, callWith_builtin1 → gV, boot_list → j7, AllBare → mE, subscriptTail_builtinR → o4, get?_update_seq → o8, seqEpoch_at → qL, boot_tuple → tM, tupleItemsOf_ → tR, boot_int → uB, StrsAre → xK, entry_list_sort → Bi, slot_list_sort → Ed, size_push' → Ee, subscriptTail → HN, sortedAll_old → HP
open PyProof.Rows.F renaming plain_set_update_loop → fM, entry_set_update_loop → ll
open PySem renaming wpAny_bind → aa, wpAny_pure → ai, starEach → aK, mem_of_lookup → bf, mainGlobals → bg, wpAny_holding → bh, SetTable → bG, wpAny_newObj_type → bU, cellsFrom → cq, wpAny_call_entry → cK, wpAny_mono → cL, wpAny_truthy_bool → cO, codeAny_builtin → cW, compareOp → cY, wpAny_setField_rec → dw, wpAny_askSetting → dy, plainId_quiet → dE, wpAny_setState_of → dF, Fin → dI, NameKind → dO, sysModules → dR, wpAny_seqItems → dY, wpAny_callSpecial?_slot → d9, wpAny_Call_Name_kw → eM, binaryOp → eN, bootBuiltins → fg, FuncData → fh, codeAny → fC, wpAny_tryCatch → fG, scanBound → fH, wpAny_letGo → fT, wpAny_rule → fV, wpAny_pyIter_tuple → fW, wpAny_standAt → gd, wpAny_field → gF, wpAny_call → gG, strIterType → gH, codeAny_call_builtin → gJ, assignEach → gK, pickOrder → gR, wpAny_attempt → hZ, wpAny_updateSeq → ip, excClassObj → iC, wpAny_pyIter_list → iV, wpAny_loadPart_at → iW, recursionLimit → iX, foldedSetIterable → iZ, codeAny_mono → i3, wpAny_isInstance → jv, wpAny_eqBool_int → jw, seqItems? → jx, Within → jy, sliceBounds → jZ, sizeLine_eq → j4, wpAny_passesOwn → kD, wpAny_richCompare_same_room → kU, noteFrame → lj, setsByText → lz, builtinsNs → lA, wpAny_of_eq → my, keywordEach → mz, fits_of_scanBound → mB, atKey_none_of_get → mC, wpAny_newList → mG, tupleKind → nG, swapsWith → nH, relayAll → nJ, bindArgs → nK, GenState → nM, letOwnedTupleGo → o7, wpAny_setField → qI, setField → qJ, seqIndex_of → qK, firstArgMember → qM, isInstance → uy, wpAny_typeOf → xE, standAt → xF, backToKw → xI, setFlight → zy, onTheHeap → zz, noFill_tuple_add → zA, checkBuiltinCall → zB, richCompare → zH, codeAny_of_tree → Bj, callerA → Cn, UnaryOp → Co, wpAny_loadPart → Eb, wpAny_Name → Ec, raiseNew → Ef, isSubtype_type → Eg, dictSetDefault → Eh, closureFor → Ei, call_meets → Ej, swapsWithSole → HM, seq_tuple_add → HQ, behindInMarks → HR, attributeBase → HS
open PySem.Around renaming under_plainId → bY, under → zQ
open PySem.AutoSeq1 renaming wpAny_loadPart' → kg
open PySem.Builtin renaming bitAnd → gY, bitXor → jB
open PySem.Builtin.Builtins renaming bindParams → eW
open PySem.Builtin.List renaming listTouch → ke, listLengthHint → pW, listExtendWith → pX
open PySem.Builtin.Range renaming rangeSize → rg
open PySem.Builtin.SmallTypes renaming nextOf → fq
open PySem.Builtin.Str renaming occurrences → gw, strSliceIndices → qB
open PySem.Builtin.Tuple renaming tupleCompareSizes → eF
open PySem.Calls renaming call_function_entry → kF, spliced_cons → pV, Name_function_global → xS
open PySem.Code renaming quiet_builtin → qA, isFrame → Cy
open PySem.EntryCells renaming newEntry → zG
open PySem.F renaming plain_min_loop → fA, plain_max_loop → fB, attrBase_ValueError → fL, slot_tuple_iterator_next → gC, excBase_ValueError → jA, args_tuple_add_2 → kE, entry_tuple_add → kW, slot_tuple_add → lB, slot_tuple_lt → nR, slot_dict_setdefault → tL, entry_min_loop → xQ, entry_max_loop → xR, plainAttrs_list → xV, args_tuple_iterator_next_1 → zF, entry_bexc_ga → zM, entry_tuple_iterator_next → zP
open PySem.Heap renaming get?_push_of_some → af, get?_push_size → au, lt_size → av, get?_update_other → aB, get?_update_self → bu, size_push → bS, SameBut → dg, size_update → lD, get?_none_of_le → nP, MadeExcOf → nQ
open PySem.Heap.SameBut renaming update → bN
open PySem.IsL renaming update → Ek
open PySem.Moved renaming trans → nL
open PySem.NameKind renaming free → bT, cell → cM
open PySem.Obj renaming mapSeq → aT, data_mapFields → eK, mapFields → eV, isFreed_of_fields → iQ, data_mapDictKeys → Ib
open PySem.Paired renaming length → kG
open PySem.PassesOwn renaming leaving → Ct
open PySem.PyData renaming keyHash → ak
open PySem.SeqAt.EqAt renaming str_int → zI, int_str → zJ
open PySem.SetTable renaming below → cu, grown → eU, insertAt → o9, has → xU, orStandIn → Cq, relaid → HV
open PySem.SetTable.below renaming go → xM
open PySem.SetTable.probe renaming go → mD
open PySem.Str renaming ofString → aQ
open PySem.Value renaming ref → bp, none → bI, int → fK, builtin → gL, type → gS, str → gU, bool → xJ
open PySem.W renaming Frag → ae, fnOf → aH, kitOne → cj, keepIn → cw, mg_of → cB, nsIn → cF, kia_one → da, kas_sort → dz, codeIn → ek, findIn → gW, kas_descPart → iY, kmHook → jz, looks_findIn → o5, callWith_K → o6, specialIn → pT, methodObj → pU, findObj → qV, instObj → tK, lookIn → uA, kas_rev → xH, mroIn → xN, cellsFrom_some → zD, looks_clsIn → Cr, codeHd_of_K → Cs, kitx_list → Eo, kitx_dict → Ep, plainGet → HW, openEnds → HY, km_in_of → HZ, codeHdIn → Ia
open PySem.W.Hook renaming val → zK, obs → zL
open PySem.W.KasT renaming ret → qZ
open PySem.W.Looks renaming here → xO
open PySem.Walks renaming list → HU
open PySem.Within renaming cons → zC
open PySem.pickOrder renaming go → xG
open Sum renaming inr → eS, inl → eT
set_option genSizeOf false
set_option Elab.async false
set_option linter.all false
set_option maxRecDepth 100000
set_option maxHeartbeats 0
namespace K32
open PySem PySem.Spec PySem.Calls PyProof.Rows
noncomputable def top(i:Nat):Stmt:=PySem.Challenge.pw_copykin_k32_node_of_a_copy.main.body.getD i (.Pass ⟨0,0,0,0⟩)
noncomputable def iK(i j:Nat):Stmt:=match top i with
 |.ClassDef _ _ _ b .. =>b.getD j (.Pass ⟨0,0,0,0⟩)
 |s=>s
noncomputable def vw:Program:=
 {PySem.Challenge.pw_copykin_k32_node_of_a_copy with main:={PySem.Challenge.pw_copykin_k32_node_of_a_copy.main with body:=[top 1,top 2,top 3,top 4,top 5,top 6,top 8,top 9,top 10,top 11,top 12,top 13,top 14,top 15,top 16,top 17,top 18,top 19,top 20,top 21,top 23,top 24,top 25,top 26,top 28,top 29,top 30,top 31,top 32,top 34,top 35,top 36,top 37,top 38,top 39,top 40,top 41,top 42,top 43]}}
noncomputable def loo:List Str:=[]
noncomputable def xt(s:Shared):Bool:=PySem.W.xlAt vw [] s&&PySem.W.recOk [] s
noncomputable def lhsA(w:World):=(HY treeTable PySem.Challenge.pw_copykin_k32_node_of_a_copy w 4524).map
 (PySem.W.openSeen vw loo (importedModules PySem.Challenge.pw_copykin_k32_node_of_a_copy.main.body) xt true)
noncomputable def rhsA(_:World):=some (PySem.W.openGood vw loo)
noncomputable def seen{α:Type}(_:α):Bool:=true
theorem laidA:(seen lhsA&&seen rhsA)=true:=by k_qdec
theorem leftA(w:World):lhsA w=rhsA w:=by
 have _:=laidA;rw[PySem.W.Fast.te17491150461225351056,PySem.W.Fast.te4322590870182362684]
 kernel_rfl
theorem both{α β γ:Type}{o:Option α}{f:α->β}{g:α->γ}{a:β}{b:γ}(h:o.map f=some a)(k:o.map g=some b):(o.map fun s=>(f s,g s))=some (a,b):=by
 cases o with
 |none=>cases h
 |some x=>
  injection h with h;injection k with k;rw[<-h,<-k];rfl
end K32
namespace L2
open PySem PySem.Spec PyProof.Rows
noncomputable abbrev Key:=Sum Int Str
noncomputable def sy:Key->Value->Bool
 |.inl k,v=>Value.isInt k v
 |.inr x,v=>Value.isStrOf x v
noncomputable def keyH(w:World):Key->Int
 |.inl k=>hashInt k
 |.inr x=>hashStr w x
theorem eI:∀{k:Key}{v:Value},sy k v=true->(∃i t,k=eT i/\v=fK i t)\/(∃x t,k=eS x/\v=gU x t)
 |.inl i,v,h=>by
  obtain⟨t,e⟩:=Value.isInt_shape (k:=i) (v:=v) h;exact .inl ⟨i,t,rfl,e⟩
 |.inr x,v,h=>by
  obtain⟨t,e⟩:=Value.isStrOf_shape (x:=x) (v:=v) h;exact .inr ⟨x,t,rfl,e⟩
theorem DE(i:Int)(t:Tok):sy (.inl i) (.int i t)=true:=by simp[sy,Value.isInt]
theorem DD(x:Str)(t:Tok):sy (.inr x) (.str x t)=true:=by simp[sy,Value.isStrOf]
theorem key_ll(a b:Int):decide ((eT a:Key)=eT b)=(a==b):=by
 by_cases e:a=b
 ·subst e;simp
 ·have h:¬(eT a:Key)=eT b:=fun q=>e (eT.inj q)
  rw[decide_eq_false h];exact(beq_eq_false_iff_ne.mpr e).symm
theorem key_rr(a b:Str):decide ((eS a:Key)=eS b)=decide (a=b):=by
 by_cases e:a=b
 ·subst e;simp
 ·have h:¬(eS a:Key)=eS b:=fun q=>e (eS.inj q)
  rw[decide_eq_false h,decide_eq_false e]
theorem key_lr(a:Int)(b:Str):decide ((eT a:Key)=eS b)=false:=decide_eq_false (fun q=>nomatch q)
theorem key_rl(a:Str)(b:Int):decide ((eS a:Key)=eT b)=false:=decide_eq_false (fun q=>nomatch q)
noncomputable def bR(prog:Program)(w:World):PySem.KeyKind prog w Key where
 is:=sy
 hash:=keyH w
 inj:=fun v a b ha hb=>by
  rcases eI ha with⟨i,t,rfl,rfl⟩ |⟨x,t,rfl,rfl⟩
  ·rcases eI hb with⟨j,u,rfl,e⟩ |⟨y,u,rfl,e⟩
   ·injection e with e1 _;rw[e1]
   ·exact nomatch e
  ·rcases eI hb with⟨j,u,rfl,e⟩ |⟨y,u,rfl,e⟩
   ·exact nomatch e
   ·injection e with e1 _;rw[e1]
 byValue:=fun k v h=>by
  rcases eI h with⟨i,t,rfl,rfl⟩ |⟨x,t,rfl,rfl⟩<;>rfl
 pyHash:=fun hv h=>by
  rcases eI hv with⟨i,t,rfl,rfl⟩ |⟨x,t,rfl,rfl⟩
  ·exact wpAny_pyHash_int h
  ·exact wpAny_pyHash_str h
 eqBool:=fun hu hv h=>by
  rcases eI hu with⟨i,t,rfl,rfl⟩ |⟨x,t,rfl,rfl⟩
  ·rcases eI hv with⟨j,u,rfl,rfl⟩ |⟨y,u,rfl,rfl⟩
   ·rw[key_ll]at h;exact jw h
   ·rw[key_lr]at h;exact zJ i t y u _ _ _ _ h
  ·rcases eI hv with⟨j,u,rfl,rfl⟩ |⟨y,u,rfl,rfl⟩
   ·rw[key_rl]at h;exact zI x t j u _ _ _ _ h
   ·rw[key_rr]at h;exact wpAny_eqBool_str h
 «strs»:=fun k x t v h=>by
  rcases eI h with⟨i,u,rfl,e⟩ |⟨y,u,rfl,e⟩
  ·exact nomatch e
  ·injection e with e1 _
   subst e1;cases v<;>rfl
theorem AG(prog:Program)(w:World)(k:Key)(v:Value):(bR prog w).is k v=sy k v:=rfl
theorem lL(prog:Program)(w:World)(i:Int)(t:Tok):(bR prog w).is (.inl i) (.int i t)=true:=DE i t
theorem yE(prog:Program)(w:World)(x:Str)(t:Tok):(bR prog w).is (.inr x) (.str x t)=true:=DD x t
inductive V where
 |non|bl (b:Bool) |int (i:Int) |str (x:Str) |byt (b:Array UInt8) |flt (b:UInt64) |ref (a:Addr) |ty (n:String)
 deriving DecidableEq
noncomputable def RelV:V->Value->Prop
 |.non,u=>u=bI
 |.bl b,u=>u=xJ b
 |.int i,u=>∃t,u=fK i t
 |.str x,u=>∃t,u=gU x t
 |.byt b,u=>∃t,u=Value.bytes b t
 |.flt b,u=>∃t,u=Value.float b t
 |.ref a,u=>u=bp a
 |.ty n,u=>u=gS n
noncomputable abbrev bM:List V->List Value->Prop:=Paired RelV
theorem bM.length{xs:List V}{us:List Value}(r:bM xs us):xs.length=us.length:=kG r
theorem bM.get:∀{xs:List V}{us:List Value}{i:Nat}{x:V},bM xs us->xs[i]? =some x->∃u,us[i]? =some u/\RelV x u
 |_,_,_,_,.nil,e=>by simp at e
 |_,_,0,_,.cons r _,e=>by simp at e;subst e;exact⟨_,rfl,r⟩
 |_,_,i+1,x,.cons _ t,e=>by
  obtain⟨u,h1,h2⟩:=bM.get (i:=i) (x:=x) t (by simpa using e);exact⟨u,by simpa using h1,h2⟩
theorem bM.set{x:V}{u:Value}(r:RelV x u):∀{xs:List V}{us:List Value}(i:Nat),bM xs us->bM (xs.set i x) (us.set i u)
 |_,_,_,.nil=>.nil
 |_,_,0,.cons _ t=>.cons r t
 |_,_,i+1,.cons q t=>.cons q (bM.set r i t)
theorem bM.append:∀{xs ys:List V}{us ws:List Value},bM xs us->bM ys ws->bM (xs++ys) (us++ws)
 |_,_,_,_,.nil,s=>s
 |_,_,_,_,.cons r t,s=>.cons r (bM.append t s)
theorem bM.take:∀{xs:List V}{us:List Value}(n:Nat),bM xs us->bM (xs.take n) (us.take n)
 |_,_,0,_=>.nil
 |_,_,_+1,.nil=>.nil
 |_,_,n+1,.cons r t=>.cons r (bM.take n t)
theorem bM.drop:∀{xs:List V}{us:List Value}(n:Nat),bM xs us->bM (xs.drop n) (us.drop n)
 |_,_,0,r=>r
 |_,_,_+1,.nil=>.nil
 |_,_,n+1,.cons _ t=>bM.drop n t
noncomputable def pR:Option V->Option Value->Prop
 |some v,some u=>RelV v u
 |none,none=>True
 |_,_=>False
noncomputable def KV{κ:Type}:List (κ×V)->List (κ×Value)->Prop:=Paired fun(p:κ×V)(q:κ×Value)=>p.1=q.1/\RelV p.2 q.2
noncomputable def kV:Key->V
 |.inl i=>.int i
 |.inr x=>.str x
inductive HO where
 |lst (xs:List V)
 |tup (xs:List V)
 |dK (kvs:List (Key×V)) |dT (kvs:List (List Key×V))
 |set (S:Int->Bool) (n:Nat)
 |ins (C dx:Addr) (fs:List (Str×V))
 |own (x:Addr)
 |xd (fs:List (Str×V))
 |met (f x:Addr)
 |rng (lo hi:Int)
 |frz (o:Obj) (u:HO)
 |tbl (ps:Array Value)
 |ext (φ:Heap->Prop)
noncomputable abbrev Hp:=Addr->Option HO
noncomputable def upd(H:Hp)(a:Addr)(o:HO):Hp:=fun b=>if b=a then some o else H b
theorem ax{H:Hp}{a:Addr}{o:HO}:upd H a o a=some o:=by unfold upd;rw[if_pos rfl]
theorem aL{H:Hp}{a b:Addr}{o:HO}(h:b≠a):upd H a o b=H b:=by unfold upd;rw[if_neg h]
theorem ne_of{H:Hp}{a b:Addr}{o u:HO}(h:H a=some o)(h':H b=some u)(d:o≠u):a≠b:=by
 intro e;subst e;rw[h]at h';exact d (aY h')
theorem bx{H:Hp}{a b:Addr}{o:HO}(h:H a=some o)(h':H b=none):a≠b:=by
 intro e;subst e;rw[h]at h';cases h'
section
variable(P:Program)(w:World)
noncomputable def dh(H:Hp)(h:Heap)(a:Addr):HO->Prop
 |.lst xs=>xs.length<=sizeLine/\∃(its:List Value)(n:Nat),bM xs its/\h.get? a=some {cls:=.type "list",data:=.seq its.toArray n}
 |.tup xs=>xs.length<=sizeLine/\∃its:List Value,bM xs its/\IsTup h a its.toArray
 |.dK kvs=>kvs.length<=sizeLine/\(a==dR)=false/\∃vs,KV kvs vs/\h.DictOf (bR P w) a vs
 |.dT kvs=>kvs.length<=sizeLine/\(a==dR)=false/\∃xs:List (List Key×Addr×Value),
   Paired (fun(p:List Key×V)(q:List Key×Addr×Value)=>p.1=q.1/\H q.2.1=some (.tup (p.1.map kV))/\RelV p.2 q.2.2) kvs xs/\
   ∃o es ep,h.get? a=some o/\o.ExactDict/\o.data=.dict es ep/\es.toList=xs.map (entryOfKey (nG (bR P w)))/\(xs.map (·.1)).Nodup
 |.set S n=>h.SetOf (intKind P w) a S n
 |.ins C dx fs=>H dx=some (.own a)/\fs.length<=1000/\dx≠a/\h.get? a=some (tK C dx)/\
   ∃mA,h.Ns1 dx mA/\(∀f,pR (fs.lookup f) (mA f))/\jy mA (fs.map (·.1))
 |.own _=>∃o,h.get? a=some o
 |.xd fs=>∃mA,h.Ns1 a mA/\∀f,pR (fs.lookup f) (mA f)
 |.rng lo hi=>∃t u v,h.get? a=some {cls:=.type "range",data:=.fields #[.int lo t,.int hi u,.int 1 v]}
 |.frz o u=>h.get? a=some o/\dh H h a u
 |.tbl ps=>h.get? a=some {cls:=.none,data:=.fields ps}
 |.met f x=>h.get? a=some (pU (.ref f) (.ref x))
 |.ext φ=>φ h/\(∃o,h.get? a=some o)/\∀h1 h2:Heap,φ h1->(∀o,h1.get? a=some o->h2.get? a=some o)->φ h2
noncomputable def HOk(H:Hp)(h:Heap):Prop:=∀a o,H a=some o->dh P w H h a o
end
section
variable {P:Program}{w:World}{H H':Hp}{h h':Heap}{a:Addr}{o:HO}
theorem dh.lt(x:dh P w H h a o):a<h.objs.size:=by
 cases o with
 |lst xs=>obtain⟨_,_,_,_,e⟩:=x;exact av e
 |tup xs=>obtain⟨_,_,_,p⟩:=x;exact p.lt
 |dK kvs=>obtain⟨_,_,_,_,o,_,_,e,_⟩:=x;exact av e
 |dT kvs=>obtain⟨_,_,_,_,o,_,_,e,_⟩:=x;exact av e
 |set S n=>obtain⟨o,_,_,_,e,_⟩:=x;exact av e
 |ins C dx fs=>obtain⟨_,_,_,e,_⟩:=x;exact av e
 |own y=>obtain⟨_,e⟩:=x;exact av e
 |xd fs=>obtain⟨_,⟨_,_,_,e,_⟩,_⟩:=x;exact av e
 |rng lo hi=>obtain⟨_,_,_,e⟩:=x;exact av e
 |frz ob u=>obtain⟨e,_⟩:=x;exact av e
 |tbl ps=>exact av (show h.get? a=some _ from x)
 |met f y=>exact av (show h.get? a=some _ from x)
 |ext φ=>obtain⟨_,⟨_,e⟩,_⟩:=x;exact av e
theorem Paired.Dy{α β:Type}{F G:α->β->Prop}:∀{l₁:List α}{l₂:List β},Paired F l₁ l₂->(∀a b,F a b->G a b)->Paired G l₁ l₂
 |_,_,.nil,_=>.nil
 |_,_,.cons r t,f=>.cons (f _ _ r) (Paired.Dy t f)
theorem dh.pv(x:dh P w H h a o)(k:∀b u,(b=a\/H b=some (.own a))->h.get? b=some u->h'.get? b=some u)
  (ho:∀b,H b=some (.own a)->H' b=some (.own a))(ht:∀b xs,H b=some (.tup xs)->H' b=some (.tup xs)):dh P w H' h' a o:=by
 induction o with
 |lst xs=>obtain⟨z,its,n,r,e⟩:=x;exact⟨z,its,n,r,k _ _ (.inl rfl) e⟩
 |tup xs=>obtain⟨z,its,r,ob,e,c⟩:=x;exact⟨z,its,r,ob,k _ _ (.inl rfl) e,c⟩
 |dK kvs=>obtain⟨z,y,vs,r,ob,es,ep,e,c⟩:=x;exact⟨z,y,vs,r,ob,es,ep,k _ _ (.inl rfl) e,c⟩
 |dT kvs=>
  obtain⟨z,y,xs,r,ob,es,ep,e,c⟩:=x;exact⟨z,y,xs,Paired.Dy r fun p q z=>⟨z.1,ht _ _ z.2.1,z.2.2⟩,ob,es,ep,k _ _ (.inl rfl) e,c⟩
 |set S n=>obtain⟨ob,es,ep,t,e,c⟩:=x;exact⟨ob,es,ep,t,k _ _ (.inl rfl) e,c⟩
 |ins C dx fs=>
  obtain⟨d,z,ne,e,mA,⟨od,es,ep,e2,c⟩,r⟩:=x;exact⟨ho _ d,z,ne,k _ _ (.inl rfl) e,mA,⟨od,es,ep,k _ _ (.inr d) e2,c⟩,r⟩
 |own y=>obtain⟨ob,e⟩:=x;exact⟨ob,k _ _ (.inl rfl) e⟩
 |xd fs=>obtain⟨mA,⟨od,es,ep,e,c⟩,r⟩:=x;exact⟨mA,⟨od,es,ep,k _ _ (.inl rfl) e,c⟩,r⟩
 |rng lo hi=>obtain⟨t,u,v,e⟩:=x;exact⟨t,u,v,k _ _ (.inl rfl) e⟩
 |frz ob u ih=>obtain⟨e,q⟩:=x;exact⟨k _ _ (.inl rfl) e,ih q⟩
 |tbl ps=>
  have e:h.get? a=some {cls:=.none,data:=.fields ps}:=x;show h'.get? a=some {cls:=.none,data:=.fields ps};exact k a _ (.inl rfl) e
 |met f y=>
  have e:h.get? a=some (pU (.ref f) (.ref y)):=x;show h'.get? a=some (pU (.ref f) (.ref y));exact k a _ (.inl rfl) e
 |ext φ=>obtain⟨p,⟨o,e⟩,st⟩:=x;exact⟨st _ _ p fun o q=>k _ _ (.inl rfl) q,⟨o,k _ _ (.inl rfl) e⟩,st⟩
theorem HOk.lt(x:HOk P w H h)(e:H a=some o):a<h.objs.size:=(x a o e).lt
theorem HOk.fresh(x:HOk P w H h)(e:h.objs.size<=a):H a=none:=by
 cases q:H a with
 |none=>rfl
 |some u=>exact absurd (aW (x.lt q) e) (eD _)
theorem HOk.kept(x:HOk P w H h)(k:∀b u,h.get? b=some u->h'.get? b=some u):HOk P w H h':=fun a o e=>
 (x a o e).pv (fun b u _ q=>k b u q) (fun _ q=>q) fun _ _ q=>q
theorem HOk.laid(x:HOk P w H h)(k:∀b u,h.get? b=some u->h'.get? b=some u)(hp:h.objs.size<=a)(new:dh P w (upd H a o) h' a o):HOk P w (upd H a o) h':=fun b u e=>by
 have hn:=x.fresh hp;by_cases hb:b=a
 ·subst hb;rw[ax]at e;cases e;exact new
 ·rw[aL hb]at e
  exact(x b u e).pv (fun c v _ q=>k c v q) (fun c q=>by rw[aL (bx q hn)];exact q) fun c xs q=>by rw[aL (bx q hn)];exact q
end
noncomputable def Rd(H:Hp)(a:Addr)(u:HO):Prop:=H a=some u\/∃o,H a=some (.frz o u)
theorem Rd.ok{P:Program}{w:World}{H:Hp}{h:Heap}{a:Addr}{u:HO}(r:Rd H a u)(x:HOk P w H h):dh P w H h a u:=by
 rcases r with r|⟨o,r⟩
 ·exact x a u r
 ·obtain⟨_,q⟩:=x a _ r
  exact q
noncomputable def Mut:Option HO->Prop
 |some (.lst _)=>True
 |some (.dK _)=>True
 |some (.dT _)=>True
 |some (.set _ _)=>True
 |some (.ins _ _ _)=>True
 |some (.ext _)=>True
 |_=>False
section
variable {P:Program}{w:World}{H:Hp}{h h':Heap}{x e:Addr}{o':HO}
theorem HOk.write(ok:HOk P w H h)(mu:Mut (H x))(he:e=x\/H e=some (.own x))(k:∀b u,b≠e->h.get? b=some u->h'.get? b=some u)(heo:∃u,h'.get? e=some u)
  (new:dh P w (upd H x o') h' x o'):HOk P w (upd H x o') h':=fun b u q=>by
 have nown:∀c y,H c=some (.own y)->c≠x:=fun c y r z=>by subst z;rw[r]at mu;exact mu
 have ntup:∀c xs,H c=some (.tup xs)->c≠x:=fun c xs r z=>by subst z;rw[r]at mu;exact mu
 by_cases hb:b=x
 ·subst hb;rw[ax]at q;cases q;exact new
 ·rw[aL hb]at q
  by_cases hbe:b=e
  ·have q':H b=some (.own x):=by
    rcases he with z|z
    ·exact absurd (hbe.trans z) hb
    ·rw[hbe];exact z
   rw[q]at q';cases q';obtain⟨v,hv⟩:=heo;exact⟨v,by rw[hbe];exact hv⟩
  ·refine(ok b u q).pv (fun c v hc r=>k c v ?_ r) (fun c r=>by rw[aL (nown c b r)];exact r) fun c xs r=>by rw[aL (ntup c xs r)];exact r
   rcases hc with rfl|hc
   ·exact hbe
   ·rintro rfl
    rcases he with z|z
    ·exact nown c b hc z
    ·rw[hc]at z;cases z;exact hb rfl
end
structure Un(fs ex:List Addr)(H H':Hp)(h h':Heap):Prop where
 keep:∀b o,h.get? b=some o->H b=none->b∉fs->b∉ex->h'.get? b=some o
 slot:∀b o,h.get? b=some o->H b=none->b∈fs->b∉ex->∃sl,h'.get? b=some {o with slots:=sl}
 free:∀b o,h.get? b=some o->H b=none->b∉ex->H' b=none
 there:∀b o,h.get? b=some o->b∉ex->∃o',h'.get? b=some o'
 tups:∀b xs,H b=some (.tup xs)->H' b=some (.tup xs)
 frzs:∀b o u,H b=some (.frz o u)->H' b=some (.frz o u)
 tbls:∀b ps,H b=some (.tbl ps)->∃more,H' b=some (.tbl (ps++more))
section
variable {fs fs' ex ex':List Addr}{H H1 H2:Hp}{h h1 h2 h':Heap}{a x e:Addr}{o:HO}
theorem Un.any(u:Un fs ex H H1 h h1){b:Addr}{ob:Obj}(q:h.get? b=some ob)(n:H b=none)(hx:b∉ex):∃sl,h1.get? b=some {ob with slots:=sl}:=by
 by_cases hb:b∈fs
 ·exact u.slot b ob q n hb hx
 ·exact⟨ob.slots,u.keep b ob q n hb hx⟩
theorem Un.kept(k:∀b u,h.get? b=some u->h'.get? b=some u):Un fs ex H H h h':=
 ⟨fun b ob q _ _ _=>k b ob q,fun b ob q _ _ _=>⟨ob.slots,k b ob q⟩,fun _ _ _ n _=>n,fun b ob q _=>⟨ob,k b ob q⟩,fun _ _ q=>q,fun _ _ _ q=>q,fun _ ps q=>⟨#[],by rw[q];simp⟩⟩
theorem Un.refl:Un fs ex H H h h:=Un.kept fun _ _ q=>q
theorem Un.laid(k:∀b u,h.get? b=some u->h'.get? b=some u)(hp:h.objs.size<=a)(hn:H a=none):Un fs ex H (upd H a o) h h' where
 keep:=fun b u q _ _ _=>k b u q
 slot:=fun b u q _ _ _=>⟨u.slots,k b u q⟩
 free:=fun b u q n _=>by rw[aL (aD (aW (av q) hp))];exact n
 there:=fun b u q _=>⟨u,k b u q⟩
 tups:=fun b xs q=>by rw[aL (bx q hn)];exact q
 frzs:=fun b u xs q=>by rw[aL (bx q hn)];exact q
 tbls:=fun b ps q=>⟨#[],by rw[aL (bx q hn),q];simp⟩
theorem Un.write(mu:Mut (H x))(he:e=x\/H e=some (.own x))(k:∀b u,b≠e->h.get? b=some u->h'.get? b=some u)(heo:∃u,h'.get? e=some u):Un fs ex H (upd H x o) h h':=by
 have hx:∀b,H b=none->b≠x:=fun b n z=>by subst z;rw[n]at mu;exact mu
 have hb:∀b,H b=none->b≠e:=fun b n z=>by
  subst z;rcases he with r|r
  ·exact hx b n r
  ·rw[n]at r;cases r
 have hm:∀b u,H b=some u->¬Mut (some u)->b≠x:=fun b u q nm z=>by subst z;rw[q]at mu;exact nm mu
 refine⟨fun b u q n _ _=>k b u (hb b n) q,fun b u q n _ _=>⟨u.slots,k b u (hb b n) q⟩,fun b u q n _=>by rw[aL (hx b n)];exact n,fun b u q _=>?_,
  fun b xs q=>by rw[aL (hm b _ q fun z=>z)];exact q,fun b u xs q=>by rw[aL (hm b _ q fun z=>z)];exact q,fun b ps q=>⟨#[],by rw[aL (hm b _ q fun z=>z),q];simp⟩⟩
 by_cases hbe:b=e
 ·subst hbe;exact heo
 ·exact⟨u,k b u hbe q⟩
end
noncomputable def trk(h:Heap)(H:Hp):List Addr:=(az h.objs.size).filter fun a=>(H a).isSome
noncomputable def yS(h:Heap)(H:Hp):Heap:=PySem.W.hideAll h (trk h H)
theorem DK(h:Heap)(H:Hp):(yS h H).objs.size=h.objs.size:=PySem.W.hideAll_size _ _
theorem sC{h:Heap}{H:Hp}{b:Addr}{o:Obj}(e:h.get? b=some o)(n:H b=none):(yS h H).get? b=some o:=
 PySem.W.hideAll_get _ e fun hm=>by
  have q:(H b).isSome=true:=(eO.mp hm).2;rw[n]at q;simp at q
theorem of_hidT{h:Heap}{H:Hp}{b:Addr}{o:Obj}(e:(yS h H).get? b=some o):h.get? b=some o/\H b=none:=by
 have e':h.get? b=some o:=PySem.W.of_hideAll (trk h H) e;refine⟨e',?_⟩;cases q:H b with
 |none=>rfl
 |some x=>
  have hm:b∈trk h H:=eO.mpr ⟨cC.mpr (av e'),by simp[q]⟩;have z:(yS h H).get? b=none:=PySem.W.hideAll_none (trk h H) hm;rw[z]at e;cases e
structure Mod(K:ae)(mg:Str->Option Value)(base:Heap):Prop where
 kin:K.In base
 glob:base.Ns bg mg
 blt:∃mb,base.Ns lA mb/\∀x:Str,x≠"__name__"->mb x=fg x
 nolimit:base.NoLimit
structure Cx where
 prog:Program
 w:World
 K:ae
 mg:Str->Option Value
 base:Heap
 A:Around
 N:List Str
 s₀:Shared
 H₀:Hp
 env:Env
 outer:List Env
 stack:List Env
 ex:List Addr
 fn:Str->Bool
 calm:Bool
 pn:List (Addr×Obj)
 xe:Value->Shared->Prop
noncomputable def frs(l:List Env):List Addr:=l.filterMap (·.frame)
noncomputable abbrev Cx.fs(X:Cx):List Addr:=frs X.outer
noncomputable def Vis(sc:Scope)(x:Str):Prop:=sc.names.lookup x=some .local \/sc.names.lookup x=some .cell\/sc.names.lookup x=some .free
noncomputable def Loc(sc:Scope)(x:Str):Prop:=sc.names.lookup x=some .local \/sc.names.lookup x=some .cell
noncomputable def Look(env:Env)(h:Heap)(m:Str->Option Value)(x:Str)(u:Value):Prop:=
 (env.kindOf x=some .local /\m x=some u)\/((env.kindOf x=some .cell\/env.kindOf x=some .free)/\∃c,env.cells.lookup x=some c/\h.IsCell c (some u))
structure Cx.Ok(X:Cx):Prop where
 mod:Mod X.K X.mg X.base
 kind:X.env.scope.kind=.function
 glob:X.env.globals=bg
 blt:X.env.builtins=lA
 above:X.s₀.heap.objs.size<=X.env.locals
 inj:∀x y c,X.env.cells.lookup x=some c->X.env.cells.lookup y=some c->x=y
 has:∀x,(X.env.kindOf x=some .cell\/X.env.kindOf x=some .free)->∃c,X.env.cells.lookup x=some c
 cab:∀x c,X.fn x=true->X.env.cells.lookup x=some c->X.s₀.heap.objs.size<=c
 hd:X.calm=true->X.A.handled=none
 frames:X.A.frames=some X.stack
 stk:X.stack=X.outer\/(X.stack=X.env::X.outer/\X.env.frame=some X.env.locals)
 exf:∀b∈X.ex,b≠X.env.locals/\∀x c,X.env.cells.lookup x=some c->c≠b
 bs:∀b o,X.base.get? b=some o->X.s₀.heap.get? b=some o/\X.H₀ b=none
 bsz:X.base.objs.size<=X.s₀.heap.objs.size
 noex:∀b o,X.base.get? b=some o->b∉X.ex
 exfs:∀b∈X.ex,b∉X.fs
 sH:X.s₀.heap.FunFrames X.base X.outer
 frf:∀b∈X.fs,X.H₀ b=none
structure Inv(X:Cx)(pins:List (Addr×Obj))(σ:List (Option V))(H:Hp)(s:Shared):Prop where
 ok:X.Ok
 os:s.os=X.s₀.os
 bare:mE s.gens
 base:Un X.fs X.ex X.H₀ H X.s₀.heap s.heap
 loc:∃m,s.heap.Ns X.env.locals m/\∀(i:Nat)(x:Str)(v:V),X.N[i]? =some x->σ[i]? =some (some v)->Vis X.env.scope x->∃u,RelV v u/\Look X.env s.heap m x u
 cell:∀x c,X.env.cells.lookup x=some c->∃v,s.heap.IsCell c v
 free:H X.env.locals=none
 freeC:∀x c,X.env.cells.lookup x=some c->H c=none
 pin:∀p∈X.pn++pins,s.heap.get? p.1=some p.2/\H p.1=none/\p.1≠X.env.locals/\p.1∉X.fs/\∀v,p.2.data≠.cell v
 hok:HOk X.prog X.w H s.heap
 len:σ.length=X.N.length
section
variable {X:Cx}{pins:List (Addr×Obj)}{σ:List (Option V)}{H H':Hp}{s:Shared}{h':Heap}
theorem Cx.Ok.nofr(ok:X.Ok){b:Addr}{o:Obj}(e:X.base.get? b=some o):b∉X.fs:=fun hb=>by
 have :=(ok.sH.mem hb).1
 rw[e]at this;cases this
theorem Inv.bs(I:Inv X pins σ H s):∀b o,X.base.get? b=some o->s.heap.get? b=some o/\H b=none:=fun b o e=>
 ⟨I.base.keep b o (I.ok.bs b o e).1 (I.ok.bs b o e).2 (I.ok.nofr e) (I.ok.noex b o e),I.base.free b o (I.ok.bs b o e).1 (I.ok.bs b o e).2 (I.ok.noex b o e)⟩
theorem Inv.bk(I:Inv X pins σ H s):∀b o,X.base.get? b=some o->s.heap.get? b=some o:=fun b o e=>(I.bs b o e).1
theorem Inv.mod(I:Inv X pins σ H s):Mod X.K X.mg X.base:=I.ok.mod
theorem Inv.kIn(I:Inv X pins σ H s):X.K.In s.heap:=I.ok.mod.kin.keeps I.bk
theorem Inv.nolimit(I:Inv X pins σ H s):s.heap.NoLimit:=I.ok.mod.nolimit.keeps I.bk
theorem Inv.lt(I:Inv X pins σ H s):X.env.locals<s.heap.objs.size:=let⟨_,hn,_⟩:=I.loc;hn.lt
theorem Inv.sz(I:Inv X pins σ H s):X.s₀.heap.objs.size<=s.heap.objs.size:=aX I.ok.above (j6 I.lt)
theorem Inv.nofs(I:Inv X pins σ H s){a:Addr}(h:s.heap.objs.size<=a):a∉X.fs:=fun hb=>by
 obtain⟨_,o,ho,_⟩:=I.ok.sH.mem hb;exact absurd (aW (av ho) (aX I.sz h)) (eD _)
theorem Inv.cne(I:Inv X pins σ H s):∀x c,X.env.cells.lookup x=some c->c≠X.env.locals:=fun x c e z=>by
 obtain⟨v,o,ho,hd⟩:=I.cell x c e;obtain⟨m,⟨o',es,ep,ho',hd',_⟩,_⟩:=I.loc;rw[z,ho']at ho;cases ho;rw[hd']at hd;cases hd
theorem Inv.sH(I:Inv X pins σ H s):s.heap.FunFrames X.base X.outer:=by
 have all:∀(l:List Env),(∀b∈frs l,b∈X.fs)->X.s₀.heap.FunFrames X.base l->s.heap.FunFrames X.base l:=by
  intro l
  induction l with
  |nil=>intro _ _;trivial
  |cons env r ih=>
   intro hs hl;obtain⟨hk,⟨L,o,hf,hn,ho,hd⟩,hr⟩:=hl;have hL:L∈X.fs:=hs L (by unfold frs;rw[pj,hf];exact aS);obtain⟨sl,e⟩:=I.base.slot L o ho (I.ok.frf L hL) hL fun z=>I.ok.exfs L z hL;exact⟨hk,⟨L,_,hf,hn,e,hd⟩,ih (fun b hb=>hs b (by unfold frs;rw[pj,hf];exact aN _ hb)) hr⟩
 exact all X.outer (fun _ hb=>hb) I.ok.sH
theorem Inv.stack(I:Inv X pins σ H s):s.heap.FunFrames X.base X.stack:=by
 rcases I.ok.stk with e|⟨e,hf⟩
 ·rw[e];exact I.sH
 ·rw[e]
  obtain⟨m,hn,_⟩:=I.loc;refine .cons (by rw[I.ok.kind];decide) hf hn ?_ I.sH;exact nP (aX I.ok.bsz I.ok.above)
theorem Inv.z7(I:Inv X pins σ H s):∀b∈frs X.stack,b∈X.env.locals::X.fs:=fun b hb=>by
 rcases I.ok.stk with e|⟨e,hf⟩
 ·rw[e]at hb;exact aN _ hb
 ·rw[e]at hb
  unfold frs at hb;rw[pj,hf]at hb;exact hb
theorem Inv.vS(I:Inv X pins σ H s):∀b∈frs X.stack,H b=none:=fun b hb=>by
 rcases aC.mp (I.z7 b hb)with e|hb
 ·rw[e];exact I.free
 ·obtain⟨_,o,ho,_⟩:=I.ok.sH.mem hb
  exact I.base.free b o ho (I.ok.frf b hb) fun z=>I.ok.exfs b z hb
theorem Inv.step{g':Array nM}{t':Nat}{d':Drawn}{ch:List Addr}(I:Inv X pins σ H s)
  (hch:∀b∈ch,(b∈X.ex\/X.s₀.heap.objs.size<=b)/\b≠X.env.locals/\(∀x c,X.env.cells.lookup x=some c->c≠b)/\∀p∈X.pn++pins,p.1≠b)
  (keep:∀b o,b≠X.env.locals->b∉X.fs->b∉ch->s.heap.get? b=some o->H b=none->h'.get? b=some o)
  (slot:∀b o,b≠X.env.locals->b∈X.fs->b∉ch->s.heap.get? b=some o->H b=none->∃sl,h'.get? b=some {o with slots:=sl}) (free:∀b o,b∉ch->s.heap.get? b=some o->H b=none->H' b=none)
  (there:∀b o,b∉ch->s.heap.get? b=some o->∃o',h'.get? b=some o')
  (tups:∀b xs,H b=some (.tup xs)->H' b=some (.tup xs)) (frzs:∀b o u,H b=some (.frz o u)->H' b=some (.frz o u)) (tbls:∀b ps,H b=some (.tbl ps)->∃more,H' b=some (.tbl (ps++more)))
  (ns:∀m,s.heap.Ns X.env.locals m->h'.Ns X.env.locals m) (hok:HOk X.prog X.w H' h') (hg:mE g'):
  Inv X pins σ H' {s with heap:=h',gens:=g',drawn:=d',toks:=t'}:=by
 have neL:∀b o,X.s₀.heap.get? b=some o->b≠X.env.locals:=fun b o e=>aD (aW (av e) I.ok.above);have neC:∀b o,X.s₀.heap.get? b=some o->b∉X.ex->b∉ch:=fun b o e hx hb=>by
  rcases(hch b hb).1 with z|z
  ·exact hx z
  ·exact absurd (aW (av e) z) (eD _)
 have cellK:∀x c,X.env.cells.lookup x=some c->∀v,s.heap.IsCell c v->h'.IsCell c v:=fun x c e v ⟨o,ho,hd⟩=>by
  have nch:c∉ch:=fun z=>(hch c z).2.2.1 x c e rfl;by_cases hc:c∈X.fs
  ·obtain⟨sl,q⟩:=slot c o (I.cne x c e) hc nch ho (I.freeC x c e)
   exact⟨_,q,hd⟩
  ·exact⟨o,keep c o (I.cne x c e) hc nch ho (I.freeC x c e),hd⟩
 refine⟨I.ok,I.os,hg,⟨fun b o e n hb hx=>?_,fun b o e n hb hx=>?_,fun b o e n hx=>?_,fun b o e hx=>?_,fun b xs e=>tups b xs (I.base.tups b xs e),fun b o xs e=>frzs b o xs (I.base.frzs b o xs e),fun b ps e=>?_⟩,?_,fun x c e=>?_,?_,fun x c e=>?_,fun p hp=>?_,hok,I.len⟩
 ·exact keep b o (neL b o e) hb (neC b o e hx) (I.base.keep b o e n hb hx) (I.base.free b o e n hx)
 ·obtain⟨sl,e1⟩:=I.base.slot b o e n hb hx
  obtain⟨sl',e2⟩:=slot b _ (neL b o e) hb (neC b o e hx) e1 (I.base.free b o e n hx);exact⟨sl',e2⟩
 ·obtain⟨o',e1⟩:=I.base.there b o e hx
  exact free b o' (neC b o e hx) e1 (I.base.free b o e n hx)
 ·obtain⟨o',e1⟩:=I.base.there b o e hx
  exact there b o' (neC b o e hx) e1
 ·obtain⟨m1,e1⟩:=I.base.tbls b ps e
  obtain⟨m2,e2⟩:=tbls b _ e1;exact⟨m1++m2,by rw[e2,Array.append_assoc]⟩
 ·obtain⟨m,hn,hl⟩:=I.loc
  refine⟨m,ns m hn,fun i x v e1 e2 e3=>?_⟩;obtain⟨u,r,l⟩:=hl i x v e1 e2 e3;refine⟨u,r,?_⟩;rcases l with l|⟨k,c,e,z⟩
  ·exact .inl l
  ·exact .inr ⟨k,c,e,cellK x c e _ z⟩
 ·obtain⟨v,z⟩:=I.cell x c e
  exact⟨v,cellK x c e v z⟩
 ·obtain⟨m,⟨o,_,_,ho,_⟩,_⟩:=I.loc
  exact free _ o (fun z=>(hch _ z).2.1 rfl) ho I.free
 ·obtain⟨v,o,ho,hd⟩:=I.cell x c e
  exact free c o (fun z=>(hch c z).2.2.1 x c e rfl) ho (I.freeC x c e)
 ·obtain⟨e,n,ne,nf,d⟩:=I.pin p hp
  have nch:p.1∉ch:=fun z=>(hch p.1 z).2.2.2 p hp rfl;exact⟨keep p.1 p.2 ne nf nch e n,free p.1 p.2 nch e n,ne,nf,d⟩
theorem Inv.un{t':Nat}(I:Inv X pins σ H s)(u:Un X.fs [] H H' s.heap h')(hok:HOk X.prog X.w H' h'):Inv X pins σ H' {s with heap:=h',toks:=t'}:=by
 obtain⟨m,⟨o,es,ep,ho,r⟩,_⟩:=id I.loc;obtain⟨sl,hL⟩:=u.any ho I.free (by simp);exact I.step (g':=s.gens) (d':=s.drawn) (ch:=[]) (fun _ z=>nomatch z) (fun b o _ hb _ e n=>u.keep b o e n hb (by simp)) (fun b o _ hb _ e n=>u.slot b o e n hb (by simp)) (fun b o _ e n=>u.free b o e n (by simp)) (fun b o _ e=>u.there b o e (by simp)) u.tups u.frzs u.tbls (fun m' hm=>by
  obtain⟨o',es',ep',ho',r'⟩:=hm;rw[ho]at ho';cases ho';exact⟨_,es',ep',hL,r'⟩) hok I.bare
theorem Inv.call{g':Array nM}{t':Nat}{d':Drawn}{ch:List Addr}(I:Inv X pins σ H s)(u:Un (frs X.stack) ch H H' s.heap h')(hok:HOk X.prog X.w H' h')(hg:mE g')
  (hch:∀b∈ch,(b∈X.ex\/X.s₀.heap.objs.size<=b)/\b≠X.env.locals/\(∀x c,X.env.cells.lookup x=some c->c≠b)/\∀p∈X.pn++pins,p.1≠b):
  Inv X pins σ H' {s with heap:=h',gens:=g',drawn:=d',toks:=t'}:=by
 obtain⟨m,⟨o,es,ep,ho,r⟩,_⟩:=id I.loc;obtain⟨sl,hL⟩:=u.any ho I.free fun z=>(hch _ z).2.1 rfl;exact I.step (ch:=ch) hch (fun b o hL hb hc e n=>u.keep b o e n (fun z=>(aC.mp (I.z7 b z)).elim hL hb) hc) (fun b o _ _ hc e n=>u.any e n hc) (fun b o hc e n=>u.free b o e n hc) (fun b o hc e=>u.there b o e hc) u.tups u.frzs u.tbls (fun m' hm=>by
  obtain⟨o',es',ep',ho',r'⟩:=hm;rw[ho]at ho';cases ho';exact⟨_,es',ep',hL,r'⟩) hok hg
theorem Inv.turned{t':Nat}{it:Addr}(I:Inv X pins σ H s)(k:∀b o,b≠it->s.heap.get? b=some o->h'.get? b=some o)(hn:H it=none)(hL:it≠X.env.locals)
  (h1:it∈X.ex\/X.s₀.heap.objs.size<=it)(h2:∀x c,X.env.cells.lookup x=some c->c≠it)(h3:∀p∈X.pn++pins,p.1≠it):Inv X pins σ H {s with heap:=h',toks:=t'}:=by
 have nit:∀b u,H b=some u->b≠it:=fun b u e z=>by rw[z,hn]at e;cases e
 refine I.step (g':=s.gens) (d':=s.drawn) (ch:=[it]) (fun b hb=>?_) (fun b o _ _ hc e _=>k b o (fun z=>hc (by simp[z])) e) (fun b o _ _ hc e _=>⟨o.slots,k b o (fun z=>hc (by simp[z])) e⟩) (fun _ _ _ _ n=>n)
  (fun b o hc e=>⟨o,k b o (fun z=>hc (by simp[z])) e⟩) (fun _ _ e=>e) (fun _ _ _ e=>e) (fun b ps e=>⟨#[],by rw[e];simp⟩) (fun m hm=>?_) (fun b u e=>?_) I.bare
 ·have e:b=it:=by simpa using hb
  subst e;exact⟨h1,hL,h2,h3⟩
 ·obtain⟨o,es,ep,ho,r⟩:=hm
  exact⟨o,es,ep,k _ o (bz hL) ho,r⟩
 ·refine(I.hok b u e).pv (fun c v hc q=>k c v ?_ q) (fun _ q=>q) fun _ _ q=>q
  rcases hc with z|z
  ·rw[z];exact nit b u e
  ·exact nit c _ z
theorem Inv.tok(I:Inv X pins σ H s)(t:Nat):Inv X pins σ H {s with toks:=t}:=I.un (h':=s.heap) (t':=t) Un.refl I.hok
theorem Inv.kept{t':Nat}(I:Inv X pins σ H s)(k:∀b u,s.heap.get? b=some u->h'.get? b=some u):Inv X pins σ H {s with heap:=h',toks:=t'}:=I.un (Un.kept k) (I.hok.kept k)
theorem Inv.laid{a:Addr}{o:HO}{t':Nat}(I:Inv X pins σ H s)(k:∀b u,s.heap.get? b=some u->h'.get? b=some u)(hp:s.heap.objs.size<=a)(new:dh X.prog X.w (upd H a o) h' a o):
  Inv X pins σ (upd H a o) {s with heap:=h',toks:=t'}:=I.un (Un.laid k hp (I.hok.fresh hp)) (I.hok.laid k hp new)
theorem Inv.write{x e:Addr}{o:HO}{t':Nat}(I:Inv X pins σ H s)(mu:Mut (H x))(he:e=x\/H e=some (.own x))(k:∀b u,b≠e->s.heap.get? b=some u->h'.get? b=some u)(heo:∃u,h'.get? e=some u)
  (new:dh X.prog X.w (upd H x o) h' x o):Inv X pins σ (upd H x o) {s with heap:=h',toks:=t'}:=I.un (Un.write mu he k heo) (I.hok.write mu he k heo new)
theorem Inv.wA{pins':List (Addr×Obj)}(I:Inv X pins σ H s)(h:∀p∈pins',s.heap.get? p.1=some p.2/\H p.1=none/\p.1≠X.env.locals/\p.1∉X.fs/\∀v,p.2.data≠.cell v):Inv X pins' σ H s:=
 ⟨I.ok,I.os,I.bare,I.base,I.loc,I.cell,I.free,I.freeC,fun p hp=>(dW.mp hp).elim (fun z=>I.pin p (dP _ z)) (h p),I.hok,I.len⟩
theorem rX{N:List Str}(hN:N.Nodup){i j:Nat}{x:Str}(a:N[i]? =some x)(b:N[j]? =some x):i=j:=by
 obtain⟨h1,e1⟩:=aM.mp a;obtain⟨h2,e2⟩:=aM.mp b;exact(fk hN).mp (e1.trans e2.symm)
theorem CW{M:Model}{A:Around}{E:Value->Shared->Prop}{i:Nat}{x:Str}{v:V}{u:Value}{Q:Unit->Shared->Prop}(I:Inv X pins σ H s)(hN:X.N.Nodup)(hi:X.N[i]? =some x)(hx:Loc X.env.scope x)(r:RelV v u)
  (h:∀s',Inv X pins (σ.set i (some v)) H s'->(∃a,dg a s.heap s'.heap/\(a=X.env.locals\/X.env.cells.lookup x=some a))->Q () s')(hf:X.fn x=true\/X.env.scope.names.lookup x=some .local :=by first |exact .inl rfl|exact .inr rfl|assumption):wpAny M A (storeName X.env x u) Q E s:=by
 obtain⟨m,hn,hl⟩:=id I.loc;have hcls:(X.env.scope.kind== .class ||(X.env.scope.kind== .module&&X.env.locals != X.env.globals))=false:=by rw[I.ok.kind];rfl
 have hiσ:i<σ.length:=by rw[I.len];exact(aM.mp hi).1
 have cne:=I.cne;have tracked:∀{a:Addr}{h':Heap},(∃o,s.heap.get? a=some o/\H a=none)->dg a s.heap h'->HOk X.prog X.w H h':=fun{a h'} ha hs b ob e=>by
  obtain⟨_,_,hfree⟩:=ha;refine(I.hok b ob e).pv (fun c w' hc q=>(hs.2 c ?_).trans q) (fun _ q=>q) fun _ _ q=>q;rintro rfl;rcases hc with rfl|hc
  ·rw[hfree]at e;cases e
  ·rw[hfree]at hc;cases hc
 rcases hx with hk|hk
 ·refine wpAny_storeName_local hk hn (fun h' hn' hs=>?_) hcls
  obtain⟨oL,_,_,hoL,_⟩:=id hn;refine h _ ⟨I.ok,I.os,I.bare,⟨fun b o e n hb hx=>?_,fun b o e n hb hx=>?_,I.base.free,fun b o e hx=>?_,I.base.tups,I.base.frzs,I.base.tbls⟩,⟨_,hn',fun j y v' e1 e2 e3=>?_⟩,fun y c e=>?_,I.free,I.freeC,fun p hp=>?_,tracked ⟨oL,hoL,I.free⟩ hs,by simpa using I.len⟩ ⟨_,hs,.inl rfl⟩
  ·exact(hs.2 b (aD (aW (av e) I.ok.above))).trans (I.base.keep b o e n hb hx)
  ·obtain⟨sl,e1⟩:=I.base.slot b o e n hb hx
   exact⟨sl,(hs.2 b (aD (aW (av e) I.ok.above))).trans e1⟩
  ·obtain⟨o',e1⟩:=I.base.there b o e hx
   exact⟨o',(hs.2 b (aD (aW (av e) I.ok.above))).trans e1⟩
  ·by_cases hj:j=i
   ·subst hj
    rw[hi]at e1;cases e1;rw[Cv hiσ]at e2;cases e2;exact⟨u,r,.inl ⟨hk,by simp⟩⟩
   ·rw[nO (bz hj)]at e2
    obtain⟨u',r',q⟩:=hl j y v' e1 e2 e3;refine⟨u',r',?_⟩;rcases q with⟨k,e⟩ |⟨k,c,e,z⟩
    ·refine .inl ⟨k,?_⟩
     have :y≠x:=fun e=>hj (rX hN e1 (e▸hi));simp[this,e]
    ·exact .inr ⟨k,c,e,z.sameBut hs (cne y c e)⟩
  ·obtain⟨w',z⟩:=I.cell y c e
   exact⟨w',z.sameBut hs (cne y c e)⟩
  ·obtain⟨e,n,ne,nf,d⟩:=I.pin p hp
   exact⟨(hs.2 p.1 ne).trans e,n,ne,nf,d⟩
 ·have hfn:X.fn x=true:=by
   rcases hf with z|z
   ·exact z
   ·rw[z]at hk;cases hk
  obtain⟨c,hc⟩:=I.ok.has x (.inl hk);obtain⟨w',z⟩:=I.cell x c hc;refine wpAny_storeName_cell I.ok.kind hk hc z (fun h' hc' hs=>?_);obtain⟨oc,hoc,hocd⟩:=id z;refine h {s with heap:=h'} ⟨I.ok,I.os,I.bare,⟨fun b o e n hb hx=>?_,fun b o e n hb hx=>?_,I.base.free,fun b o e hx=>?_,I.base.tups,I.base.frzs,I.base.tbls⟩,⟨m,hn.sameBut hs (bz (cne x c hc)),fun j y v' e1 e2 e3=>?_⟩,fun y c' e=>?_,I.free,I.freeC,fun p hp=>?_,tracked ⟨oc,hoc,I.freeC x c hc⟩ hs,by simpa using I.len⟩ ⟨c,hs,.inr hc⟩
  ·exact(hs.2 b (aD (aW (av e) (I.ok.cab x c hfn hc)))).trans (I.base.keep b o e n hb hx)
  ·obtain⟨sl,e1⟩:=I.base.slot b o e n hb hx
   exact⟨sl,(hs.2 b (aD (aW (av e) (I.ok.cab x c hfn hc)))).trans e1⟩
  ·obtain⟨o',e1⟩:=I.base.there b o e hx
   exact⟨o',(hs.2 b (aD (aW (av e) (I.ok.cab x c hfn hc)))).trans e1⟩
  ·by_cases hj:j=i
   ·subst hj
    rw[hi]at e1;cases e1;rw[Cv hiσ]at e2;cases e2;exact⟨u,r,.inr ⟨.inl hk,c,hc,hc'⟩⟩
   ·rw[nO (bz hj)]at e2
    obtain⟨u',r',q⟩:=hl j y v' e1 e2 e3;refine⟨u',r',?_⟩;rcases q with q|⟨k,c',e,z'⟩
    ·exact .inl q
    ·refine .inr ⟨k,c',e,z'.sameBut hs ?_⟩
     rintro rfl;exact hj (rX hN e1 (I.ok.inj _ _ _ e hc▸hi))
  ·by_cases hcc:c'=c
   ·subst hcc;exact⟨_,hc'⟩
   ·obtain⟨w2,z2⟩:=I.cell y c' e
    exact⟨w2,z2.sameBut hs hcc⟩
  ·obtain⟨e,n,ne,nf,d⟩:=I.pin p hp
   refine⟨(hs.2 p.1 ?_).trans e,n,ne,nf,d⟩;intro q;rw[q,hoc]at e;have q':oc=p.2:=aY e;exact d w' (by rw[<-q'];exact hocd)
theorem rE{M:Model}{A:Around}{E:Value->Shared->Prop}{i:Nat}{x:Str}{v:V}{u:Value}{Q:Unit->Shared->Prop}(I:Inv X pins σ H s)(hN:X.N.Nodup)(hi:X.N[i]? =some x)(hx:Loc X.env.scope x)(r:RelV v u)
  (h:∀s',Inv X pins (σ.set i (some v)) H s'->Q () s')(hf:X.fn x=true\/X.env.scope.names.lookup x=some .local :=by first |exact .inl rfl|exact .inr rfl|assumption):wpAny M A (storeName X.env x u) Q E s:=
 CW I hN hi hx r (fun s' I' _=>h s' I') hf
theorem Inv.call'{s':Shared}{ch:List Addr}(I:Inv X pins σ H s)(ho:s'.os=s.os)(u:Un (frs X.stack) ch H H' s.heap s'.heap)(hok:HOk X.prog X.w H' s'.heap)(hg:mE s'.gens)
  (hch:∀b∈ch,(b∈X.ex\/X.s₀.heap.objs.size<=b)/\b≠X.env.locals/\(∀x c,X.env.cells.lookup x=some c->c≠b)/\∀p∈X.pn++pins,p.1≠b):Inv X pins σ H' s':=by
 obtain⟨h',g',d',t',o'⟩:=s';have e:o'=s.os:=ho;subst e;exact I.call (g':=g') (t':=t') (d':=d') u hok hg hch
end
noncomputable abbrev XK:=Value->Option Addr->Hp->Prop
noncomputable abbrev St:=List (Option V)
noncomputable abbrev VK:=V->Hp->Prop
noncomputable abbrev TE:=St->Hp->VK->Prop
noncomputable abbrev TT:=St->Hp->(Bool->Hp->Prop)->Prop
noncomputable abbrev TA:=St->Hp->(List V->Hp->Prop)->Prop
structure Ends where
 nx:St->Hp->Prop
 rt:VK
 bk:St->Hp->Prop:=fun _ _=>False
 ct:St->Hp->Prop:=fun _ _=>False
noncomputable abbrev TS:=Ends->St->Hp->Prop
noncomputable def EP(X:Cx)(pins:List (Addr×Obj))(σ:St)(Q:VK)(u:Value)(s':Shared):Prop:=∃v H',Inv X pins σ H' s'/\RelV v u/\Q v H'
noncomputable def TP(X:Cx)(pins:List (Addr×Obj))(σ:St)(Q:Bool->Hp->Prop)(b:Bool)(s':Shared):Prop:=∃H',Inv X pins σ H' s'/\Q b H'
noncomputable def AP(X:Cx)(pins:List (Addr×Obj))(σ:St)(Q:List V->Hp->Prop)(us:List Value)(s':Shared):Prop:=∃vs H',Inv X pins σ H' s'/\bM vs us/\Q vs H'
noncomputable def SP(X:Cx)(pins:List (Addr×Obj))(D:Ends)(f:Flow)(s':Shared):Prop:=
 match f with
 |.next =>∃σ' H',Inv X pins σ' H' s'/\D.nx σ' H'
 |.brk=>∃σ' H',Inv X pins σ' H' s'/\D.bk σ' H'
 |.cont=>∃σ' H',Inv X pins σ' H' s'/\D.ct σ' H'
 |.ret u=>∃v σ' H',Inv X pins σ' H' s'/\RelV v u/\D.rt v H'
noncomputable def PE(X:Cx)(e:Expr)(t:TE):Prop:=
 ∀(pins:List (Addr×Obj))(s:Shared)(σ:St)(H:Hp)(Q:VK),Inv X pins σ H s->t σ H Q->wpAny (model X.prog X.w) X.A (eval e X.env) (EP X pins σ Q) X.xe s
noncomputable def PT(X:Cx)(e:Expr)(t:TT):Prop:=
 ∀(pins:List (Addr×Obj))(s:Shared)(σ:St)(H:Hp)(Q:Bool->Hp->Prop),Inv X pins σ H s->t σ H Q->wpAny (model X.prog X.w) X.A (isTrue e X.env (eval e X.env)) (TP X pins σ Q) X.xe s
noncomputable def PW(X:Cx)(e:Expr)(t:TT):Prop:=
 ∀(whole:Sem Value)(pins:List (Addr×Obj))(s:Shared)(σ:St)(H:Hp)(Q:Bool->Hp->Prop),Inv X pins σ H s->t σ H Q->wpAny (model X.prog X.w) X.A (isTrue e X.env whole) (TP X pins σ Q) X.xe s
theorem PW.pt{X:Cx}{e:Expr}{t:TT}(h:PW X e t):PT X e t:=h _
noncomputable def PA(X:Cx)(es:List Expr)(t:TA):Prop:=
 ∀(pos:Pos)(pins:List (Addr×Obj))(s:Shared)(σ:St)(H:Hp)(Q:List V->Hp->Prop),Inv X pins σ H s->t σ H Q->wpAny (model X.prog X.w) X.A (spliced (backTo pos (aK es X.env))) (AP X pins σ Q) X.xe s
noncomputable def PS(X:Cx)(st:Stmt)(t:TS):Prop:=
 ∀(pins:List (Addr×Obj))(s:Shared)(σ:St)(H:Hp)(D:Ends),Inv X pins σ H s->t D σ H->wpAny (model X.prog X.w) X.A (exec st X.env) (SP X pins D) X.xe s
noncomputable def PSs(X:Cx)(st:List Stmt)(t:TS):Prop:=
 ∀(pins:List (Addr×Obj))(s:Shared)(σ:St)(H:Hp)(D:Ends),Inv X pins σ H s->t D σ H->wpAny (model X.prog X.w) X.A (execs st X.env) (SP X pins D) X.xe s
theorem thn{α:Type}{t:Sem α}{Q Q':α->Shared->Prop}{M:Model}{A:Around}{E:Value->Shared->Prop}{s:Shared}(h:wpAny M A t Q E s)(hQ:∀a s,Q a s->Q' a s):wpAny M A t Q' E s:=cL h hQ fun _ _ x=>x
section
variable {X:Cx}
noncomputable def uc(i:Nat):TE:=fun σ H Q=>∃v,σ[i]? =some (some v)/\Q v H
noncomputable def tC(v:V):TE:=fun _ H Q=>Q v H
theorem Ao{i:Nat}{x:Str}{pos:Pos}(hN:X.N[i]? =some x)(hv:Vis X.env.scope x)(hd:(x==("__debug__":Str))=false:=by decide) (hcd:(x==("__classdict__":Str))=false:=by decide):PE X (.Name x pos) (uc i):=by
 intro pins s σ H Q I h;obtain⟨v,e,h⟩:=h;obtain⟨m,hn,hl⟩:=I.loc;obtain⟨u,r,l⟩:=hl i x v hN e hv;have fin:EP X pins σ Q u s:=⟨v,H,I,r,h⟩;rcases l with⟨hk,hm⟩ |⟨hk,c,hc,hcell⟩
 ·exact Ec (wpAny_loadName_local I.ok.kind hk hn hm fin) hd
 ·rcases hk with hk|hk
  ·exact Ec (wpAny_loadName_cell I.ok.kind hk hc hcell fin) hd
  ·exact Ec (wpAny_loadName_free I.ok.kind hk hc hcell fin hcd) hd
theorem FV{i j pos}:PE X (.Constant (.int i) j pos) (tC (.int i)):=fun _ _ _ H _ I h=>wpAny_Constant_int ⟨.int i,H,I.tok _,⟨_,rfl⟩,h⟩
theorem pe_bl{b j pos}:PE X (.Constant (.bool b) j pos) (tC (.bl b)):=fun _ _ _ H _ I h=>Constant_bool ⟨.bl b,H,I,rfl,h⟩
theorem FR{j pos}:PE X (.Constant .none j pos) (tC .non):=fun _ _ _ H _ I h=>Constant_none ⟨.non,H,I,rfl,h⟩
theorem FN{x j pos}:PE X (.Constant (.str x) j pos) (tC (.str x)):=fun _ _ _ H _ I h=>Calls.Constant_str ⟨.str x,H,I.tok _,⟨_,rfl⟩,h⟩
noncomputable def Gl(X:Cx)(x:Str):Prop:=X.env.kindOf x=some .globalImplicit
theorem kN{E:Value->Shared->Prop}{pins:List (Addr×Obj)}{s:Shared}{σ:St}{H:Hp}{x:Str}{u:Value}{pos:Pos}{Q:Value->Shared->Prop}(I:Inv X pins σ H s)(hg:Gl X x)(hm:X.mg x=some u)(h:Q u s)
  (hd:(x==("__debug__":Str))=false:=by decide):wpAny (model X.prog X.w) X.A (eval (.Name x pos) X.env) Q E s:=
 xS I.ok.kind hg (Calls.loadGlobal_global (by rw[I.ok.glob];exact I.mod.glob.keeps I.bk) hm h) hd
theorem ji{E:Value->Shared->Prop}{pins:List (Addr×Obj)}{s:Shared}{σ:St}{H:Hp}{x:Str}{u:Value}{pos:Pos}{Q:Value->Shared->Prop}(I:Inv X pins σ H s)(hg:Gl X x)(hm:X.mg x=none)(hv:fg x=some u)(h:Q u s)
  (hn:x≠"__name__":=by decide) (hd:(x==("__debug__":Str))=false:=by decide):wpAny (model X.prog X.w) X.A (eval (.Name x pos) X.env) Q E s:=by
 obtain⟨mb,h1,h2⟩:=I.mod.blt;exact xS I.ok.kind hg (Calls.loadGlobal_builtin (by rw[I.ok.glob];exact I.mod.glob.keeps I.bk) hm (by rw[I.ok.blt];exact h1.keeps I.bk) ((h2 x hn).trans hv) h) hd
theorem wC{x:Str}{v:V}{u:Value}{pos:Pos}(hg:Gl X x)(hm:X.mg x=some u)(r:RelV v u)(hd:(x==("__debug__":Str))=false:=by decide):PE X (.Name x pos) (tC v):=
 fun _ _ _ H _ I h=>kN I hg hm ⟨v,H,I,r,h⟩ hd
theorem BH{x:Str}{v:V}{u:Value}{pos:Pos}(hg:Gl X x)(hm:X.mg x=none)(hv:fg x=some u)(r:RelV v u)(hn:x≠"__name__":=by decide) (hd:(x==("__debug__":Str))=false:=by decide):PE X (.Name x pos) (tC v):=
 fun _ _ _ H _ I h=>ji I hg hm hv ⟨v,H,I,r,h⟩ hn hd
variable {a b:Expr}{ta tb:TE}{pos:Pos}
variable {tA tB':TT}{rest:List Expr}
noncomputable def tAnd(t u:TT):TT:=fun σ H Q=>t σ H fun c H1=>if c=true then u σ H1 Q else Q false H1
noncomputable def tOr(t u:TT):TT:=fun σ H Q=>t σ H fun c H1=>if c=true then Q true H1 else u σ H1 Q
noncomputable def tNot(t:TT):TT:=fun σ H Q=>t σ H fun c H1=>Q (!c) H1
theorem BC(ha:PT X a tA):PW X (.BoolOp .And [a] pos) tA:=by
 intro wh pins s σ H Q I h;refine isTrue_and (thn (ha pins s σ H Q I h) fun c s1 e=>?_);cases c with
 |true=>exact isTrue_and_nil e
 |false=>exact e
theorem FA(ha:PT X a tA):PW X (.BoolOp .Or [a] pos) tA:=by
 intro wh pins s σ H Q I h;refine isTrue_or (thn (ha pins s σ H Q I h) fun c s1 e=>?_);cases c with
 |false=>exact isTrue_or_nil e
 |true=>exact e
theorem wx(ha:PT X a tA)(hb:PW X (.BoolOp .And (b::rest) pos) tB'):PW X (.BoolOp .And (a::b::rest) pos) (tAnd tA tB'):=by
 intro wh pins s σ H Q I h;refine isTrue_and (thn (ha pins s σ H _ I h) fun c s1 ⟨H1,I1,q1⟩=>?_);cases c with
 |true=>exact hb wh pins s1 σ H1 Q I1 q1
 |false=>exact⟨H1,I1,q1⟩
theorem BB(ha:PT X a tA)(hb:PW X (.BoolOp .Or (b::rest) pos) tB'):PW X (.BoolOp .Or (a::b::rest) pos) (tOr tA tB'):=by
 intro wh pins s σ H Q I h;refine isTrue_or (thn (ha pins s σ H _ I h) fun c s1 ⟨H1,I1,q1⟩=>?_);cases c with
 |true=>exact⟨H1,I1,q1⟩
 |false=>exact hb wh pins s1 σ H1 Q I1 q1
theorem pt_not(ha:PT X a tA):PT X (.UnaryOp .Not a pos) (tNot tA):=by
 intro pins s σ H Q I h;exact isTrue_not (ha pins s σ H (fun c H1=>Q (!c) H1) I h)
noncomputable def EV(ta tb:TE):TE:=fun σ H Q=>ta σ H fun x H1=>∃c,x=.bl c/\if c=true then tb σ H1 Q else Q (.bl false) H1
noncomputable def tOrV(ta tb:TE):TE:=fun σ H Q=>ta σ H fun x H1=>∃c,x=.bl c/\if c=true then Q (.bl true) H1 else tb σ H1 Q
noncomputable def EO(ta:TE):TE:=fun σ H Q=>ta σ H fun x H1=>∃c,x=.bl c/\Q (.bl (!c)) H1
theorem FQ{op}{t:TE}(h:PE X a t):PE X (.BoolOp op [a] pos) t:=fun pins s σ H Q I hw=>BoolOp_one (h pins s σ H Q I hw)
theorem F4(ha:PE X a ta)(hb:PE X (.BoolOp .And (b::rest) pos) tb):PE X (.BoolOp .And (a::b::rest) pos) (EV ta tb):=by
 intro pins s σ H Q I h;refine BoolOp_and (thn (ha pins s σ H _ I h) fun v s1 ⟨x,H1,I1,r1,q1⟩=>?_);obtain⟨c,rfl,q1⟩:=q1;cases r1;refine cO ?_;cases c with
 |true=>exact hb pins s1 σ H1 Q I1 q1
 |false=>exact⟨.bl false,H1,I1,rfl,q1⟩
theorem pe_or(ha:PE X a ta)(hb:PE X (.BoolOp .Or (b::rest) pos) tb):PE X (.BoolOp .Or (a::b::rest) pos) (tOrV ta tb):=by
 intro pins s σ H Q I h;refine BoolOp_or (thn (ha pins s σ H _ I h) fun v s1 ⟨x,H1,I1,r1,q1⟩=>?_);obtain⟨c,rfl,q1⟩:=q1;cases r1;refine cO ?_;cases c with
 |false=>exact hb pins s1 σ H1 Q I1 q1
 |true=>exact⟨.bl true,H1,I1,rfl,q1⟩
theorem pe_not(ha:PE X a ta):PE X (.UnaryOp .Not a pos) (EO ta):=by
 intro pins s σ H Q I h;refine UnaryOp_ (thn (ha pins s σ H _ I h) fun v s1 ⟨x,H1,I1,r1,q1⟩=>?_);obtain⟨c,rfl,q1⟩:=q1;cases r1;exact not_of (cO ⟨.bl (!c),H1,I1,rfl,q1⟩)
noncomputable def tIf(t:TT)(ta tb:TE):TE:=fun σ H Q=>t σ H fun c H1=>if c=true then ta σ H1 Q else tb σ H1 Q
theorem FW{c:Expr}(hc:PT X c tA)(ha:PE X a ta)(hb:PE X b tb):PE X (.IfExp c a b pos) (tIf tA ta tb):=by
 intro pins s σ H Q I h;refine wpAny_IfExp (thn (hc pins s σ H _ I h) fun d s1 ⟨H1,I1,q1⟩=>?_);cases d with
 |true=>exact ha pins s1 σ H1 Q I1 q1
 |false=>exact hb pins s1 σ H1 Q I1 q1
end
noncomputable def SqL(K:ae)(H:Hp)(a:Addr)(xs:List V):Prop:=
 Rd H a (.lst xs)\/
  ∃(o:Obj)(its:Array Value)(n:Nat),K.lookup a=some o/\o.cls=.type "list"/\o.dict=none/\o.data=.seq its n/\its.size<=sizeLine/\bM xs its.toList
noncomputable def SqT(K:ae)(H:Hp)(a:Addr)(xs:List V):Prop:=
 Rd H a (.tup xs)\/
  ∃(o:Obj)(its:Array Value)(n:Nat),K.lookup a=some o/\o.cls=.type "tuple"/\o.data=.seq its n/\its.size<=sizeLine/\bM xs its.toList
noncomputable def absV:Value->Option V
 |.none=>some .non
 |.bool b=>some (.bl b)
 |.int i _=>some (.int i)
 |.str x _=>some (.str x)
 |.bytes b _=>some (.byt b)
 |.float b _=>some (.flt b)
 |.ref a=>some (.ref a)
 |.type n=>some (.ty n)
 |_=>none
theorem RelV.abs{x:V}{u:Value}(r:RelV x u):absV u=some x:=by
 cases x with
 |non=>cases r;rfl
 |bl _=>cases r;rfl
 |int _=>obtain⟨t,rfl⟩:=r;rfl
 |str _=>obtain⟨t,rfl⟩:=r;rfl
 |byt _=>obtain⟨t,rfl⟩:=r;rfl
 |flt _=>obtain⟨t,rfl⟩:=r;rfl
 |ref _=>cases r;rfl
 |ty _=>cases r;rfl
theorem RelV.inj{x y:V}{u:Value}(r:RelV x u)(q:RelV y u):x=y:=aY (r.abs.symm.trans q.abs)
theorem bM.inj{xs ys:List V}{us:List Value}(h:bM xs us):bM ys us->xs=ys:=by
 induction h generalizing ys with
 |nil=>intro k;cases k;rfl
 |cons r k ih=>
  intro w;cases w with
  |cons r' w'=>rw[r.inj r',ih w']
section
variable {X:Cx}{pins:List (Addr×Obj)}{σ:St}{H:Hp}{s:Shared}{a:Addr}{xs ys:List V}
theorem SqL.of{K:ae}(h:H a=some (.lst xs)):SqL K H a xs:=.inl (.inl h)
theorem SqT.of{K:ae}(h:H a=some (.tup xs)):SqT K H a xs:=.inl (.inl h)
theorem Inv.list(I:Inv X pins σ H s)(h:SqL X.K H a xs):∃its:List Value,bM xs its/\PlainL s.heap a its.toArray/\xs.length<=sizeLine:=by
 rcases h with h|⟨o,its,n,hk,hc,hd,hs,hz,r⟩
 ·obtain⟨z,its,n,r,e⟩:=h.ok I.hok
  exact⟨its,r,⟨_,n,e,rfl,rfl,rfl⟩,z⟩
 ·refine⟨its.toList,r,⟨o,n,I.kIn a o hk,hc,hd,by simpa using hs⟩,?_⟩
  have e:=r.length;simp only[bX]at e;omega
theorem Inv.tuple(I:Inv X pins σ H s)(h:SqT X.K H a xs):∃its:List Value,bM xs its/\IsTup s.heap a its.toArray/\xs.length<=sizeLine:=by
 rcases h with h|⟨o,its,n,hk,hc,hs,hz,r⟩
 ·obtain⟨z,its,r,p⟩:=h.ok I.hok
  exact⟨its,r,p,z⟩
 ·refine⟨its.toList,r,⟨o,I.kIn a o hk,hc,n,by simpa using hs⟩,?_⟩
  have e:=r.length;simp only[bX]at e;omega
theorem Inv.yL(I:Inv X pins σ H s)(h:SqL X.K H a xs)(h':SqL X.K H a ys):xs=ys:=by
 obtain⟨its,r,⟨o,n,e,_,_,d⟩,_⟩:=I.list h;obtain⟨its',r',⟨o',n',e',_,_,d'⟩,_⟩:=I.list h';rw[e]at e';cases e';rw[d]at d';injection d' with d1 _
 have :its=its':=by simpa using congrArg Array.toList d1
 subst this;exact r.inj r'
theorem Inv.pq(I:Inv X pins σ H s)(h:SqT X.K H a xs)(h':SqT X.K H a ys):xs=ys:=by
 obtain⟨its,r,⟨o,e,_,n,d⟩,_⟩:=I.tuple h;obtain⟨its',r',⟨o',e',_,n',d'⟩,_⟩:=I.tuple h';rw[e]at e';cases e';rw[d]at d';injection d' with d1 _
 have :its=its':=by simpa using congrArg Array.toList d1
 subst this;exact r.inj r'
end
section
variable {X:Cx}{st:Stmt}{rest:List Stmt}{t u:TS}{e:Expr}{te:TE}{pos:Pos}
noncomputable def ya:TS:=fun D σ H=>D.nx σ H
noncomputable def qD(t u:TS):TS:=fun D σ H=>t {D with nx:=u D} σ H
theorem wz:PSs X [] ya:=fun _ _ σ H _ I h=>wpAny_execs_nil ⟨σ,H,I,h⟩
theorem og(h1:PS X st t)(h2:PSs X rest u):PSs X (st::rest) (qD t u):=by
 intro pins s σ H D I h;refine wpAny_execs_cons (thn (h1 pins s σ H {D with nx:=u D} I h) fun f s1 q=>?_);cases f with
 |next =>
  obtain⟨σ',H',I',q⟩:=q;exact h2 pins s1 σ' H' D I' q
 |ret v=>exact q
 |brk=>exact q
 |cont=>exact q
noncomputable def EU:TS:=fun D σ H=>D.bk σ H
noncomputable def tCont:TS:=fun D σ H=>D.ct σ H
theorem BD:PS X (.Pass pos) ya:=fun _ _ σ H _ I h=>wpAny_Pass ⟨σ,H,I,h⟩
theorem FH:PS X (.Break pos) EU:=fun _ _ σ H _ I h=>wpAny_Break ⟨σ,H,I,h⟩
theorem yi:PS X (.Continue pos) tCont:=fun _ _ σ H _ I h=>wpAny_Continue ⟨σ,H,I,h⟩
theorem Inv.quiet{pins:List (Addr×Obj)}{σ:St}{H:Hp}{s:Shared}(I:Inv X pins σ H s):interactive X.env=false:=by simp[interactive,I.ok.kind]
noncomputable def ER(te:TE):TS:=fun D σ H=>te σ H fun _ H1=>D.nx σ H1
theorem BE(he:PE X e te)(hs:nH e none pos.line X.env=pure false:=by rfl):PS X (.Expr e pos) (ER te):=by
 intro pins s σ H D I h;exact wpAny_Expr_any (thn (he pins s σ H _ I h) fun v s1 ⟨x,H1,I1,r1,q1⟩=>⟨σ,H1,I1,q1⟩) I.quiet hs
noncomputable def tRet(te:TE):TS:=fun D σ H=>te σ H D.rt
theorem FF(he:PE X e te):PS X (.Return (some e) pos) (tRet te):=by
 intro pins s σ H D I h;exact wpAny_Return_some (thn (he pins s σ H _ I h) fun v s1 ⟨x,H1,I1,r1,q1⟩=>⟨x,σ,H1,I1,r1,q1⟩)
noncomputable def EM:TS:=fun D _ H=>D.rt .non H
theorem ps_retN:PS X (.Return none pos) EM:=fun _ _ σ H _ I h=>wpAny_Return_none ⟨.non,σ,H,I,rfl,h⟩
noncomputable def tIfS(c:TT)(t u:TS):TS:=fun D σ H=>c σ H fun b H1=>if b=true then t D σ H1 else u D σ H1
theorem ps_if{c:Expr}{a b:List Stmt}{tc:TT}(hc:PT X c tc)(ha:PSs X a t)(hb:PSs X b u):PS X (.If c a b pos) (tIfS tc t u):=by
 intro pins s σ H D I h;refine wpAny_If (thn (hc pins s σ H _ I h) fun d s1 ⟨H1,I1,q1⟩=>?_);cases d with
 |true=>exact ha pins s1 σ H1 D I1 q1
 |false=>exact hb pins s1 σ H1 D I1 q1
end
noncomputable abbrev TG:=V->St->Hp->(St->Hp->Prop)->Prop
noncomputable abbrev TGs:=List V->St->Hp->(St->Hp->Prop)->Prop
noncomputable def PG(X:Cx)(target:Expr)(t:TG):Prop:=
 ∀(pins:List (Addr×Obj))(s:Shared)(σ:St)(H:Hp)(v:V)(u:Value)(Q:St->Hp->Prop),Inv X pins σ H s->RelV v u->t v σ H Q->
  wpAny (model X.prog X.w) X.A (assign target X.env u) (fun _ s'=>∃σ' H',Inv X pins σ' H' s'/\Q σ' H') X.xe s
noncomputable def PGs(X:Cx)(ts:List Expr)(t:TGs):Prop:=
 ∀(pins:List (Addr×Obj))(s:Shared)(σ:St)(H:Hp)(vs:List V)(us:List Value)(Q:St->Hp->Prop),Inv X pins σ H s->bM vs us->t vs σ H Q->
  wpAny (model X.prog X.w) X.A (assignInOrder ((gK ts X.env).map (·.2)) us) (fun _ s'=>∃σ' H',Inv X pins σ' H' s'/\Q σ' H') X.xe s
noncomputable abbrev TSet:=V->V->V->Hp->(Hp->Prop)->Prop
noncomputable def PSet(X:Cx)(t:TSet):Prop:=
 ∀(pins:List (Addr×Obj))(s:Shared)(σ:St)(H:Hp)(o i v:V)(ov iv u:Value)(Q:Hp->Prop),Inv X pins σ H s->RelV o ov->RelV i iv->RelV v u->t o i v H Q->
  wpAny (model X.prog X.w) X.A (setItem ov iv u) (fun _ s'=>∃H',Inv X pins σ H' s'/\Q H') X.xe s
section
variable {X:Cx}{pos:Pos}
noncomputable def kj(i:Nat):TG:=fun v σ H Q=>Q (σ.set i (some v)) H
theorem wB{i:Nat}{x:Str}(hN:X.N.Nodup)(hi:X.N[i]? =some x)(hx:Loc X.env.scope x)(hf:X.fn x=true\/X.env.scope.names.lookup x=some .local :=by first |exact .inl rfl|exact .inr rfl|assumption):PG X (.Name x pos) (kj i):=by
 intro pins s σ H v u Q I r h;exact wpAny_assign_Name (rE I hN hi hx r (fun s' I'=>⟨_,H,I',h⟩) hf)
noncomputable def gNil:TGs:=fun vs σ H Q=>vs=[]/\Q σ H
noncomputable def G6(t:TG)(u:TGs):TGs:=fun vs σ H Q=>∃v r,vs=v::r/\t v σ H fun σ' H'=>u r σ' H' Q
theorem pgs_nil:PGs X [] gNil:=by
 intro pins s σ H vs us Q I r h;obtain⟨e,h⟩:=h;subst e;cases r;exact assignInOrder_nil ⟨σ,H,I,h⟩
theorem FK{e:Expr}{es:List Expr}{t:TG}{u:TGs}(h1:PG X e t)(h2:PGs X es u)
  (hs:(gK (e::es) X.env).map (·.2)=assign e X.env::(gK es X.env).map (·.2):=by rfl):PGs X (e::es) (G6 t u):=by
 intro pins s σ H vs us Q I r h;obtain⟨v,vr,e1,h⟩:=h;subst e1;cases r with
 |cons r rr=>
  rw[hs];refine assignInOrder_cons (thn (h1 pins s σ H _ _ _ I r h) fun _ s1 ⟨σ1,H1,I1,q1⟩=>?_);exact h2 pins s1 σ1 H1 _ _ Q I1 rr q1
noncomputable def gTup(K:ae)(n:Nat)(t:TGs):TG:=fun v σ H Q=>∃a xs,v=.ref a/\SqT K H a xs/\xs.length=n/\t xs σ H Q
theorem pg_tup{es:List Expr}{k:Nat}{t:TGs}{n:Nat}(hc:X.calm=true)(h:PGs X es t)
  (hn:(gK es X.env).length=n:=by rfl) (hst:(gK es X.env).findIdx? (·.1)=none:=by rfl):PG X (.Tuple es k pos) (gTup X.K n t):=by
 intro pins s σ H v u Q I r hw;obtain⟨a,xs,e1,hq,hl,hw⟩:=hw;subst e1;cases r;obtain⟨its,rv,ht,hz⟩:=I.tuple hq;refine assign_Tuple_tuple (I.ok.hd hc) ht (by simp[hn,<-hl,rv.length]) hst fun h' hx=>?_;have I1:Inv X pins σ H {s with heap:=h'}:=I.kept (t':=s.toks) fun b o e=>hx b o (aD (av e)) e;exact h pins _ σ H xs _ Q I1 (by simpa using rv) hw
noncomputable def gSub(to ti:TE)(t:TSet):TG:=fun v σ H Q=>to σ H fun o H1=>ti σ H1 fun i H2=>t o i v H2 fun H3=>Q σ H3
theorem pg_sub{o i:Expr}{to ti:TE}{t:TSet}(ho:PE X o to)(hi:PE X i ti)(hs:PSet X t)
  (ha:∀v,assign (.Subscript o i pos) X.env v=(do
   let ov<-holding [v] (eval o X.env)
   let iv<-holding [v,ov] (eval i X.env)
   xF pos
   holding [v,ov,iv] (setItem ov iv v)
   release [v,ov,iv] []):=by intro _;rfl):PG X (.Subscript o i pos) (gSub to ti t):=by
 intro pins s σ H v u Q I r h;rw[ha];refine aa (bh (thn (ho pins s σ H _ I h) fun ov s1 ⟨x,H1,I1,r1,q1⟩=>?_));refine aa (bh (thn (hi pins s1 σ H1 _ I1 q1) fun iv s2 ⟨y,H2,I2,r2,q2⟩=>?_));refine aa (gd (aa (bh (thn (hs pins s2 σ H2 x y v ov iv u _ I2 r1 r2 r q2) fun _ s3 ⟨H3,I3,q3⟩=>?_))));exact wpAny_release ⟨σ,H3,I3,q3⟩
noncomputable def rC(te:TE)(g:TG):TS:=fun D σ H=>te σ H fun x H1=>g x σ H1 D.nx
theorem Am{tg e:Expr}{te:TE}{g:TG}(he:PE X e te)(hg:PG X tg g)(hs:HM [tg] e pos.line X.env=pure false:=by rfl) (hw:swappedStores [tg] e X.env=pure none:=by rfl)
  (h1:(gK [tg] X.env).map (·.2)=[assign tg X.env]:=by rfl):PS X (.Assign [tg] e pos) (rC te g):=by
 intro pins s σ H D I h;refine wpAny_Assign_stores (thn (he pins s σ H _ I h) fun v s1 ⟨x,H1,I1,r1,q1⟩=>?_) hs hw;rw[h1];exact thn (hg pins s1 σ H1 x v _ I1 r1 q1) fun _ s2 q=>q
theorem ps_set{i:Nat}{x:Str}{e:Expr}{te:TE}{pos':Pos}(hN:X.N.Nodup)(hi:X.N[i]? =some x)(hx:Loc X.env.scope x)(he:PE X e te)(hs:nH e (some (.Name x pos')) pos.line X.env=pure false:=by rfl) (hf:X.fn x=true\/X.env.scope.names.lookup x=some .local :=by first |exact .inl rfl|exact .inr rfl|assumption):
  PS X (.Assign [.Name x pos'] e pos) (rC te (kj i)):=by
 intro pins s σ H D I h;refine wpAny_Assign_Name (thn (he pins s σ H _ I h) fun v s1 ⟨y,H1,I1,r1,q1⟩=>?_) hs;exact rE I1 hN hi hx r1 (fun s2 I2=>⟨_,H1,I2,q1⟩) hf
end
section
variable {X:Cx}{pos:Pos}
noncomputable def tWhile(c:TT)(tb:TS):TS:=fun D σ H=>∃W:Nat->St->Hp->Prop,(∃m,W m σ H)/\∀m σ H,W m σ H->
 c σ H fun b H1=>if b=true then ∃N:St->Hp->Prop,(∀σ' H',N σ' H'->∃m',m'<m/\W m' σ' H')/\tb {D with nx:=N,ct:=N,bk:=D.nx} σ H1 else D.nx σ H1
end
structure It where
 go:Nat->Hp->Prop
 yld:Nat->Hp->V->Hp->Prop
 stop:Nat->Hp->Prop
noncomputable def oZ(X:Cx)(pins:List (Addr×Obj))(H:Hp)(b:Addr):Prop:=
 H b=none/\b≠X.env.locals/\b∉X.fs/\(b∈X.ex\/X.s₀.heap.objs.size<=b)/\(∀x c,X.env.cells.lookup x=some c->c≠b)/\∀p∈X.pn++pins,p.1≠b
theorem Inv.wZ{X:Cx}{pins:List (Addr×Obj)}{σ:St}{H H':Hp}{s:Shared}{b:Addr}(I:Inv X pins σ H s)(hb:s.heap.objs.size<=b)(hn:H' b=none):oZ X pins H' b:=by
 refine⟨hn,cV (aW I.lt hb),I.nofs hb,.inr (aX I.sz hb),fun x c e z=>?_,fun p hp z=>?_⟩
 ·obtain⟨v,q⟩:=I.cell x c e
  exact absurd (aW q.lt (by rw[z];exact hb)) (eD _)
 ·exact absurd (aW (av (I.pin p hp).1) (by rw[z];exact hb)) (eD _)
structure Turn(P:Program)(w:World)(K:ae)(tg:Expr)(J:It)(fp:List Addr)(it:Addr)(tn:Nat->Heap->Prop):Prop where
 mem:it∈fp
 obj:∀i h,tn i h->∀b∈fp,∃o,h.get? b=some o/\∀v,o.data≠.cell v
 keep:∀i h h',tn i h->(∀b∈fp,∀o,h.get? b=some o->h'.get? b=some o)->tn i h'
 item:∀(X:Cx),X.prog=P->X.w=w->X.K=K->X.calm=true->∀(i:Nat)(pins:List (Addr×Obj))(s:Shared)(σ:St)(H:Hp)(E:Value->Shared->Prop),Inv X pins σ H s->(∀b∈fp,oZ X pins H b)->tn i s.heap->J.go i H->
  wpAny (model P w) X.A (pyNext (.ref it)) (fun r s1=>∃u,r=some u/\
   wpAny (model P w) X.A (o7 tg (.ref it) u) (fun _ s2=>∃x H',Inv X pins σ H' s2/\RelV x u/\J.yld i H x H'/\tn (i+1) s2.heap/\∀b∈fp,H' b=none) E s1) E s
 done:∀(X:Cx),X.prog=P->X.w=w->X.K=K->X.calm=true->∀(i:Nat)(pins:List (Addr×Obj))(s:Shared)(σ:St)(H:Hp)(E:Value->Shared->Prop),Inv X pins σ H s->(∀b∈fp,oZ X pins H b)->tn i s.heap->J.stop i H->
  wpAny (model P w) X.A (pyNext (.ref it)) (fun r s1=>r=none/\Inv X pins σ H s1) E s
 self:∀(A:Around)(i:Nat)(s:Shared)(Q:Value->Shared->Prop)(E:Value->Shared->Prop),tn i s.heap->Q (.ref it) s->wpAny (model P w) A (pyIter (.ref it)) Q E s
noncomputable abbrev TI:=St->Hp->(It->Hp->Prop)->Prop
noncomputable def PIE(X:Cx)(pins:List (Addr×Obj))(σ:St)(tg:Expr)(R:It->Hp->Prop)(itv:Value)(s2:Shared):Prop:=
 ∃(it:Addr)(fp:List Addr)(tn:Nat->Heap->Prop)(J:It)(H':Hp),itv=.ref it/\Inv X pins σ H' s2/\Turn X.prog X.w X.K tg J fp it tn/\tn 0 s2.heap/\(∀b∈fp,oZ X pins H' b)/\R J H'
noncomputable def PI(X:Cx)(tg iter:Expr)(wi:TI):Prop:=
 ∀(pins:List (Addr×Obj))(s:Shared)(σ:St)(H:Hp)(R:It->Hp->Prop),Inv X pins σ H s->wi σ H R->
  wpAny (model X.prog X.w) X.A (eval iter X.env) (fun v s1=>wpAny (model X.prog X.w) X.A (pyIter v) (PIE X pins σ tg R) X.xe s1) X.xe s
theorem BZ{M:Model}{A:Around}{E:Value->Shared->Prop}{s:Shared}{tg:Expr}{it:Addr}{u:Value}{o:Obj}{n:String}{vs:Array Value}{Q:Unit->Shared->Prop}(ho:s.heap.get? it=some o)(hc:o.cls=.type n)(hd:o.data=.fields vs)
  (hn:["enumerate","zip","dict_itemiterator","dict_reverseitemiterator","odict_iterator","itertools.zip_longest","itertools.pairwise"].contains n=false)(hQ:Q () s):wpAny M A (o7 tg (.ref it) u) Q E s:=by
 unfold o7;cases tg<;>first
  |exact ai hQ
  | (cases u<;>first
    |exact ai hQ
    | (refine aa (wpAny_load ho ?_)
       rw[hc,hd];show wpAny M A (if(["enumerate","zip","dict_itemiterator","dict_reverseitemiterator","odict_iterator","itertools.zip_longest","itertools.pairwise"].contains n&&vs[0]? ==some (rawInt _))=true then _ else _) Q E s;rw[if_neg (by intro h;rw[hn,cQ]at h;cases h)];exact ai hQ))
noncomputable def Itl(K:ae)(a:Addr):It:=
 ⟨fun i H=>∃xs x,SqL K H a xs/\xs[i]? =some x,fun i H x H'=>H'=H/\∀xs,SqL K H a xs->xs[i]? =some x,fun i H=>∃xs,SqL K H a xs/\xs.length<=i⟩
noncomputable def Itt(K:ae)(a:Addr):It:=
 ⟨fun i H=>∃xs x,SqT K H a xs/\xs[i]? =some x,fun i H x H'=>H'=H/\∀xs,SqT K H a xs->xs[i]? =some x,fun i H=>∃xs,SqT K H a xs/\xs.length<=i⟩
noncomputable def Itr(lo:Int)(n:Nat):It:=⟨fun i _=>i<n,fun i H x H'=>H'=H/\x=.int (lo+i),fun i _=>n<=i⟩
theorem uD{P:Program}{w:World}{K:ae}{tg:Expr}(a it:Addr):Turn P w K tg (Itl K a) [it] it (fun i h=>h.IsListIter it a i) where
 mem:=by simp
 obj:=fun i h st b hb=>by
  have e:b=it:=by simpa using hb
  subst e;obtain⟨o,e,c,d⟩:=st;exact⟨o,e,fun v z=>by rw[d]at z;cases z⟩
 keep:=fun i h h' st k=>st.at fun o e=>k it (by simp) o e
 item:=by
  intro X hP hw hK hc i pins s σ H E I hf st hg;subst hP hw hK;obtain⟨xs,x,hq,hx⟩:=hg;obtain⟨its,rv,p,hz⟩:=I.list hq;obtain⟨u,hu,ru⟩:=rv.get hx;obtain⟨f0,f1,f2,f3,f4,f5⟩:=hf it (by simp);refine wpAny_pyNext_list_item st p.isList (x:=u) (by simpa using hu) fun h' st' sb=>?_;have I1:Inv X pins σ H {s with heap:=h'}:=I.turned (t':=s.toks) (fun b o hb e=>(sb.2 b hb).trans e) f0 f1 f3 f4 f5;obtain⟨o,e,c,d⟩:=id st';exact⟨u,rfl,BZ (s:={s with heap:=h'}) e c d (by decide) ⟨x,H,I1,ru,⟨rfl,fun ys hy=>by rw[I.yL hy hq];exact hx⟩,st',fun b hb=>(hf b hb).1⟩⟩
 done:=by
  intro X hP hw hK hc i pins s σ H E I hf st hg;subst hP hw hK;obtain⟨xs,hq,hx⟩:=hg;obtain⟨its,rv,p,hz⟩:=I.list hq;obtain⟨f0,f1,f2,f3,f4,f5⟩:=hf it (by simp);have hl:=rv.length;exact wpAny_pyNext_list_end (I.ok.hd hc) st p.isList (by simp;omega) fun h' eb=>⟨rfl,I.turned (t':=s.toks) (fun b o hb e=>eb b o hb e) f0 f1 f3 f4 f5⟩
 self:=fun _ _ _ _ _ st h=>wpAny_pyIter_listiter st h
theorem rp{P:Program}{w:World}{K:ae}{tg:Expr}(a it:Addr):Turn P w K tg (Itt K a) [it] it (fun i h=>h.IsTupleIter it a i) where
 mem:=by simp
 obj:=fun i h st b hb=>by
  have e:b=it:=by simpa using hb
  subst e;obtain⟨o,e,c,d⟩:=st;exact⟨o,e,fun v z=>by rw[d]at z;cases z⟩
 keep:=fun i h h' st k=>st.at fun o e=>k it (by simp) o e
 item:=by
  intro X hP hw hK hc i pins s σ H E I hf st hg;subst hP hw hK;obtain⟨xs,x,hq,hx⟩:=hg;obtain⟨its,rv,p,hz⟩:=I.tuple hq;obtain⟨u,hu,ru⟩:=rv.get hx;obtain⟨f0,f1,f2,f3,f4,f5⟩:=hf it (by simp);refine wpAny_pyNext_tuple_item st (show s.heap.IsTuple a its.toArray from p) (x:=u) (by simpa using hu) fun h' st' sb=>?_;have I1:Inv X pins σ H {s with heap:=h'}:=I.turned (t':=s.toks) (fun b o hb e=>(sb.2 b hb).trans e) f0 f1 f3 f4 f5;obtain⟨o,e,c,d⟩:=id st';exact⟨u,rfl,BZ (s:={s with heap:=h'}) e c d (by decide) ⟨x,H,I1,ru,⟨rfl,fun ys hy=>by rw[I.pq hy hq];exact hx⟩,st',fun b hb=>(hf b hb).1⟩⟩
 done:=by
  intro X hP hw hK hc i pins s σ H E I hf st hg;subst hP hw hK;obtain⟨xs,hq,hx⟩:=hg;obtain⟨its,rv,p,hz⟩:=I.tuple hq;obtain⟨f0,f1,f2,f3,f4,f5⟩:=hf it (by simp);have hl:=rv.length;exact wpAny_pyNext_tuple_end (I.ok.hd hc) st (show s.heap.IsTuple a its.toArray from p) (by simp;omega) fun h' eb=>⟨rfl,I.turned (t':=s.toks) (fun b o hb e=>eb b o hb e) f0 f1 f3 f4 f5⟩
 self:=fun _ _ _ _ _ st h=>wpAny_pyIter_tupleiter st h
theorem zX{P:Program}{w:World}{K:ae}{tg:Expr}(it:Addr)(lo:Int)(n:Nat):Turn P w K tg (Itr lo n) [it] it (fun i h=>IsRangeIter h it (lo+(i:Nat)*1) ((n:Int)-(i:Nat)) 1) where
 mem:=by simp
 obj:=fun i h st b hb=>by
  have e:b=it:=by simpa using hb
  subst e;exact⟨_,st,fun v z=>by
   have z':Data.fields _=Data.cell v:=z;cases z'⟩
 keep:=fun i h h' st k=>k it (by simp) _ st
 item:=by
  intro X hP hw hK hc i pins s σ H E I hf st hg;subst hP hw hK;obtain⟨f0,f1,f2,f3,f4,f5⟩:=hf it (by simp);have W:=Walks.range (prog:=X.prog) (w:=X.w) (I.ok.hd hc) it lo 1 n;refine W.item i s _ _ hg st fun v h' tk hv st' kk=>?_;obtain⟨t,rfl⟩:=hv;have I1:Inv X pins σ H {s with heap:=h',toks:=tk}:=I.turned (fun b o hb e=>kk b o (by simpa using hb) e) f0 f1 f3 f4 f5;refine⟨_,rfl,BZ (s:={s with heap:=h',toks:=tk}) (n:="range_iterator") st' rfl rfl (by decide) ⟨.int (lo+i),H,I1,⟨t,?_⟩,⟨rfl,rfl⟩,st',fun b hb=>(hf b hb).1⟩⟩;rw[Int.mul_one]
 done:=by
  intro X hP hw hK hc i pins s σ H E I hf st hg;subst hP hw hK;obtain⟨f0,f1,f2,f3,f4,f5⟩:=hf it (by simp);exact wpAny_pyNext_range_end (I.ok.hd hc) st (by have :n<=i:=hg;omega) fun h' eb=>⟨rfl,I.turned (t':=s.toks) (fun b o hb e=>eb b o hb e) f0 f1 f3 f4 f5⟩
 self:=fun _ _ _ _ _ st h=>wpAny_pyIter_rangeiter st h
section
variable {X:Cx}{tg:Expr}
noncomputable def G0(K:ae)(tl:TE):TI:=fun σ H R=>tl σ H fun x H1=>∃a,x=.ref a/\(∃xs,SqL K H1 a xs)/\R (Itl K a) H1
noncomputable def iTup(K:ae)(tl:TE):TI:=fun σ H R=>tl σ H fun x H1=>∃a,x=.ref a/\(∃xs,SqT K H1 a xs)/\R (Itt K a) H1
theorem pi_list{l:Expr}{tl:TE}(hl:PE X l tl):PI X tg l (G0 X.K tl):=by
 intro pins s σ H R I h;refine thn (hl pins s σ H _ I h) fun v s1 ⟨x,H1,I1,r1,q1⟩=>?_;obtain⟨a,e,⟨xs,hq⟩,q⟩:=q1;subst e;cases r1;obtain⟨its,rv,p,hz⟩:=I1.list hq;refine iV p.isList ?_;refine⟨s1.heap.objs.size,[s1.heap.objs.size],_,_,H1,rfl,I1.kept (t':=s1.toks) fun b o e=>af _ e,uD a _,⟨_,au _ rfl,rfl,rfl⟩,fun b hb=>?_,q⟩;have e:b=s1.heap.objs.size:=by simpa using hb
 subst e;exact I1.wZ (aw _) (I1.hok.fresh (aw _))
theorem pi_tup{l:Expr}{tl:TE}(hl:PE X l tl):PI X tg l (iTup X.K tl):=by
 intro pins s σ H R I h;refine thn (hl pins s σ H _ I h) fun v s1 ⟨x,H1,I1,r1,q1⟩=>?_;obtain⟨a,e,⟨xs,hq⟩,q⟩:=q1;subst e;cases r1;obtain⟨its,rv,p,hz⟩:=I1.tuple hq;refine fW (show s1.heap.IsTuple a its.toArray from p) ?_;refine⟨s1.heap.objs.size,[s1.heap.objs.size],_,_,H1,rfl,I1.kept (t':=s1.toks) fun b o e=>af _ e,rp a _,⟨_,au _ rfl,rfl,rfl⟩,fun b hb=>?_,q⟩;have e:b=s1.heap.objs.size:=by simpa using hb
 subst e;exact I1.wZ (aw _) (I1.hok.fresh (aw _))
theorem yh{pins:List (Addr×Obj)}{σ:St}{H:Hp}{s:Shared}{R:It->Hp->Prop}{E:Value->Shared->Prop}{lo hi:Int}{t u v:Tok}{tk:Nat}(I:Inv X pins σ H s)(h1: -(2^62)<=lo)(h2:lo<2^62)(h3: -(2^62)<=hi)(h4:hi<2^62)
  (q:R (Itr lo (hi-lo).toNat) H):wpAny (model X.prog X.w) X.A (pyIter (.ref s.heap.objs.size)) (PIE X pins σ tg R) E {s with heap:=s.heap.push {cls:=.type "range",data:=.fields #[.int lo t,.int hi u,.int 1 v]},toks:=tk}:=by
 refine wpAny_pyIter_range (IsRange.new ..) (small_one h1 h2 h3 h4) ?_;have I1:Inv X pins σ H {s with heap:=s.heap.push {cls:=.type "range",data:=.fields #[.int lo t,.int hi u,.int 1 v]},toks:=tk}:=I.kept fun b o e=>af _ e;refine⟨(s.heap.push {cls:=.type "range",data:=.fields #[.int lo t,.int hi u,.int 1 v]}).objs.size,[(s.heap.push {cls:=.type "range",data:=.fields #[.int lo t,.int hi u,.int 1 v]}).objs.size],_,_,H,rfl,
  I1.kept (t':=tk) fun b o e=>af _ e,zX _ lo (hi-lo).toNat,?_,fun b hb=>?_,q⟩
 ·have e1:lo+((0:Nat):Int)*1=lo:=by simp
  have e2:(((hi-lo).toNat:Nat):Int)-((0:Nat):Int)=rg lo hi 1:=by rw[rangeSize_one];split <;>omega
  show IsRangeIter _ _ (lo+((0:Nat):Int)*1) ((((hi-lo).toNat:Nat):Int)-((0:Nat):Int)) 1;rw[e1,e2];exact au _ rfl
 ·have e:b=(s.heap.push {cls:=.type "range",data:=.fields #[.int lo t,.int hi u,.int 1 v]}).objs.size:=by simpa using hb
  subst e;exact I1.wZ (aw _) (I1.hok.fresh (aw _))
noncomputable def GZ(ta:TA):TI:=fun σ H R=>ta σ H fun vs H1=>∃j:Int,vs=[.int j]∧-(2^62)<=j/\j<2^62/\R (Itr 0 j.toNat) H1
noncomputable def GY(ta:TA):TI:=fun σ H R=>ta σ H fun vs H1=>∃i j:Int,vs=[.int i,.int j]/\(-(2^62)<=i/\i<2^62∧-(2^62)<=j/\j<2^62)/\R (Itr i (j-i).toNat) H1
theorem De{a:Expr}{ta:TA}{p pos:Pos}(hg:Gl X "range")(hm:X.mg "range"=none)(ha:PA X [a] ta)(hs:aK [a] X.env=[(false,eval a X.env)]:=by rfl):PI X tg (.Call (.Name "range" p) [a] [] pos) (GZ ta):=by
 intro pins s σ H R I h;refine Call_ (ji I hg hm boot_range (cA (thn (ha pos pins s σ H _ I h) fun us s1 ⟨vs,H1,I1,r1,q1⟩=>?_) hs rfl));obtain⟨j,e,q1,q2,q⟩:=q1;subst e;cases r1 with
 |cons r rr=>
  cases rr;obtain⟨t,rfl⟩:=r;exact call_range_1 (yh I1 (by omega) (by omega) q1 q2 (by simpa using q))
theorem Dd{a b:Expr}{ta:TA}{p pos:Pos}(hg:Gl X "range")(hm:X.mg "range"=none)(ha:PA X [a,b] ta)(hs:aK [a,b] X.env=[(false,eval a X.env),(false,eval b X.env)]:=by rfl) (hs2:aK [b] X.env=[(false,eval b X.env)]:=by rfl):
  PI X tg (.Call (.Name "range" p) [a,b] [] pos) (GY ta):=by
 intro pins s σ H R I h;refine Call_ (ji I hg hm boot_range (cA (thn (ha pos pins s σ H _ I h) fun us s1 ⟨vs,H1,I1,r1,q1⟩=>?_) (by rw[hs,hs2]) (by rw[hs2];rfl)));obtain⟨i,j,e,⟨q1,q2,q3,q4⟩,q⟩:=q1;subst e;cases r1 with
 |cons r rr=>
  cases rr with
  |cons r' rr=>
   cases rr;obtain⟨t,rfl⟩:=r;obtain⟨t',rfl⟩:=r';exact call_range_2 (yh I1 q1 q2 q3 q4 q)
noncomputable def tFor(wi:TI)(g:TG)(tb:TS):TS:=fun D σ H=>wi σ H fun J H1=>∃W:Nat->Nat->St->Hp->Prop,(∃m,W 0 m σ H1)/\∀i m σ H,W i m σ H->
 (J.stop i H/\D.nx σ H)\/(J.go i H/\∃N:St->Hp->Prop,(∀σ' H',N σ' H'->∃m',m'<m/\W (i+1) m' σ' H')/\∀x H',J.yld i H x H'->g x σ H' fun σ2 H2=>tb {D with nx:=N,ct:=N,bk:=D.nx} σ2 H2)
noncomputable def iF(fp:List Addr)(h:Heap):List (Addr×Obj):=fp.filterMap fun b=>(h.get? b).map fun o=>(b,o)
theorem gZ{fp:List Addr}{h:Heap}{b:Addr}{o:Obj}(hb:b∈fp)(e:h.get? b=some o):(b,o)∈iF fp h:=List.mem_filterMap.mpr ⟨b,hb,by rw[e];rfl⟩
theorem pD{fp:List Addr}{h:Heap}{p:Addr×Obj}(hp:p∈iF fp h):p.1∈fp/\h.get? p.1=some p.2:=by
 obtain⟨b,hb,e⟩:=List.mem_filterMap.mp hp;cases q:h.get? b with
 |none=>rw[q]at e;cases e
 |some o=>
  rw[q]at e;have e':(b,o)=p:=aY e;subst e';exact⟨hb,q⟩
theorem Inv.pinned{pins:List (Addr×Obj)}{σ:St}{H:Hp}{s:Shared}{fp:List Addr}(I:Inv X pins σ H s)(hf:∀b∈fp,oZ X pins H b)(ho:∀b∈fp,∃o,s.heap.get? b=some o/\∀v,o.data≠.cell v):Inv X (pins++iF fp s.heap) σ H s:=
 I.wA fun p hp=>(dW.mp hp).elim (fun z=>I.pin p (aZ _ z)) fun z=>by
  obtain⟨hb,e⟩:=pD z;obtain⟨f0,f1,f2,_⟩:=hf p.1 hb;obtain⟨o,e',d⟩:=ho p.1 hb;rw[e]at e';cases e';exact⟨e,f0,f1,f2,d⟩
theorem Inv.gM{pins pl:List (Addr×Obj)}{σ:St}{H:Hp}{s:Shared}(I:Inv X (pins++pl) σ H s):Inv X pins σ H s:=I.wA fun p hp=>I.pin p (aZ _ (dP _ hp))
theorem ps_for{iter:Expr}{body:List Stmt}{wi:TI}{g:TG}{tb:TS}{pos:Pos}(hp:PassesOwn (model X.prog X.w) X.A X.env X.xe)(hc:X.calm=true)(hi:PI X tg iter wi)(hg:PG X tg g)(hb:PSs X body tb)
  (hs:∀x,iZ iter X.env x=pure x:=by intro _;rfl):PS X (.For tg iter body [] pos) (tFor wi g tb):=by
 intro pins s σ H D I h;refine wpAny_For (thn (hi pins s σ H _ I h) fun v s1 h1=>thn h1 fun itv s2 h2=>?_) hs;obtain⟨it,fp,tn,J,H2,e,I2,T,st2,f2,W,⟨m0,w0⟩,turn⟩:=h2;subst e
 --what stays true of the iterator's objects through the loop
 have stat:∀{H':Hp},(∀b∈fp,H' b=none)->∀b∈fp,oZ X pins H' b:=fun hn b hb=>⟨hn b hb,(f2 b hb).2⟩;refine codeAny_forLoop_any (fun n s'=>∃i σ' H',Inv X pins σ' H' s'/\tn i s'.heap/\(∀b∈fp,H' b=none)/\W i n σ' H') ?_ m0 ⟨0,σ,H2,I2,st2,fun b hb=>(f2 b hb).1,w0⟩;rintro n s3 ⟨i,σ3,H3,I3,st3,fr3,w3⟩;rcases turn i n σ3 H3 w3 with⟨stop,qn⟩ |⟨go,N,hN,step⟩
 ·refine kD hp (thn (T.done X rfl rfl rfl hc i pins s3 σ3 H3 X.xe I3 (stat fr3) st3 stop) fun r s4 ⟨hr,I4⟩=>?_)
  subst hr;exact wpAny_execs_nil ⟨σ3,H3,I4,qn⟩
 ·refine kD hp (thn (T.item X rfl rfl rfl hc i pins s3 σ3 H3 X.xe I3 (stat fr3) st3 go) fun r s4 ⟨u,hr,h4⟩=>?_)
  subst hr;refine kD hp (thn h4 fun _ s5 ⟨x,H5,I5,r5,y5,st5,fr5⟩=>?_);have I5':=I5.pinned (stat fr5) (T.obj _ _ st5);refine kD hp (thn (hg _ s5 σ3 H5 x u _ I5' r5 (step x H5 y5)) fun _ s6 ⟨σ6,H6,I6,q6⟩=>?_);refine kD hp (thn (hb _ s6 σ6 H6 _ I6 q6) fun f s7 q7=>?_);have again:∀{σ7:St}{H7:Hp},Inv X (pins++iF fp s5.heap) σ7 H7 s7->N σ7 H7->∃m,m<n/\∃i σ' H',Inv X pins σ' H' s7/\tn i s7.heap/\(∀b∈fp,H' b=none)/\W i m σ' H':=fun{σ7 H7} I7 n7=>by
   obtain⟨m',hm,w7⟩:=hN σ7 H7 n7;refine⟨m',hm,i+1,σ7,H7,I7.gM,T.keep _ _ _ st5 fun b hb o e=>(I7.pin (b,o) (aZ _ (aZ _ (gZ hb e)))).1,fun b hb=>?_,w7⟩;obtain⟨o,e,d⟩:=T.obj _ _ st5 b hb;exact(I7.pin (b,o) (aZ _ (aZ _ (gZ hb e)))).2.1
  cases f with
  |next =>obtain⟨σ7,H7,I7,n7⟩:=q7;exact again I7 n7
  |cont=>obtain⟨σ7,H7,I7,n7⟩:=q7;exact again I7 n7
  |brk=>obtain⟨σ7,H7,I7,q7⟩:=q7;exact⟨σ7,H7,I7.gM,q7⟩
  |ret v=>obtain⟨x7,σ7,H7,I7,r7,q7⟩:=q7;exact⟨x7,σ7,H7,I7.gM,r7,q7⟩
end
noncomputable abbrev R2:=V->V->Hp->VK->Prop
noncomputable def OpR(X:Cx)(f:Value->Value->Sem Value)(r:R2):Prop:=
 ∀(pins:List (Addr×Obj))(s:Shared)(σ:St)(H:Hp)(x y:V)(v u:Value)(Q:VK),Inv X pins σ H s->RelV x v->RelV y u->r x y H Q->
  wpAny (model X.prog X.w) X.A (f v u) (EP X pins σ Q) X.xe s
noncomputable def UnR(X:Cx)(f:Value->Sem Value)(r:V->Hp->VK->Prop):Prop:=
 ∀(pins:List (Addr×Obj))(s:Shared)(σ:St)(H:Hp)(x:V)(v:Value)(Q:VK),Inv X pins σ H s->RelV x v->r x H Q->
  wpAny (model X.prog X.w) X.A (f v) (EP X pins σ Q) X.xe s
noncomputable def eL(X:Cx)(f:Value)(r:List V->Hp->VK->Prop):Prop:=
 ∀(pins:List (Addr×Obj))(s:Shared)(σ:St)(H:Hp)(xs:List V)(us:List Value)(Q:VK),Inv X pins σ H s->bM xs us->r xs H Q->
  wpAny (model X.prog X.w) X.A (call f us) (EP X pins σ Q) X.xe s
noncomputable def TruR(X:Cx)(r:V->Hp->(Bool->Hp->Prop)->Prop):Prop:=
 ∀(pins:List (Addr×Obj))(s:Shared)(σ:St)(H:Hp)(x:V)(v:Value)(Q:Bool->Hp->Prop),Inv X pins σ H s->RelV x v->r x H Q->
  wpAny (model X.prog X.w) X.A (truthy v) (TP X pins σ Q) X.xe s
noncomputable def tOp(r:R2)(ta tb:TE):TE:=fun σ H Q=>ta σ H fun x H1=>tb σ H1 fun y H2=>r x y H2 Q
noncomputable def tUn(r:V->Hp->VK->Prop)(ta:TE):TE:=fun σ H Q=>ta σ H fun x H1=>r x H1 Q
noncomputable def rI(C:Int->Int->Prop)(g:Int->Int->V):R2:=fun x y H Q=>∃i j,x=.int i/\y=.int j/\C i j/\Q (g i j) H
noncomputable def rI0(g:Int->Int->V):R2:=fun x y H Q=>∃i j,x=.int i/\y=.int j/\Q (g i j) H
noncomputable def rU(g:Int->V):V->Hp->VK->Prop:=fun x H Q=>∃i,x=.int i/\Q (g i) H
section
variable {X:Cx}{a b c:Expr}{ta tb tc:TE}{pos:Pos}
theorem binT(ha:PE X a ta)(hb:PE X b tb){pins:List (Addr×Obj)}{s:Shared}{σ:St}{H:Hp}{R:V->V->Hp->Prop}(I:Inv X pins σ H s)
  (h:ta σ H fun x H1=>tb σ H1 fun y H2=>R x y H2){Q:Value->Shared->Prop}{f:Value->Value->Sem Value}
  (hf:∀v u s2 x y H2,Inv X pins σ H2 s2->RelV x v->RelV y u->R x y H2->wpAny (model X.prog X.w) X.A (f v u) Q X.xe s2):
  wpAny (model X.prog X.w) X.A (eval a X.env) (fun v s₁=>wpAny (model X.prog X.w) X.A (eval b X.env) (fun u s₂=>wpAny (model X.prog X.w) X.A (f v u) Q X.xe s₂) X.xe s₁) X.xe s:=by
 refine thn (ha pins s σ H _ I h) fun v s1 ⟨x,H1,I1,r1,q1⟩=>?_;refine thn (hb pins s1 σ H1 _ I1 q1) fun u s2 ⟨y,H2,I2,r2,q2⟩=>?_;exact hf v u s2 x y H2 I2 r1 r2 q2
theorem pe_op{op:Operator}{r:R2}(ho:OpR X (eN op) r)(ha:PE X a ta)(hb:PE X b tb):PE X (.BinOp a op b pos) (tOp r ta tb):=by
 intro pins s σ H Q I h;exact wpAny_BinOp (binT ha hb I h fun v u s2 x y H2 I2 rx ry q=>ho pins s2 σ H2 x y v u Q I2 rx ry q)
theorem pe_un{op:Co}{r:V->Hp->VK->Prop}(ho:UnR X (unaryOp op) r)(ha:PE X a ta):PE X (.UnaryOp op a pos) (tUn r ta):=by
 intro pins s σ H Q I h;exact UnaryOp_ (thn (ha pins s σ H _ I h) fun v s1 ⟨x,H1,I1,r1,q1⟩=>ho pins s1 σ H1 x v Q I1 r1 q1)
theorem opI{f:Value->Value->Sem Value}{C:Int->Int->Prop}{g:Int->Int->Int}
  (rule:∀(i j:Int)(t u:Tok)(s:Shared)(Q:Value->Shared->Prop)(E:Value->Shared->Prop),C i j->Q (.int (g i j) s.toks) {s with toks:=s.toks+1}->wpAny (model X.prog X.w) X.A (f (.int i t) (.int j u)) Q E s):
  OpR X f (rI C fun i j=>.int (g i j)):=by
 intro pins s σ H x y v u Q I rx ry h;obtain⟨i,j,rfl,rfl,hc,q⟩:=h;obtain⟨t,rfl⟩:=rx;obtain⟨t',rfl⟩:=ry;exact rule i j t t' s _ _ hc ⟨.int (g i j),H,I.tok _,⟨_,rfl⟩,q⟩
theorem opI0{f:Value->Value->Sem Value}{g:Int->Int->Int}
  (rule:∀(i j:Int)(t u:Tok)(s:Shared)(Q:Value->Shared->Prop)(E:Value->Shared->Prop),Q (.int (g i j) s.toks) {s with toks:=s.toks+1}->wpAny (model X.prog X.w) X.A (f (.int i t) (.int j u)) Q E s):
  OpR X f (rI0 fun i j=>.int (g i j)):=by
 intro pins s σ H x y v u Q I rx ry h;obtain⟨i,j,rfl,rfl,q⟩:=h;obtain⟨t,rfl⟩:=rx;obtain⟨t',rfl⟩:=ry;exact rule i j t t' s _ _ ⟨.int (g i j),H,I.tok _,⟨_,rfl⟩,q⟩
theorem opB0{f:Value->Value->Sem Value}{g:Int->Int->Bool}
  (rule:∀(i j:Int)(t u:Tok)(s:Shared)(Q:Value->Shared->Prop)(E:Value->Shared->Prop),Q (.bool (g i j)) s->wpAny (model X.prog X.w) X.A (f (.int i t) (.int j u)) Q E s):
  OpR X f (rI0 fun i j=>.bl (g i j)):=by
 intro pins s σ H x y v u Q I rx ry h;obtain⟨i,j,rfl,rfl,q⟩:=h;obtain⟨t,rfl⟩:=rx;obtain⟨t',rfl⟩:=ry;exact rule i j t t' s _ _ ⟨.bl (g i j),H,I,rfl,q⟩
noncomputable def HL(i j:Int):Prop:=0<j/\j<1073741824
noncomputable def D7(i j:Int):Prop:=0<=j/\j<=1000000/\i.natAbs<2^64
noncomputable def Bh(i j:Int):Prop:=(-(2^64)<i/\i<2^64)\/(-(2^64)<j/\j<2^64)
theorem Bh.ok{i j:Int}(h:Bh i j):IntMulOk i j:=by
 rcases h with⟨h1,h2⟩ |⟨h1,h2⟩
 ·exact .of_left (intBits_le_64 h1 h2)
 ·exact .of_right (intBits_le_64 h1 h2)
theorem zW(k:Nat):(0:Int)<=2^k:=by
 rw[two_pow_cast];exact Int.natCast_nonneg _
theorem op_add:OpR X (eN .Add) (rI0 fun i j=>.int (i+j)):=opI0 fun _ _ _ _ _ _ _ q=>add_int q
theorem op_sub:OpR X (eN .Sub) (rI0 fun i j=>.int (i-j)):=opI0 fun _ _ _ _ _ _ _ q=>sub_int q
theorem op_mul:OpR X (eN .Mult) (rI Bh fun i j=>.int (i*j)):=opI fun _ _ _ _ _ _ _ hc q=>mul_int q hc.ok
theorem op_fdiv:OpR X (eN .FloorDiv) (rI HL fun i j=>.int (i/j)):=opI fun i j _ _ _ _ _ hc q=>by
 have h1:(0:Int)<j:=hc.1;have h2:j<1073741824:=hc.2;exact floordiv_int (by omega) (by rw[zE i (by omega)];exact q) (.inl (PyProof.noPylong_small (by omega)))
theorem op_mod:OpR X (eN .Mod) (rI (fun _ j=>0<j) fun i j=>.int (i%j)):=opI fun i j _ _ _ _ _ hc q=>by
 have h1:(0:Int)<j:=hc;exact mod_int' (by omega) (by rw[Int.fmod_eq_emod_of_nonneg i (by omega)];exact q)
theorem op_pow:OpR X (eN .Pow) (rI D7 fun i j=>.int (i^j.toNat)):=opI fun _ _ _ _ _ _ _ hc q=>pow_int_small hc.1 hc.2.1 hc.2.2 q
theorem op_shl:OpR X (eN .LShift) (rI D7 fun i j=>.int (i*2^j.toNat)):=opI fun _ _ _ _ _ _ _ hc q=>lshift_int_small hc.1 hc.2.1 hc.2.2 q
theorem op_shr:OpR X (eN .RShift) (rI (fun _ j=>0<=j) fun i j=>.int (i/2^j.toNat)):=opI fun i j _ _ _ _ _ hc q=>
 rshift_int hc (by rw[zE i (zW _)];exact q)
theorem op_and:OpR X (eN .BitAnd) (rI0 fun i j=>.int (gY i j)):=opI0 fun _ _ _ _ _ _ _ q=>and_int q
theorem op_xor:OpR X (eN .BitXor) (rI0 fun i j=>.int (jB i j)):=opI0 fun _ _ _ _ _ _ _ q=>xor_int q
theorem unI{f:Value->Sem Value}{g:Int->Int}
  (rule:∀(i:Int)(t:Tok)(s:Shared)(Q:Value->Shared->Prop)(E:Value->Shared->Prop),Q (.int (g i) s.toks) {s with toks:=s.toks+1}->wpAny (model X.prog X.w) X.A (f (.int i t)) Q E s):
  UnR X f (rU fun i=>.int (g i)):=by
 intro pins s σ H x v Q I rx h;obtain⟨i,rfl,q⟩:=h;obtain⟨t,rfl⟩:=rx;exact rule i t s _ _ ⟨.int (g i),H,I.tok _,⟨_,rfl⟩,q⟩
theorem un_neg:UnR X (unaryOp .USub) (rU fun i=>.int (-i)):=unI fun _ _ _ _ _ q=>neg_int q
end
section
variable {X:Cx}{a b c:Expr}{ta tb tc:TE}{pos:Pos}
theorem sL{pins:List (Addr×Obj)}{σ:St}{H:Hp}{s:Shared}{Q:VK}{k k':Bool}(I:Inv X pins σ H s)(q:Q (.bl k) H)(e:k=k'):EP X pins σ Q (.bool k') s:=by
 subst e;exact⟨.bl k,H,I,rfl,q⟩
theorem op_lt:OpR X (cY .Lt) (rI0 fun i j=>.bl (decide (i<j))):=opB0 fun _ _ _ _ _ _ _ q=>lt_int q
theorem op_le:OpR X (cY .LtE) (rI0 fun i j=>.bl (decide (i<=j))):=opB0 fun _ _ _ _ _ _ _ q=>le_int q
theorem op_gt:OpR X (cY .Gt) (rI0 fun i j=>.bl (decide (j<i))):=opB0 fun _ _ _ _ _ _ _ q=>gt_int q
theorem op_ge:OpR X (cY .GtE) (rI0 fun i j=>.bl (decide (j<=i))):=opB0 fun _ _ _ _ _ _ _ q=>ge_int q
theorem Di:OpR X (cY .In) (fun x y H Q=>∃i j,x=.str i/\y=.str j/\Q (.bl (!(gw j i 0 j.length 1).isEmpty)) H):=by
 intro pins s σ H x y v u Q I rx ry h;obtain⟨i,j,rfl,rfl,q⟩:=h;obtain⟨t,rfl⟩:=rx;obtain⟨t',rfl⟩:=ry;exact in_str (sL I q rfl)
theorem op_isN:OpR X (cY .Is) (fun x y H Q=>y=.non/\Q (.bl (decide (x=.non))) H):=by
 intro pins s σ H x y v u Q I rx ry h;obtain⟨rfl,q⟩:=h;cases ry;refine is_none_gen (sL I q ?_);cases x<;>first
  | (cases rx;rfl)
  | (obtain⟨t,rfl⟩:=rx;rfl)
theorem op_notN:OpR X (cY .IsNot) (fun x y H Q=>y=.non/\Q (.bl (!decide (x=.non))) H):=by
 intro pins s σ H x y v u Q I rx ry h;obtain⟨rfl,q⟩:=h;cases ry;refine isnot_none_gen (sL I q ?_);cases x<;>first
  | (cases rx;rfl)
  | (obtain⟨t,rfl⟩:=rx;rfl)
theorem OpR.or{f:Value->Value->Sem Value}{r r':R2}(h:OpR X f r)(h':OpR X f r'):OpR X f (fun x y H Q=>r x y H Q\/r' x y H Q):=by
 intro pins s σ H x y v u Q I rx ry q;rcases q with q|q
 ·exact h pins s σ H x y v u Q I rx ry q
 ·exact h' pins s σ H x y v u Q I rx ry q
theorem pe_cmpR{op:CmpOp}{r:R2}(ho:OpR X (cY op) r)(ha:PE X a ta)(hb:PE X b tb)(hm:HR op b=false):PE X (.Compare a [op] [b] pos) (tOp r ta tb):=by
 intro pins s σ H Q I h;exact wpAny_Compare1 (binT ha hb I h fun v u s2 x y H2 I2 rx ry q=>ho pins s2 σ H2 x y v u Q I2 rx ry q) hm
noncomputable def x8(t:TE):TT:=fun σ H Q=>t σ H fun x H'=>∃k,x=.bl k/\Q k H'
theorem pt_cmpR{op:CmpOp}{r:R2}(ho:OpR X (cY op) r)(ha:PE X a ta)(hb:PE X b tb)(hm:HR op b=false):PT X (.Compare a [op] [b] pos) (x8 (tOp r ta tb)):=by
 intro pins s σ H Q I h;refine wpAny_isTrue_Compare1 (thn (ha pins s σ H _ I h) fun v s1 ⟨x,H1,I1,r1,q1⟩=>thn (hb pins s1 σ H1 _ I1 q1) fun u s2 ⟨y,H2,I2,r2,q2⟩=>
  thn (ho pins s2 σ H2 x y v u _ I2 r1 r2 q2) fun c s3 ⟨z,H3,I3,r3,k,e,q3⟩=>?_) hm
 subst e;cases r3;exact cO ⟨H3,I3,q3⟩
noncomputable def rB(r r':R2)(ta tb tc:TE):TE:=fun σ H Q=>ta σ H fun x H1=>tb σ H1 fun y H2=>r x y H2 fun z H3=>∃k,z=.bl k/\
 (if k=true then tc σ H3 fun w' H4=>r' y w' H4 Q else Q (.bl false) H3)
theorem FZ{op op':CmpOp}{r r':R2}(ho:OpR X (cY op) r)(ho':OpR X (cY op') r')(ha:PE X a ta)(hb:PE X b tb)(hc:PE X c tc)
  (hm:lastMarks [op,op'] [b,c]=false:=by with_unfolding_all rfl):PE X (.Compare a [op,op'] [b,c] pos) (rB r r' ta tb tc):=by
 intro pins s σ H Q I h;refine Compare_chain (thn (ha pins s σ H _ I h) fun v s1 ⟨x,H1,I1,r1,q1⟩=>chain_link (thn (hb pins s1 σ H1 _ I1 q1) fun u s2 ⟨y,H2,I2,r2,q2⟩=>
  thn (ho pins s2 σ H2 x y v u _ I2 r1 r2 q2) fun d s3 ⟨z,H3,I3,r3,k,e,q3⟩=>?_)) hm
 subst e;cases r3;refine cO ?_;cases k with
 |false=>exact ite_ff ⟨.bl false,H3,I3,rfl,q3⟩
 |true=>exact ite_tt (chain_last (thn (hc pins s3 σ H3 _ I3 q3) fun w' s4 ⟨z',H4,I4,r4,q4⟩=>ho' pins s4 σ H4 y z' u w' Q I4 r2 r4 q4))
theorem FE{op op':CmpOp}{r r':R2}(ho:OpR X (cY op) r)(ho':OpR X (cY op') r')(ha:PE X a ta)(hb:PE X b tb)(hc:PE X c tc)
  (hm:lastMarks [op,op'] [b,c]=false:=by with_unfolding_all rfl):PT X (.Compare a [op,op'] [b,c] pos) (x8 (rB r r' ta tb tc)):=by
 intro pins s σ H Q I h;refine isTrue_chain (thn (ha pins s σ H _ I h) fun v s1 ⟨x,H1,I1,r1,q1⟩=>test_link (thn (hb pins s1 σ H1 _ I1 q1) fun u s2 ⟨y,H2,I2,r2,q2⟩=>
  thn (ho pins s2 σ H2 x y v u _ I2 r1 r2 q2) fun d s3 ⟨z,H3,I3,r3,k,e,q3⟩=>?_)) hm
 subst e;cases r3;refine cO ?_;cases k with
 |false=>
  obtain⟨k',e',q'⟩:=q3;cases e';exact ite_ff ⟨H3,I3,q'⟩
 |true=>
  refine ite_tt (test_last (thn (hc pins s3 σ H3 _ I3 q3) fun w' s4 ⟨z',H4,I4,r4,q4⟩=>thn (ho' pins s4 σ H4 y z' u w' _ I4 r2 r4 q4) fun d' s5 ⟨z2,H5,I5,r5,k2,e2,q5⟩=>?_));subst e2;cases r5;exact cO ⟨H5,I5,q5⟩
noncomputable def TruV(K:ae)(x:V)(H:Hp)(k:Bool):Prop:=
 match x with
 |.non=>k=false
 |.bl b=>k=b
 |.int i=>k=(i != 0)
 |.str y=>y.length<=sizeLine/\k=((y.length:Int) != 0)
 |.byt y=>y.size<=sizeLine/\k=((y.size:Int) != 0)
 |.ref p=>(∃xs,SqL K H p xs/\k= !xs.isEmpty)\/(∃xs,SqT K H p xs/\k= !xs.isEmpty)\/∃kvs,H p=some (.dK kvs)/\k= !kvs.isEmpty
 |_=>False
theorem AV{κ:Type}{kvs:List (κ×V)}{vs:List (κ×Value)}(r:KV kvs vs):(!vs.isEmpty)= !kvs.isEmpty:=by
 cases r<;>rfl
theorem sA{xs:List V}{its:List Value}(r:bM xs its):(!its.toArray.isEmpty)= !xs.isEmpty:=by
 cases r<;>simp
theorem ni:(sizeLine:Nat)<2^63:=by rw[j4];decide
theorem tru_ok:TruR X (fun x H Q=>∃k,TruV X.K x H k/\Q k H):=by
 intro pins s σ H x v Q I rx h;obtain⟨k,e,q⟩:=h;have hl:=ni;have hs:sizeLine=16777216:=j4;cases x with
 |non=>
  cases rx;have e':k=false:=e;subst e';exact truthy_none ⟨H,I,q⟩
 |bl b=>
  cases rx;have e':k=b:=e;subst e';exact cO ⟨H,I,q⟩
 |int i=>
  obtain⟨t,rfl⟩:=rx;have e':k=(i != 0):=e;subst e';exact PySem.P.truthy_int ⟨H,I,q⟩
 |str y=>
  obtain⟨t,rfl⟩:=rx;obtain⟨hy,e'⟩:y.length<=sizeLine/\k=((y.length:Int) != 0):=e;subst e';exact PySem.P.truthy_str (by omega) ⟨H,I.tok _,q⟩
 |byt y=>
  obtain⟨t,rfl⟩:=rx;obtain⟨hy,e'⟩:y.size<=sizeLine/\k=((y.size:Int) != 0):=e;subst e';exact PySem.W.truthy_bytes (by omega) ⟨H,I.tok _,q⟩
 |ref p=>
  cases rx;have e':(∃xs,SqL X.K H p xs/\k= !xs.isEmpty)\/(∃xs,SqT X.K H p xs/\k= !xs.isEmpty)\/∃kvs,H p=some (.dK kvs)/\k= !kvs.isEmpty:=e;rcases e' with⟨xs,hx,e'⟩ |⟨xs,hx,e'⟩ |⟨kvs,hx,e'⟩
  ·subst e'
   obtain⟨its,r,pl,hz⟩:=I.list hx;have hlen:=r.length;exact wpAny_truthy_list pl.isList (by simp only[ay];omega) ⟨H,I.tok _,by rw[sA r];exact q⟩
  ·subst e'
   obtain⟨its,r,pl,hz⟩:=I.tuple hx;have hlen:=r.length;exact truthy_tuple pl (by simp only[ay];omega) ⟨H,I.tok _,by rw[sA r];exact q⟩
  ·subst e'
   obtain⟨hz,hS,vs,r,m⟩:kvs.length<=sizeLine/\(p==dR)=false/\∃vs,KV kvs vs/\s.heap.DictOf (bR X.prog X.w) p vs:=I.hok p _ hx;have hlen:kvs.length=vs.length:=kG r;exact wpAny_truthy_dict hS m (by omega) ⟨H,I.tok _,by rw[AV r];exact q⟩
 |_=>exact(show False from e).elim
theorem oa(ha:PE X a ta)(he:∀whole,isTrue a X.env whole=(do let v<-whole;xF a.pos;holding [v] (truthy v))):
  PT X a (fun σ H Q=>ta σ H fun x H'=>∃k,TruV X.K x H' k/\Q k H'):=by
 intro pins s σ H Q I h;exact isTrue_plain (thn (ha pins s σ H _ I h) fun v s1 ⟨x,H1,I1,r1,q1⟩=>tru_ok pins s1 σ H1 x v Q I1 r1 q1) (he _)
theorem Ax:OpR X (eN .Add) (fun x y H Q=>∃i j,x=.str i/\y=.str j/\i.length+j.length<=sizeLine/\Q (.str (i++j)) H):=by
 intro pins s σ H x y v u Q I rx ry h;obtain⟨i,j,rfl,rfl,hz,q⟩:=h;obtain⟨t,rfl⟩:=rx;obtain⟨t',rfl⟩:=ry;exact add_str (fun t' tk=>⟨.str (i++j),H,I.tok _,⟨_,rfl⟩,q⟩) hz
theorem vals1{x:V}{us:List Value}(r:bM [x] us):∃u,us=[u]/\RelV x u:=by
 cases r with
 |cons r1 r2=>cases r2;exact⟨_,rfl,r1⟩
theorem vals2{x y:V}{us:List Value}(r:bM [x,y] us):∃u w',us=[u,w']/\RelV x u/\RelV y w':=by
 cases r with
 |cons r1 r2=>
  cases r2 with
  |cons r3 r4=>cases r4;exact⟨_,_,rfl,r1,r3⟩
theorem pO(hc:X.calm=true):eL X (.builtin "min") (fun xs H Q=>∃i j,xs=[.int i,.int j]/\Q (.int (if j<i then j else i)) H):=by
 intro pins s σ H xs us Q I r h;obtain⟨i,j,rfl,q⟩:=h;obtain⟨u,w',rfl,⟨t,rfl⟩,⟨t',rfl⟩⟩:=vals2 r;refine min_two_ints (I.ok.hd hc) fun h' tk k=>⟨_,H,I.kept k,?_,q⟩;by_cases hj:j<i
 ·rw[if_pos hj,if_pos hj];exact⟨_,rfl⟩
 ·rw[if_neg hj,if_neg hj];exact⟨_,rfl⟩
theorem DW:eL X (.type "int") (fun xs H Q=>(∃i,xs=[.int i]/\Q (.int i) H)\/∃k,xs=[.bl k]/\Q (.int (if k then 1 else 0)) H):=by
 intro pins s σ H xs us Q I r h;rcases h with⟨i,rfl,q⟩ |⟨k,rfl,q⟩
 ·obtain⟨u,rfl,t,rfl⟩:=vals1 r
  exact call_int_int ⟨.int i,H,I,⟨_,rfl⟩,q⟩
 ·obtain⟨u,rfl,r1⟩:=vals1 r
  cases r1;exact call_int_bool ⟨.int (if k then 1 else 0),H,I.tok _,⟨_,rfl⟩,q⟩
end
structure ObjM(h:Heap)(x dx C:Addr)(mA:Str->Option Value):Prop where
 obj:h.get? x=some (tK C dx)
 ns:h.Ns1 dx mA
 ne:dx≠x
theorem Dz{h:Heap}{dx:Addr}{mA:Str->Option Value}(n:h.Ns1 dx mA):∃od,h.get? dx=some od/\∀name,uA name od=some (mA name):=by
 obtain⟨o,es,ep,ho,hd,hk,_,hm⟩:=n;refine⟨o,ho,fun name=>?_⟩;have e:=hm name;unfold nsFind findBy at e;rw[<-pY]at e;unfold uA;rw[hd];dsimp only;split
 ·rename_i y q
  rw[q]at e;exact congrArg some e
 ·rename_i q
  rw[q]at e;have a:es.toList.any (·.refKey)=false:=by
   rw[List.any_eq_false];intro y hy;obtain⟨z,t,hkey⟩:=hk y (i4.mp hy);simp[DictEntry.refKey,hkey]
  have a':¬es.toList.any (·.refKey)=true:=by rw[a];exact aq
  rw[if_neg a'];exact congrArg some e
theorem ObjM.look{h:Heap}{x dx C:Addr}{mA:Str->Option Value}(I:ObjM h x dx C mA):∃od,PySem.W.InstAt h x (tK C dx) C (some od)/\∀name,uA name od=some (mA name):=
 let⟨od,ho,hl⟩:=Dz I.ns
 ⟨od,⟨I.obj,rfl,rfl,ho⟩,hl⟩
noncomputable def kL(f:Str)(v:V):List (Str×V)->List (Str×V)
 | []=>[(f,v)]
 | (g,x)::r=>if g=f then(g,v)::r else(g,x)::kL f v r
theorem qd(f g:Str)(v:V):∀fs:List (Str×V),(kL f v fs).lookup g=if g=f then some v else fs.lookup g
 | []=>by
  show cP g [(f,v)]=_;by_cases h:g=f
  ·have hb:(g==f)=true:=beq_iff_eq.mpr h
   simp only[cP,hb,if_pos h]
  ·have hb:(g==f)=false:=beq_eq_false_iff_ne.mpr h
   simp only[cP,hb,if_neg h]
 | (k,x)::r=>by
  have ih:=qd f g v r;rw[show kL f v ((k,x)::r)=(if k=f then(k,v)::r else(k,x)::kL f v r)from rfl];by_cases hk:k=f
  ·rw[if_pos hk]
   by_cases h:g=k
   ·have hb:(g==k)=true:=beq_iff_eq.mpr h
    simp only[cP,hb,if_pos (h.trans hk)]
   ·have hb:(g==k)=false:=beq_eq_false_iff_ne.mpr h
    simp only[cP,hb,if_neg (fun e:g=f=>h (e.trans hk.symm))]
  ·rw[if_neg hk]
   by_cases h:g=k
   ·have hb:(g==k)=true:=beq_iff_eq.mpr h
    simp only[cP,hb,if_neg (fun e:g=f=>hk (h.symm.trans e))]
   ·have hb:(g==k)=false:=beq_eq_false_iff_ne.mpr h
    simp only[cP,hb];exact ih
theorem pF(f:Str)(v:V):∀fs:List (Str×V),f∈(kL f v fs).map (·.1)/\∀g,g∈fs.map (·.1)->g∈(kL f v fs).map (·.1)
 | []=>⟨by simp[kL],fun g h=>by simp at h⟩
 | (k,x)::r=>by
  obtain⟨i1,i2⟩:=pF f v r;rw[show kL f v ((k,x)::r)=(if k=f then(k,v)::r else(k,x)::kL f v r)from rfl];by_cases hk:k=f
  ·rw[if_pos hk]
   subst hk;exact⟨by simp,fun g h=>by simpa using h⟩
  ·rw[if_neg hk]
   refine⟨?_,fun g h=>?_⟩
   ·rw[bB]
    exact aN _ i1
   ·rw[bB]at h⊢
    rcases aC.mp h with e|e
    ·exact aC.mpr (.inl e)
    ·exact aN _ (i2 g e)
theorem pR.some_of{v:V}{o:Option Value}(r:pR (some v) o):∃u,o=some u/\RelV v u:=by
 cases o with
 |none=>exact(show False from r).elim
 |some u=>exact⟨u,rfl,r⟩
section
variable {P:Program}{w:World}{H H':Hp}{h h':Heap}{a C dx:Addr}{fs fs':List (Str×V)}
theorem ins_get(hok:HOk P w H h)(e:H a=some (.ins C dx fs)):∃mA,ObjM h a dx C mA/\(∀f,pR (fs.lookup f) (mA f))/\jy mA (fs.map (·.1))/\fs.length<=1000/\H dx=some (.own a):=by
 obtain⟨d,z,ne,ob,mA,n,r,q⟩:=(show dh P w H h a (.ins C dx fs)from hok a _ e);exact⟨mA,⟨ob,n,ne⟩,r,q,z,d⟩
end
structure Cls(K:ae)(C:Addr):Prop where
 pg:HW K C Str.empty=true
 hd:PySem.W.hasDictIn K C=true
 po:PySem.W.plainOver K C=true
 sa:gW K (.ref C) "__setattr__"=some (some (.builtin "object.__setattr__"))
theorem Cls.get{K:ae}{C:Addr}(c:Cls K C)(f:Str):HW K C f=true:=c.pg
section
variable {X:Cx}{pins:List (Addr×Obj)}{σ:St}{H:Hp}{s:Shared}{A:Around}{E:Value->Shared->Prop}{Q:Value->Shared->Prop}{c:Value}{b:Bool}
inductive ly (K:ae) (H:Hp):V->Value->Prop where
 |non:ly K H .non (.type "NoneType")
 |bl (x:Bool):ly K H (.bl x) (.type "bool")
 |int (i:Int):ly K H (.int i) (.type "int")
 |str (x:Str):ly K H (.str x) (.type "str")
 |flt (x:UInt64):ly K H (.flt x) (.type "float")
 |lst {a:Addr} {xs:List V} (e:H a=some (.lst xs)):ly K H (.ref a) (.type "list")
 |frz {a:Addr} {o:Obj} {xs:List V} (e:H a=some (.frz o (.lst xs))):ly K H (.ref a) (.type "list")
 |tup {a:Addr} {xs:List V} (e:H a=some (.tup xs)):ly K H (.ref a) (.type "tuple")
 |dK {a:Addr} {kvs:List (Key×V)} (e:H a=some (.dK kvs)):ly K H (.ref a) (.type "dict")
 |dT {a:Addr} {kvs:List (List Key×V)} (e:H a=some (.dT kvs)):ly K H (.ref a) (.type "dict")
 |ins {a C dx:Addr} {fs:List (Str×V)} (e:H a=some (.ins C dx fs)) (cl:Cls K C) (ha:gW K (.ref C) "__class__"=some (some (.builtin "object.__class__")))
   (hn:pT K (.builtin "object.__class__") "__get__"=some (some (.builtin "getset_descriptor.__get__"))) (htk:PySem.W.takesIn K (.builtin "object.__class__")=some true)
   (hm:xN K C (.type "object")=some true):ly K H (.ref a) (.ref C)
theorem u6{x:V}{u t:Value}(I:Inv X pins σ H s)(rx:RelV x u)(ty:ly X.K H x t)(e:cj X.K t c=some b)(h:∀tk,Q (.bool b) {s with toks:=tk}):
  wpAny (model X.prog X.w) A (call (.builtin "isinstance") [u,c]) Q E s:=by
 cases ty with
 |non=>cases(show u=bI from rx);exact da PySem.W.kitx_none I.kIn True.intro e (fun z=>nomatch z) h
 |bl y=>cases(show u=xJ y from rx);exact da PySem.W.kitx_bool I.kIn True.intro e (fun z=>nomatch z) h
 |int i=>obtain⟨t,q⟩:=(show ∃t,u=fK i t from rx);cases q;exact da PySem.W.kitx_int I.kIn True.intro e (fun z=>nomatch z) h
 |str y=>obtain⟨t,q⟩:=(show ∃t,u=gU y t from rx);cases q;exact da PySem.W.kitx_str I.kIn True.intro e (fun z=>nomatch z) h
 |flt y=>obtain⟨t,q⟩:=(show ∃t,u=Value.float y t from rx);cases q;exact da PySem.W.kitx_float I.kIn True.intro e (fun z=>nomatch z) h
 | @lst a xs ea=>
  cases(show u=bp a from rx);obtain⟨_,_,n,_,h1⟩:=(show dh X.prog X.w H s.heap a (.lst xs)from I.hok a _ ea);exact da Eo I.kIn ⟨_,h1,rfl⟩ e (fun z=>nomatch z) h
 | @frz a ob xs ea=>
  cases(show u=bp a from rx);obtain⟨_,_,_,n,_,h1⟩:=(show dh X.prog X.w H s.heap a (.frz ob (.lst xs))from I.hok a _ ea);exact da Eo I.kIn ⟨_,h1,rfl⟩ e (fun z=>nomatch z) h
 | @tup a xs ea=>
  cases(show u=bp a from rx);obtain⟨_,_,_,p⟩:=(show dh X.prog X.w H s.heap a (.tup xs)from I.hok a _ ea);obtain⟨o,h1,h2,_⟩:=p;exact da PySem.W.kitx_tuple I.kIn ⟨o,h1,h2⟩ e (fun z=>nomatch z) h
 | @dK a kvs ea=>
  cases(show u=bp a from rx);obtain⟨_,_,vs,_,p⟩:=(show dh X.prog X.w H s.heap a (.dK kvs)from I.hok a _ ea);obtain⟨o,es,ep,h1,h2,_⟩:=p;exact da Ep I.kIn ⟨o,h1,h2.1⟩ e (fun z=>nomatch z) h
 | @dT a kvs ea=>
  cases(show u=bp a from rx);obtain⟨_,_,xs,_,o,es,ep,h1,h2,_⟩:=(show dh X.prog X.w H s.heap a (.dT kvs)from I.hok a _ ea);exact da Ep I.kIn ⟨o,h1,h2.1⟩ e (fun z=>nomatch z) h
 | @ins a C dx fs ea cl ha hn htk hm=>
  cases(show u=bp a from rx);obtain⟨mA,O,_⟩:=ins_get I.hok ea;obtain⟨od,J,_⟩:=O.look;exact da (PySem.W.kitx_own (cl.get _) cl.hd ha hn htk hm) I.kIn J e (fun z=>nomatch z) h
end
structure iU(k:Nat)(A:Around):Prop where
 hd:A.handled=none
 dp:A.depth+3*k+5<iX
 un:A.units+16*k+200<cLine
theorem iU.mono{j k:Nat}{A:Around}(r:iU k A)(h:j<=k):iU j A:=⟨r.hd,by have :=r.dp;omega,by have :=r.un;omega⟩
theorem iU.deeper{k:Nat}{A:Around}(r:iU (k+1) A)(env:Env):iU k (A.deeper env):=
 ⟨r.hd,by have :=r.dp;show A.depth+1+3*k+5<_;omega,by have :=r.un;show A.units+3+16*k+200<_;omega⟩
theorem AJ{A:Around}{C:Addr}{us:List Value}{kw:List (Str×Value)}:(A.under (.builtin "type.__call__" ⟨.ref C::us,kw⟩)).depth=A.depth+1:=by
 first |rfl|simp[zQ,Code.weight,Code.isCreation,Code.isGuard,Code.isCaller,Code.frames,Cy,guardIds]
theorem AI{A:Around}{C:Addr}{us:List Value}{kw:List (Str×Value)}:(A.under (.builtin "type.__call__" ⟨.ref C::us,kw⟩)).units=A.units+1:=by
 first |rfl|simp[zQ,Code.cUnits,Code.frames,Cy]
theorem iU.make{k:Nat}{A:Around}(r:iU (k+1) A)(C:Addr)(us:List Value)(kw:List (Str×Value)):iU k (A.under (.builtin "type.__call__" ⟨.ref C::us,kw⟩)):=
 ⟨r.hd,by have :=r.dp;rw[AJ];omega,by have :=r.un;rw[AI];omega⟩
theorem iU.depth{k:Nat}{A:Around}(r:iU k A):A.depth<iX:=by have :=r.dp;omega
theorem iU.units{k:Nat}{A:Around}(r:iU k A):A.units+64<cLine:=by have :=r.un;omega
noncomputable def qE:TA:=fun _ H Q=>Q [] H
noncomputable def kh(ta:TE)(tr:TA):TA:=fun σ H Q=>ta σ H fun x H1=>tr σ H1 fun xs H2=>Q (x::xs) H2
section
variable {X:Cx}{e:Expr}{es:List Expr}{te:TE}{t:TA}{pos:Pos}
theorem jd:PA X [] qE:=fun _ _ _ _ H Q I h=>Calls.spliced_nil ⟨[],H,I,.nil,h⟩
theorem fU(ha:PE X e te)(hr:PA X es t)(hs:aK (e::es) X.env=(false,eval e X.env)::aK es X.env:=by rfl):PA X (e::es) (kh te t):=by
 intro pos pins s σ H Q I h;rw[hs];show wpAny _ _ (spliced ((false,eval e X.env)::backTo pos (aK es X.env))) _ _ s;refine pV (thn (ha pins s σ H _ I h) fun u s1 ⟨x,H1,I1,r1,q1⟩=>?_);exact thn (hr pos pins s1 σ H1 _ I1 q1) fun us s2 ⟨xs,H2,I2,r2,q2⟩=>⟨x::xs,H2,I2,.cons r1 r2,q2⟩
noncomputable def tTup(t:TA):TE:=fun σ H Q=>t σ H fun xs H1=>xs.length<=sizeLine/\∀p,H1 p=none->Q (.ref p) (upd H1 p (.tup xs))
noncomputable def tLst(t:TA):TE:=fun σ H Q=>t σ H fun xs H1=>xs.length<=sizeLine/\∀p,H1 p=none->Q (.ref p) (upd H1 p (.lst xs))
theorem FL{x1}(h:PA X es t):PE X (.Tuple es x1 pos) (tTup t):=by
 intro pins s σ H Q I hq;refine wpAny_Tuple_spliced (thn (h pos pins s σ H _ I hq) fun us s1 ⟨xs,H1,I1,r,z,q⟩=>⟨by rw[<-r.length];exact z,?_⟩);have hf:H1 s1.heap.objs.size=none:=I1.hok.fresh (aw _);refine⟨.ref s1.heap.objs.size,upd H1 s1.heap.objs.size (.tup xs),I1.laid (t':=s1.toks) (fun b u e=>af _ e) (aw _) ?_,rfl,q _ hf⟩;exact⟨z,us,r,⟨_,au _ rfl,rfl,_,rfl⟩⟩
theorem FT(h:PA X es t):PE X (.List es pos) (tLst t):=by
 intro pins s σ H Q I hq;refine wpAny_List_spliced (thn (h pos pins s σ H _ I hq) fun us s1 ⟨xs,H1,I1,r,z,q⟩=>⟨by rw[<-r.length];exact z,?_⟩);have hf:H1 s1.heap.objs.size=none:=I1.hok.fresh (aw _);refine⟨.ref s1.heap.objs.size,upd H1 s1.heap.objs.size (.lst xs),I1.laid (t':=s1.toks) (fun b u e=>af _ e) (aw _) ?_,rfl,q _ hf⟩;exact⟨z,us,0,r,au _ rfl⟩
end
noncomputable abbrev Sp:=List V->Hp->VK->XK->Prop
noncomputable abbrev CXT:=List Env->Hp->Shared->XK->Value->Shared->Prop
structure Bg(P:Program)(w:World)(K:ae)(mg:Str->Option Value)(base:Heap)(A:Around)(outer:List Env)(s:Shared)(H:Hp):Prop where
 frames:A.frames=some outer
 mod:Mod K mg base
 bs:∀b o,base.get? b=some o->s.heap.get? b=some o/\H b=none
 bsz:base.objs.size<=s.heap.objs.size
 sH:s.heap.FunFrames base outer
 frf:∀b∈frs outer,H b=none
 hok:HOk P w H s.heap
 bare:mE s.gens
noncomputable def CE(outer:List Env)(P:Program)(w:World)(H:Hp)(s:Shared)(Q:VK)(u:Value)(s':Shared):Prop:=
 ∃v H',s'.os=s.os/\mE s'.gens/\Un (frs outer) [] H H' s.heap s'.heap/\HOk P w H' s'.heap/\RelV v u/\Q v H'
noncomputable def CR(CX:CXT)(outer:List Env)(P:Program)(w:World)(H:Hp)(s:Shared)(Q:VK)(E:XK)(r:Result)(s':Shared):Prop:=
 match r with
 |.ok (.ret u)=>CE outer P w H s Q u s'
 |.ok _=>False
 |.error e=>CX outer H s E e s'
structure ju(P:Program)(w:World)(K:ae)(mg:Str->Option Value)(base:Heap)(CX:CXT)(k:Nat)(f:Addr)(fd:fh)(ps:List Str)(sp:Sp):Prop where
 len:∀vs H Q E,sp vs H Q E->vs.length=ps.length
 run:∀(A:Around)(outer:List Env)(s:Shared)(H:Hp)(args:Args)(us:List Value)(vs:List V)(Q:VK)(E:XK),iU k A->Bg P w K mg base A outer s H->BindsTo s fd args (ps.zip us)->bM vs us->sp vs H Q E->
  fC (model P w) A (.call (.ref f) args) (CR CX outer P w H s Q E) s
theorem Bg.make{P:Program}{w:World}{K:ae}{mg:Str->Option Value}{base:Heap}{A:Around}{outer:List Env}{s:Shared}{H:Hp}(e:Bg P w K mg base A outer s H)(C:Addr)(us:List Value)(kw:List (Str×Value)):
  Bg P w K mg base (A.under (.builtin "type.__call__" ⟨.ref C::us,kw⟩)) outer s H:=⟨by first |exact e.frames| (simpa[zQ,Code.envs,Cy,pushEnvs]using e.frames),e.mod,e.bs,e.bsz,e.sH,e.frf,e.hok,e.bare⟩
section
variable {X:Cx}{pins:List (Addr×Obj)}{σ:St}{H:Hp}{s s':Shared}
theorem Inv.env0(I:Inv X pins σ H s):Bg X.prog X.w X.K X.mg X.base X.A X.stack s H:=
 ⟨I.ok.frames,I.ok.mod,I.bs,aX I.ok.bsz I.sz,I.stack,I.vS,I.hok,I.bare⟩
theorem Inv.after{Q:VK}{u:Value}(I:Inv X pins σ H s)(h:CE X.stack X.prog X.w H s Q u s'):EP X pins σ Q u s':=by
 obtain⟨v,H',os,bare,un,hok,r,q⟩:=h;obtain⟨hh,g,d,t,os'⟩:=s';obtain rfl:os'=s.os:=os;exact⟨v,H',I.call (h':=hh) (g':=g) (d':=d) (t':=t) (ch:=[]) un hok bare (fun b z=>absurd z (by simp)),r,q⟩
end
noncomputable def yb(sp:Sp)(dvs:List V)(E:XK)(t:TA):TE:=fun σ H Q=>t σ H fun vs H1=>sp (vs++dvs) H1 Q E
noncomputable def Binds(K:ae)(fd:fh)(ps:List Str)(ds:List Value):Prop:=
 ∀(s:Shared)(us:List Value),K.In s.heap->(us++ds).length=ps.length->BindsTo s fd ⟨us,[]⟩ (ps.zip (us++ds))
theorem Binds.all{K:ae}{fd:fh}{ps:List Str}(h:∀us:List Value,us.length=ps.length->nK fd ⟨us,[]⟩=pure (ps.zip us)):Binds K fd ps []:=fun s us _ hl=>by
 rw[vJ]at hl⊢;exact .of_eq (h us hl)
structure xD(N P:List Str)(sc:Scope):Prop where
 kind:sc.kind=.function
 co:sc.isCoroutine=false
 gen:sc.isGenerator=false
 nd:N.Nodup
 pre:N.take P.length=P
 par:∀x∈P,sc.names.lookup x=some .local \/sc.names.lookup x=some .cell
 nofree:∀y∈sc.names,y.2≠.free
theorem vB{kindOf:Str->Option dO}{x:Str}:∀{binds:List (Str×Value)}{m:Str->Option Value},(∀v,(x,v)∉binds)->bindL kindOf binds m x=m x
 | [],_,_=>rfl
 | (n,v)::r,m,h=>by
  unfold bindL;rw[vB fun w hw=>h w (aN _ hw)];split
  ·have :x≠n:=by rintro rfl;exact h v aS
   simp[this]
  ·rfl
theorem vD{kindOf:Str->Option dO}{x:Str}:∀{binds:List (Str×Value)}{m:Str->Option Value},(∀v,(x,v)∉binds)->bindC kindOf binds m x=m x
 | [],_,_=>rfl
 | (n,v)::r,m,h=>by
  unfold bindC;rw[vD fun w hw=>h w (aN _ hw)];split
  ·rfl
  ·have :x≠n:=by rintro rfl;exact h v aS
   simp[this]
theorem vC{kindOf:Str->Option dO}{x:Str}{v:Value}:∀{P:List Str}{vs:List Value}{i:Nat}{m:Str->Option Value},P.Nodup->P[i]? =some x->vs[i]? =some v->kindOf x=some .local ->
  bindL kindOf (P.zip vs) m x=some v
 | [],_,_,_,_,h,_,_=>by simp at h
 |_::_,[],_,_,_,_,h,_=>by simp at h
 |p::P,w::vs,0,m,nd,h1,h2,hk=>by
  simp at h1 h2;subst h1;subst h2;show bindL kindOf ((p,w)::P.zip vs) m p=_;unfold bindL;rw[vB fun v hv=>(cS.mp nd).1 (vI hv).1,if_pos hk];simp
 |p::P,w::vs,i+1,m,nd,h1,h2,hk=>by
  show bindL kindOf ((p,w)::P.zip vs) m x=_;unfold bindL;exact vC (i:=i) (cS.mp nd).2 (by simpa using h1) (by simpa using h2) hk
theorem vE{kindOf:Str->Option dO}{x:Str}{v:Value}:∀{P:List Str}{vs:List Value}{i:Nat}{m:Str->Option Value},P.Nodup->P[i]? =some x->vs[i]? =some v->kindOf x≠some .local ->
  bindC kindOf (P.zip vs) m x=some v
 | [],_,_,_,_,h,_,_=>by simp at h
 |_::_,[],_,_,_,_,h,_=>by simp at h
 |p::P,w::vs,0,m,nd,h1,h2,hk=>by
  simp at h1 h2;subst h1;subst h2;show bindC kindOf ((p,w)::P.zip vs) m p=_;unfold bindC;rw[vD fun v hv=>(cS.mp nd).1 (vI hv).1,if_neg hk];simp
 |p::P,w::vs,i+1,m,nd,h1,h2,hk=>by
  show bindC kindOf ((p,w)::P.zip vs) m x=_;unfold bindC;exact vE (i:=i) (cS.mp nd).2 (by simpa using h1) (by simpa using h2) hk
noncomputable def start(N:List Str)(vs:List V):St:=vs.map some++iq (N.length-vs.length) none
noncomputable def uo(CX:CXT)(P:Program)(w:World)(K:ae)(mg:Str->Option Value)(base:Heap)(N:List Str)(qual:Str)(scope:Scope)(f:Addr)(cd:Value)(A:Around)(outer:List Env)(s:Shared)(H:Hp)(E:XK):Cx where
 prog:=P
 w:=w
 K:=K
 mg:=mg
 base:=base
 A:=A.deeper (envOfC qual scope s.heap.objs.size f cd)
 N:=N
 s₀:=s
 H₀:=H
 env:=envOfC qual scope s.heap.objs.size f cd
 outer:=outer
 stack:=envOfC qual scope s.heap.objs.size f cd::outer
 ex:=[]
 calm:=true
 fn:=fun _=>true
 pn:=[]
 xe:=fun e s'=>wpAny (model P w) (A.deeper (envOfC qual scope s.heap.objs.size f cd)) (leaving (envOfC qual scope s.heap.objs.size f cd) e) (fun _ s''=>CX outer H s E e s'') (fun e' s''=>CX outer H s E e' s'') s'
theorem ze{sc:Scope}{n:Nat}{x:Str}(h:sc.names.lookup x=some .cell):∃c,(cq n sc.names []).lookup x=some c:=by
 have q:=zD sc.names n [] (.inl h);exact cg.mp q
theorem DH{CX:CXT}{P:Program}{w:World}{K:ae}{mg:Str->Option Value}{base:Heap}{N ps:List Str}{qual:Str}{scope:Scope}{f:Addr}{cd:Value}{A:Around}{outer:List Env}{s s1:Shared}{H:Hp}{E:XK}{us:List Value}{vs:List V}
  (S:xD N ps scope)(hd:A.handled=none)(e0:Bg P w K mg base A outer s H)(hl:vs.length=ps.length)(r:bM vs us)
  (x:InCallC s s.heap.objs.size (bindL (envOfC qual scope s.heap.objs.size f cd).kindOf (ps.zip us) fun _=>none) (cq (s.heap.objs.size+1) scope.names []) (bindC (envOfC qual scope s.heap.objs.size f cd).kindOf (ps.zip us) fun _=>none) s1):
  Inv (uo CX P w K mg base N qual scope f cd A outer s H E) [] (start N vs) H s1:=by
 have hpl:ps.length<=N.length:=by have :=congrArg fz S.pre;rw[dk]at this;omega
 obtain⟨h1,tk,rfl,hk⟩:=x.done;have noA:∀b:Addr,b∉(uo CX P w K mg base N qual scope f cd A outer s H E).ex:=fun b z=>absurd (show b∈([]:List Addr)from z) (by simp);refine⟨⟨e0.mod,S.kind,rfl,rfl,aw _,fun y z c h1 h2=>?_,fun y hy=>?_,fun y c _ h=>?_,fun _=>hd,Around.frames_deeper e0.frames,.inr ⟨rfl,rfl⟩,fun b z=>absurd z (noA b),e0.bs,e0.bsz,fun b _ _=>noA b,fun b z=>absurd z (noA b),e0.sH,e0.frf⟩,
  rfl,e0.bare,Un.kept hk,⟨_,x.toInCall.ns,fun i y v h1 h2 h3=>?_⟩,fun y c h=>⟨_,x.cell y c h⟩,e0.hok.fresh (aw _),fun y c h=>?_,fun p hp=>absurd (show p∈([]:List (Addr×Obj))from hp) (by simp),e0.hok.kept hk,?_⟩
 ·exact name_of_addr x.apart (bf h1) (bf h2)
 ·have hy:scope.names.lookup y=some .cell\/scope.names.lookup y=some .free:=hy
  rcases hy with hy|hy
  ·exact ze hy
  ·exact absurd rfl (S.nofree _ (bf hy))
 ·exact j6 (x.above y c (bf h))
 ·have hi:i<vs.length:=by
   unfold start at h2;by_cases hi:i<vs.length
   ·exact hi
   ·rw[eE (by simpa using hi)]at h2
    rw[List.getElem?_replicate]at h2;split at h2<;>cases h2
  have ha:vs[i]? =some v:=by
   unfold start at h2;rw[gB (by simpa using hi),aF]at h2;cases e:vs[i]? with
   |none=>rw[e]at h2;cases h2
   |some a=>rw[e]at h2;cases h2;rfl
  obtain⟨u,hu,rv⟩:=r.get ha;have hp:ps[i]? =some y:=by
   rw[<-S.pre,lq (by omega)];exact h1
  have ndP:ps.Nodup:=by rw[<-S.pre];exact S.nd.sublist (qX _ _)
  refine⟨u,rv,?_⟩;rcases S.par y (aU hp)with k|k
  ·exact .inl ⟨k,vC ndP hp hu k⟩
  ·obtain⟨c,e⟩:=ze (n:=s.heap.objs.size+1) k
   refine .inr ⟨.inl k,c,e,?_⟩;have q:=x.cell y c e;rw[vE ndP hp hu (by show scope.names.lookup y≠_;rw[k];decide)]at q;exact q
 ·exact e0.hok.fresh (j6 (x.above y c (bf h)))
 ·unfold start
  show _=N.length;rw[di,ao,List.length_replicate];omega
theorem fn_of{CX:CXT}{P:Program}{w:World}{K:ae}{mg:Str->Option Value}{base:Heap}{k:Nat}{f:Addr}{name qual:Str}{params:Arguments}{body:List Stmt}{scope:Scope}{dV kV doc pm cdv ct oc:Value}{an od:Option Addr}
  {osl:Array (Option Value)}{N ps:List Str}{sp:Sp}(lk:K.lookup f=some ⟨oc,od,.func (aH name qual params body scope dV kV doc pm an cdv ct),osl⟩)(hcd:ek K cdv qual=true)(S:xD N ps scope)
  (len:∀vs H Q E,sp vs H Q E->vs.length=ps.length)
  (hbody:∀(A:Around)(outer:List Env)(s:Shared)(H:Hp)(vs:List V)(Q:VK)(E:XK),iU k (A.deeper (envOfC qual scope s.heap.objs.size f cdv))->sp vs H Q E->
   ∃t,PSs (uo CX P w K mg base N qual scope f cdv A outer s H E) body t/\t {nx:=fun _ H'=>Q .non H',rt:=Q} (start N vs) H):
  ju P w K mg base CX (k+1) f (aH name qual params body scope dV kV doc pm an cdv ct) ps sp:=by
 refine⟨len,fun A outer s H args us vs Q E hr e0 hb r hsp=>?_⟩;have hl:=len _ _ _ _ hsp;have KX:K.In s.heap:=e0.mod.kin.keeps fun b o e=>(e0.bs b o e).1;have lim:s.heap.NoLimit:=e0.mod.nolimit.keeps fun b o e=>(e0.bs b o e).1;have hkind:∀y∈ps.zip us,scope.names.lookup y.1=some .local \/(scope.names.lookup y.1=some .cell/\((cq (s.heap.objs.size+1) scope.names []).lookup y.1).isSome=true):=fun⟨n,v⟩ hy=>by
  rcases S.par n (vI hy).1 with q|q
  ·exact .inl q
  ·exact .inr ⟨q,zD _ _ _ (.inl q)⟩
 refine codeAny_call_function hr.depth (KX _ _ lk) rfl S.co S.gen rfl (PySem.W.codeRec_of KX hcd) (hb _ _ _ _ ?_);refine wpAny_newFunctionEnv_cells S.kind hkind fun env he s1 x=>?_;subst he;refine⟨lim.keeps x.toInCall.keep,codeAny_func ?_⟩;obtain⟨t,ht,hq⟩:=hbody A outer s H vs Q E (hr.deeper _) hsp;have I:Inv (uo CX P w K mg base N qual scope f cdv A outer s H E) [] (start N vs) H s1:=DH S hr.hd e0 hl r x;refine cL (ht [] s1 (start N vs) H _ I hq) (fun fl s' hs=>?_) fun e s' hs=>hs;have fin:∀{σ':St}{H':Hp}{v:V}{u:Value},Inv (uo CX P w K mg base N qual scope f cdv A outer s H E) [] σ' H' s'->RelV v u->Q v H'->CE outer P w H s Q u s':=
  fun{σ' H' v u} J rv q=>⟨v,H',J.os,J.bare,J.base,J.hok,rv,q⟩
 cases fl with
 |ret u=>
  obtain⟨v,σ',H',J,rv,q⟩:=hs;exact fin J rv q
 |next =>
  obtain⟨σ',H',J,q⟩:=hs;exact fin (v:=V.non) (u:=bI) J rfl q
 |brk=>
  obtain⟨_,_,_,q⟩:=hs;exact gb q
 |cont=>
  obtain⟨_,_,_,q⟩:=hs;exact gb q
section
variable {X:Cx}{x:Str}{p pos:Pos}{e:Expr}{es:List Expr}{t:TA}{id T:String}{r:List V->Hp->VK->Prop}
noncomputable def tCB(r:List V->Hp->VK->Prop)(t:TA):TE:=fun σ H Q=>t σ H fun vs H1=>r vs H1 Q
theorem cf(hc:eL X (.builtin id) r)(hg:Gl X x)(hm:X.mg x=none)(hv:fg x=some (.builtin id))(ha:PA X (e::es) t)(hn:x≠"__name__":=by decide) (hdb:(x==("__debug__":Str))=false:=by decide)
  (he:aK (e::es) X.env=(false,eval e X.env)::aK es X.env:=by rfl) (hpl:(backTo pos (aK es X.env)).any (·.1)=false:=by rfl):PE X (.Call (.Name x p) (e::es) [] pos) (tCB r t):=by
 intro pins s σ H Q I h;refine eM (ji I hg hm hv ?_ hn hdb);exact gV (thn (ha pos pins s σ H _ I h) fun us s1 ⟨vs,H1,I1,r1,q1⟩=>hc pins s1 σ H1 vs us Q I1 r1 q1) he hpl
theorem gD(hc:eL X (.type T) r)(hg:Gl X x)(hm:X.mg x=none)(hv:fg x=some (.type T))(ha:PA X (e::es) t)(hn:x≠"__name__":=by decide) (hdb:(x==("__debug__":Str))=false:=by decide)
  (he:aK (e::es) X.env=(false,eval e X.env)::aK es X.env:=by rfl) (hpl:(backTo pos (aK es X.env)).any (·.1)=false:=by rfl):PE X (.Call (.Name x p) (e::es) [] pos) (tCB r t):=by
 intro pins s σ H Q I h;refine eM (ji I hg hm hv ?_ hn hdb);exact cA (thn (ha pos pins s σ H _ I h) fun us s1 ⟨vs,H1,I1,r1,q1⟩=>hc pins s1 σ H1 vs us Q I1 r1 q1) he hpl
end
end L2
namespace HT
open PySem PyProof.Rows
section
open PySem.SeqAt
open PySem.AutoSeq1 (wpAny_loadPart')
open PySem.MeetsSeq PySem.MeetsSeq2 PySem.MeetsSeq3
end
section
variable {prog:Program}{w:World}{A:Around}{E:Value->Shared->Prop}{s:Shared}
theorem cat_tup{t b:Addr}{vs ws:List Value}{Q:Value->Shared->Prop}(ht:IsTup s.heap t vs.toArray)(hb:IsTup s.heap b ws.toArray)(hv:vs≠[])
  (h1:ws=[]->Q (.ref t) s)(h2:ws≠[]->Q (.ref s.heap.objs.size) {s with heap:=s.heap.push {cls:=.type "tuple",data:=.seq (vs++ws).toArray}})
  (hsz:vs.length+ws.length<=sizeLine):wpAny (model prog w) A (eN .Add (.ref t) (.ref b)) Q E s:=by
 obtain⟨⟨cls,dd,data,sl⟩,ho,hc,n,hd⟩:=id ht;obtain⟨⟨cls2,dd2,data2,sl2⟩,ho2,hc2,n2,hd2⟩:=id hb;simp only at hc hd hc2 hd2;subst hc hd hc2 hd2;have e:vs.toArray++ws.toArray=(vs++ws).toArray:=by simp
 by_cases hw:ws=[]
 ·exact concat_meets ⟨_,ho,rfl⟩ ⟨_,ho2,rfl⟩ zA HQ lB kW (kE _ _)
   (tuple_addW1 t b vs.toArray ws.toArray n n2 dd dd2 sl sl2 (by simpa using hv) (by simp[hw])) ⟨ho,ho2,h1 hw⟩
 ·refine concat_meets ⟨_,ho,rfl⟩ ⟨_,ho2,rfl⟩ zA HQ lB kW (kE _ _)
   (tuple_addW2 t b vs.toArray ws.toArray n n2 dd dd2 sl sl2 (by simpa using hv) (by simpa using hw) (by rw[ay,ay];exact hsz)) ⟨ho,ho2,?_⟩
  rw[e];exact h2 hw
noncomputable def sIx(n d:Nat):Option Int->Nat
 |none=>d
 |some v=>if v<0 then(v+(n:Int)).toNat else min v.toNat n
theorem rO(n d:Nat):sIx n d none=d:=rfl
theorem n9(n d k:Nat):sIx n d (some (k:Int))=min k n:=by
 show(if(k:Int)<0 then((k:Int)+(n:Int)).toNat else min (k:Int).toNat n)=min k n;rw[if_neg (by omega),aR]
theorem Fh(n d:Nat)(hd:d<=n)(o:Option Int):sIx n d o<=n:=by
 cases o with
 |none=>exact hd
 |some v=>
  show(if v<0 then(v+(n:Int)).toNat else min v.toNat n)<=n;by_cases hv:v<0
  ·rw[if_pos hv];omega
  ·rw[if_neg hv];exact Nat.min_le_right _ _
theorem clip_eq(v:Int)(n d:Nat):(if v<0 then max (v+(n:Int)) 0 else min v (n:Int))=((sIx n d (some v):Nat):Int):=by
 show(if v<0 then max (v+(n:Int)) 0 else min v (n:Int))=(((if v<0 then(v+(n:Int)).toNat else min v.toNat n):Nat):Int);by_cases hv:v<0
 ·simp only[if_pos hv];omega
 ·simp only[if_neg hv];omega
end
end HT
namespace L2
open PySem PySem.Spec PyProof.Rows
noncomputable abbrev TO:=St->Hp->(Option Int->Hp->Prop)->Prop
noncomputable def PO(X:Cx)(e:Option Expr)(t:TO):Prop:=
 ∀(pins:List (Addr×Obj))(s:Shared)(σ:St)(H:Hp)(Q:Option Int->Hp->Prop),Inv X pins σ H s->t σ H Q->
  wpAny (model X.prog X.w) X.A (evalPart e X.env) (fun u s'=>∃o H',Inv X pins σ H' s'/\IsPart u o/\Q o H') X.xe s
noncomputable def vR:TO:=fun _ H Q=>Q none H
noncomputable def EN(t:TE):TO:=fun σ H Q=>t σ H fun x H1=>∃i,x=.int i/\Q (some i) H1
theorem intsAre_of{ns:List Int}:∀{us:List Value},bM (ns.map V.int) us->bV us ns:=by
 induction ns with
 |nil=>intro us r;rw[jM]at r;cases r;exact .nil
 |cons n ns ih=>
  intro us r;rw[bB]at r;cases r with
  |cons r1 r2=>
   obtain⟨t,e⟩:=r1;subst e;exact .cons n t (ih r2)
section
variable {X:Cx}{e:Expr}{te:TE}{lo hi:Option Expr}{tl th:TO}{pos p2:Pos}
theorem po_none:PO X none vR:=by
 intro pins s σ H Q I h;rw[evalPart_none];exact ai ⟨none,H,I,.none,h⟩
theorem po_some(h:PE X e te):PO X (some e) (EN te):=by
 intro pins s σ H Q I hw;rw[evalPart_some];refine thn (h pins s σ H _ I hw) fun u s1 ⟨x,H1,I1,r1,q1⟩=>?_;obtain⟨i,rfl,q⟩:=q1;obtain⟨t,rfl⟩:=r1;exact⟨some i,H1,I1,.int i t,q⟩
noncomputable def SlR(X:Cx)(r:V->Option Int->Option Int->Hp->VK->Prop):Prop:=
 ∀(pins:List (Addr×Obj))(s:Shared)(σ:St)(H:Hp)(x:V)(v vl vu:Value)(lo hi:Option Int)(sl:Addr)(Q:VK),Inv X pins σ H s->RelV x v->s.heap.IsSliceOf sl vl vu .none->IsPart vl lo->IsPart vu hi->r x lo hi H Q->
  ∃T id,typeLookup (.type T) "__getitem__"=pure (some (.builtin id))/\s.TypeIs v T/\wpAny (model X.prog X.w) X.A (getItem v (.ref sl)) (EP X pins σ Q) X.xe s
theorem SlR.or{r r':V->Option Int->Option Int->Hp->VK->Prop}(h:SlR X r)(h':SlR X r'):SlR X (fun x lo hi H Q=>r x lo hi H Q\/r' x lo hi H Q):=by
 intro pins s σ H x v vl vu lo hi sl Q I rx hs pl pu q;rcases q with q|q
 ·exact h pins s σ H x v vl vu lo hi sl Q I rx hs pl pu q
 ·exact h' pins s σ H x v vl vu lo hi sl Q I rx hs pl pu q
noncomputable def tSl(r:V->Option Int->Option Int->Hp->VK->Prop)(te:TE)(tl th:TO):TE:=fun σ H Q=>te σ H fun x H1=>tl σ H1 fun l H2=>th σ H2 fun u H3=>r x l u H3 Q
theorem FP{r:V->Option Int->Option Int->Hp->VK->Prop}(hr:SlR X r)(he:PE X e te)(hl:PO X lo tl)(hu:PO X hi th):PE X (.Subscript e (.Slice lo hi none p2) pos) (tSl r te tl th):=by
 intro pins s σ H Q I h;refine Subscript_ (thn (he pins s σ H _ I h) fun v s1 ⟨x,H1,I1,r1,q1⟩=>?_);refine wpAny_Slice (thn (hl pins s1 σ H1 _ I1 q1) fun vl s2 ⟨l,H2,I2,pl,q2⟩=>thn (hu pins s2 σ H2 _ I2 q2) fun vu s3 ⟨u,H3,I3,pu,q3⟩=>?_);rw[evalPart_none];refine ai ?_;have I4:Inv X pins σ H3 {s3 with heap:=s3.heap.push {cls:=.type "slice",data:=.fields #[vl,vu,.none]}}:=I3.kept (t':=s3.toks) fun b ob q=>af _ q;obtain⟨T,id,hT,ht,hg⟩:=hr pins {s3 with heap:=s3.heap.push {cls:=.type "slice",data:=.fields #[vl,vu,.none]}} σ H3 x v vl vu l u s3.heap.objs.size Q I4 r1 (Heap.IsSliceOf.new ..) pl pu q3;show wpAny (model X.prog X.w) X.A (HN e (.Slice lo hi none p2) v (.ref s3.heap.objs.size)) (EP X pins σ Q) X.xe {s3 with heap:=s3.heap.push {cls:=.type "slice",data:=.fields #[vl,vu,.none]}};exact tail_any (ops:=[.ref s3.heap.objs.size,v]) ht hT hg (by with_unfolding_all rfl)
noncomputable def pM(xs:List V)(lo hi:Option Int):List V:=(xs.drop (HT.sIx xs.length 0 lo)).take (HT.sIx xs.length xs.length hi-HT.sIx xs.length 0 lo)
theorem za(xs:List V)(lo hi:Option Int):(pM xs lo hi).length<=xs.length:=by
 unfold pM;rw[dk,List.length_drop];omega
noncomputable def rSlT(K:ae):V->Option Int->Option Int->Hp->VK->Prop:=fun x lo hi H Q=>∃a xs,x=.ref a/\SqT K H a xs/\
 ¬(HT.sIx xs.length 0 lo=0/\HT.sIx xs.length xs.length hi=xs.length)/\∀p,H p=none->Q (.ref p) (upd H p (.tup (pM xs lo hi)))
noncomputable def By(K:ae):R2:=fun x y H Q=>∃a b xs ys,x=.ref a/\y=.ref b/\SqT K H a xs/\SqT K H b ys/\xs≠[]/\xs.length+ys.length<=sizeLine/\
 (ys=[]->Q (.ref a) H)/\(ys≠[]->∀p,H p=none->Q (.ref p) (upd H p (.tup (xs++ys))))
theorem bM.wO{xs:List V}{us:List Value}(r:bM xs us):us=[]↔xs=[]:=by
 cases r with
 |nil=>simp
 |cons _ _=>simp
theorem op_catT:OpR X (eN .Add) (By X.K):=by
 intro pins s σ H x y v u Q I rx ry h;obtain⟨a,b,xs,ys,rfl,rfl,ha,hb,hx,hz,q1,q2⟩:=h;cases rx;cases ry;obtain⟨its,r1,p1,_⟩:=I.tuple ha;obtain⟨its2,r2,p2,_⟩:=I.tuple hb;refine HT.cat_tup p1 p2 (fun z=>hx (r1.wO.mp z)) (fun z=>⟨.ref a,H,I,rfl,q1 (r2.wO.mp z)⟩) (fun z=>?_) (by rw[<-r1.length,<-r2.length];exact hz);refine⟨.ref s.heap.objs.size,_,I.laid (t':=s.toks) (o:=.tup (xs++ys)) (fun b ob q=>af _ q) (aw _) ?_,rfl,q2 (fun w=>z (r2.wO.mpr w)) _ (I.hok.fresh (aw _))⟩;exact⟨by rw[di];exact hz,_,r1.append r2,IsTup.new _ _⟩
end
noncomputable def ixN(n:Nat)(i:Int):Option Nat:=if 0<=i then(if i<n then some i.toNat else none)else if -(n:Int)<=i then some (i+n).toNat else none
noncomputable def atI{α:Type}(xs:List α)(i:Int):Option α:=(ixN xs.length i).bind fun j=>xs[j]?
theorem BV{n:Nat}{i:Int}{j:Nat}(h:ixN n i=some j):seqIndex? i n=some j/\j<n∧-(n:Int)<=i/\i<n:=by
 unfold ixN at h;by_cases h0:0<=i
 ·rw[if_pos h0]at h
  by_cases h1:i<n
  ·rw[if_pos h1]at h
   have e:i.toNat=j:=aY h;exact⟨by rw[qK h0 h1,e],by omega,by omega,h1⟩
  ·rw[if_neg h1]at h;cases h
 ·rw[if_neg h0]at h
  by_cases h1: -(n:Int)<=i
  ·rw[if_pos h1]at h
   have e:(i+n).toNat=j:=aY h;exact⟨by rw[seqIndex_neg (by omega) h1,e],by omega,h1,by omega⟩
  ·rw[if_neg h1]at h;cases h
theorem xy{α:Type}{xs:List α}{i:Int}{v:α}(h:atI xs i=some v):∃j,seqIndex? i xs.length=some j/\xs[j]? =some v/\j<xs.length∧-(xs.length:Int)<=i/\i<xs.length:=by
 unfold atI at h;cases e:ixN xs.length i with
 |none=>rw[e]at h;cases h
 |some j=>
  rw[e]at h;obtain⟨h1,h2,h3,h4⟩:=BV e;exact⟨j,h1,h,h2,h3,h4⟩
theorem cH{α:Type}{xs:List α}{j:Nat}{v:α}(h:xs[j]? =some v):atI xs (j:Int)=some v:=by
 have hj:j<xs.length:=(aM.mp h).1;have e:ixN xs.length (j:Int)=some j:=by
  unfold ixN;rw[if_pos (by omega),if_pos (by omega)];simp
 unfold atI;rw[e];exact h
noncomputable def Ck(b:Expr):Prop:=∀o i,subscripted b false o i=operate [o,i] (getItem o i)
noncomputable def IxR(X:Cx)(r:R2):Prop:=
 ∀(value slice:Expr)(pins:List (Addr×Obj))(s:Shared)(σ:St)(H:Hp)(x y:V)(v u:Value)(Q:VK),Inv X pins σ H s->RelV x v->RelV y u->r x y H Q->
  subscripted slice false v u=operate [v,u] (getItem v u)->wpAny (model X.prog X.w) X.A (HN value slice v u) (EP X pins σ Q) X.xe s
noncomputable def MtR(X:Cx)(id:String)(r:V->List V->Hp->VK->Prop):Prop:=
 ∀(pins:List (Addr×Obj))(s:Shared)(σ:St)(H:Hp)(x:V)(xs:List V)(v:Value)(us:List Value)(Q:VK),Inv X pins σ H s->RelV x v->bM xs us->r x xs H Q->
  wpAny (model X.prog X.w) X.A (call (.builtin id) (v::us)) (EP X pins σ Q) X.xe s
section
variable {X:Cx}{a b:Expr}{ta tb:TE}{pos:Pos}
theorem IxR.or{r r':R2}(h:IxR X r)(h':IxR X r'):IxR X (fun x y H Q=>r x y H Q\/r' x y H Q):=by
 intro value slice pins s σ H x y v u Q I rx ry q hs;rcases q with q|q
 ·exact h value slice pins s σ H x y v u Q I rx ry q hs
 ·exact h' value slice pins s σ H x y v u Q I rx ry q hs
theorem MtR.or{id:String}{r r':V->List V->Hp->VK->Prop}(h:MtR X id r)(h':MtR X id r'):MtR X id (fun x xs H Q=>r x xs H Q\/r' x xs H Q):=by
 intro pins s σ H x xs v us Q I rx rs q;rcases q with q|q
 ·exact h pins s σ H x xs v us Q I rx rs q
 ·exact h' pins s σ H x xs v us Q I rx rs q
theorem FU{r:R2}(hr:IxR X r)(ha:PE X a ta)(hb:PE X b tb)(hs:Ck b):PE X (.Subscript a b pos) (tOp r ta tb):=by
 intro pins s σ H Q I h;exact Subscript_ (binT ha hb I h fun v u s2 x y H2 I2 rx ry q=>hr a b pins s2 σ H2 x y v u Q I2 rx ry q (hs _ _))
noncomputable def rIxL(K:ae):R2:=fun x y H Q=>∃p xs i v,x=.ref p/\y=.int i/\SqL K H p xs/\atI xs i=some v/\Q v H
noncomputable def rIxT(K:ae):R2:=fun x y H Q=>∃p xs i v,x=.ref p/\y=.int i/\SqT K H p xs/\atI xs i=some v/\Q v H
noncomputable def rIxS:R2:=fun x y H Q=>∃z i c,x=.str z/\y=.int i/\z.length<=sizeLine/\atI z.cps.toList i=some c/\Q (.str ⟨#[c]⟩) H
theorem ix_list:IxR X (rIxL X.K):=by
 intro value slice pins s σ H x y v u Q I rx ry h hs;obtain⟨p,xs,i,z,rfl,rfl,hq,he,q⟩:=h;cases rx;obtain⟨t,rfl⟩:=ry;obtain⟨its,r,pl,hz⟩:=I.list hq;obtain⟨j,h1,h2,h3,h4,h5⟩:=xy he;obtain⟨w,ew,rw'⟩:=r.get h2;have hl:=r.length;have hn:=ni;have fin:EP X pins σ Q w s:=⟨z,H,I,rw',q⟩;by_cases h0:0<=i
 ·have hj:i.toNat=j:=by
   rw[qK h0 h5]at h1;exact aY h1
  exact item_listR pl.isList h0 (by omega) (by rw[hj];simpa using ew) fin hs
 ·have hj:(i+(its.toArray.size:Int)).toNat=j:=by
   rw[seqIndex_neg (by omega) h4]at h1;rw[ay,<-hl];exact aY h1
  exact o4 (x:=w) pl.isList.typeIs slot_list_getitem.lookup
   (wpAny_getItem_list_neg (Q:=fun r s'=>r=w/\EP X pins σ Q r s') pl.isList (by omega) (by rw[ay]<;>omega) (by omega) (by rw[hj];simpa using ew) ⟨rfl,fin⟩) hs
theorem ix_tup:IxR X (rIxT X.K):=by
 intro value slice pins s σ H x y v u Q I rx ry h hs;obtain⟨p,xs,i,z,rfl,rfl,hq,he,q⟩:=h;cases rx;obtain⟨t,rfl⟩:=ry;obtain⟨its,r,pl,hz⟩:=I.tuple hq;obtain⟨j,h1,h2,h3,h4,h5⟩:=xy he;obtain⟨w,ew,rw'⟩:=r.get h2;have hl:=r.length;have hn:=ni;have fin:EP X pins σ Q w s:=⟨z,H,I,rw',q⟩;exact o4 (x:=w) pl.typeIs slot_tuple_getitem.lookup
  (getItem_tuple (j:=j) (Q:=fun r s'=>r=w/\EP X pins σ Q r s') pl (by omega) (by omega) (by rw[ay,<-hl];exact h1) (by simpa using ew) ⟨rfl,fin⟩) hs
theorem ix_str:IxR X rIxS:=by
 intro value slice pins s σ H x y v u Q I rx ry h hs;obtain⟨z,i,c,rfl,rfl,hz,he,q⟩:=h;obtain⟨t,rfl⟩:=rx;obtain⟨t',rfl⟩:=ry;obtain⟨j,h1,h2,h3,h4,h5⟩:=xy he;have hl:z.cps.toList.length=z.length:=by simp[Str.length]
 rw[hl]at h1 h4 h5;have hn:=ni;exact tail_any (typeIs_str s z t) slot_str_getitem.lookup (getItem_str (c:=c) (by
  have e1:decide (i< -(2^63:Int))=false:=decide_eq_false (by omega);have e2:decide (i≥ 2^63)=false:=decide_eq_false (by omega);rw[e1,e2,Bool.or_false]) (by rw[h1];simpa using h2) ⟨.str ⟨#[c]⟩,H,I.tok _,⟨_,rfl⟩,q⟩) hs
noncomputable def rIx(K:ae):R2:=fun x y H Q=>rIxL K x y H Q\/rIxT K x y H Q\/rIxS x y H Q
theorem GS:IxR X (rIx X.K):=ix_list.or (ix_tup.or ix_str)
theorem AH(its:List Value)(n j:Nat)(u:Value):aT (·.setIfInBounds j u) {cls:=.type "list",data:=.seq its.toArray n}={cls:=.type "list",data:=.seq (its.set j u).toArray n}:=by
 simp[aT]
theorem Inv.lst{pins:List (Addr×Obj)}{σ:St}{H:Hp}{s:Shared}{p:Addr}{xs:List V}(I:Inv X pins σ H s)(h:H p=some (.lst xs)):
  ∃(its:List Value)(n:Nat),bM xs its/\s.heap.get? p=some {cls:=.type "list",data:=.seq its.toArray n}/\xs.length<=sizeLine:=by
 obtain⟨z,its,n,r,e⟩:=I.hok p _ h;exact⟨its,n,r,e,z⟩
theorem Inv.lstUpd{pins:List (Addr×Obj)}{σ:St}{H:Hp}{s:Shared}{p:Addr}{xs ys:List V}{its its':List Value}{n n':Nat}{f:Obj->Obj}(I:Inv X pins σ H s)(h:H p=some (.lst xs))
  (ho:s.heap.get? p=some {cls:=.type "list",data:=.seq its.toArray n}) (hf:f {cls:=.type "list",data:=.seq its.toArray n}={cls:=.type "list",data:=.seq its'.toArray n'}) (r:bM ys its') (hz:ys.length<=sizeLine) (t:Nat):
  Inv X pins σ (upd H p (.lst ys)) {s with heap:=s.heap.update p f,toks:=t}:=by
 have e:(s.heap.update p f).get? p=some {cls:=.type "list",data:=.seq its'.toArray n'}:=by
  rw[bu f ho (by rw[hf]<;>rfl),hf]
 refine I.write (x:=p) (e:=p) (by rw[h];trivial) (.inl rfl) (fun b u hb q=>(aB _ _ (bz hb)).trans q) ⟨_,e⟩ ?_;exact⟨hz,its',n',r,e⟩
noncomputable def rSetL:V->V->V->Hp->(Hp->Prop)->Prop:=fun o i v H Q=>∃p xs k j,o=.ref p/\i=.int k/\H p=some (.lst xs)/\ixN xs.length k=some j/\Q (upd H p (.lst (xs.set j v)))
theorem set_list:PSet X rSetL:=by
 intro pins s σ H o i v ov iv u Q I ro ri rv h;obtain⟨p,xs,k,j,rfl,rfl,hp,hj,q⟩:=h;cases ro;obtain⟨t,rfl⟩:=ri;obtain⟨its,n,r,ho,hz⟩:=I.lst hp;obtain⟨h1,h2,h3,h4⟩:=BV hj;have hl:=r.length;have hn:=ni;have I':Inv X pins σ (upd H p (.lst (xs.set j v))) {s with heap:=s.heap.update p (aT (·.setIfInBounds j u))}:=
  I.lstUpd hp ho (AH its n j u) (r.set rv j) (by rw[List.length_set];exact hz) s.toks
 by_cases h0:0<=k
 ·have hk:k.toNat=j:=by
   rw[qK h0 h4]at h1;exact aY h1
  exact PySem.W.ki_setAt ho h0 (by omega) (by rw[ay,<-hl];exact h4) (by rw[hk];exact⟨_,I',q⟩)
 ·have hk:(k+(its.toArray.size:Int)).toNat=j:=by
   rw[seqIndex_neg (by omega) h3]at h1;rw[ay,<-hl];exact aY h1
  exact PySem.W.ki_setBack ho (by omega) (by rw[ay,<-hl];exact h3) (by omega) (by rw[hk];exact⟨_,I',q⟩)
theorem wb(lo hi:Option Int)(n:Nat):(jZ lo hi none n).1=((HT.sIx n 0 lo:Nat):Int)/\(jZ lo hi none n).2.1=((HT.sIx n n hi:Nat):Int)/\(jZ lo hi none n).2.2=1:=by
 refine⟨?_,?_,rfl⟩
 ·cases lo with
  |none=>simp[jZ,HT.sIx]
  |some i=>
   simp only[jZ,HT.sIx,qW,show(1:Int)>0 by decide,if_true];by_cases h:i<0
   ·simp only[h,if_true]<;>omega
   ·simp only[h,if_false]<;>omega
 ·cases hi with
  |none=>simp[jZ,HT.sIx]
  |some i=>
   simp only[jZ,HT.sIx,qW,show(1:Int)>0 by decide,if_true];by_cases h:i<0
   ·simp only[h,if_true]<;>omega
   ·simp only[h,if_false]<;>omega
theorem ud(its:List Value)(lo hi:Option Int):slicePick its.toArray lo hi none=((its.drop (HT.sIx its.length 0 lo)).take (HT.sIx its.length its.length hi-HT.sIx its.length 0 lo)).toArray:=by
 obtain⟨h1,h2,h3⟩:=wb lo hi its.toArray.size;unfold slicePick;rw[h1,h2,h3];simp only[sliceRange_one,pick_run,ay]<;>rfl
noncomputable def rSlL(K:ae):V->Option Int->Option Int->Hp->VK->Prop:=fun x lo hi H Q=>∃a xs,x=.ref a/\SqL K H a xs/\∀p,H p=none->Q (.ref p) (upd H p (.lst (pM xs lo hi)))
theorem sl_list:SlR X (rSlL X.K):=by
 intro pins s σ H x v vl vu lo hi sl Q I rx hs pl pu h;obtain⟨a,xs,rfl,hx,q⟩:=h;cases rx;obtain⟨its,r,ht,hz⟩:=I.list hx;have hlen:=r.length;refine⟨"list",_,slot_list_getitem.lookup,ht.isList.typeIs,?_⟩;refine wpAny_getItem_list_slice ht.isList hs pl pu .none (by simp) ?_ (by rw[ay]<;>omega);rw[ud,<-hlen];refine⟨.ref s.heap.objs.size,_,I.laid (t':=s.toks) (o:=.lst (pM xs lo hi)) (fun b ob q=>af _ q) (aw _) ?_,rfl,q _ (I.hok.fresh (aw _))⟩;exact⟨aX (za xs lo hi) hz,_,0,(r.drop (HT.sIx xs.length 0 lo)).take (HT.sIx xs.length xs.length hi-HT.sIx xs.length 0 lo),au _ rfl⟩
noncomputable def mM:V->Bool
 |.non=>true
 |.bl _=>true
 |.int _=>true
 |.str _=>true
 |_=>false
noncomputable def eqV:V->V->Bool
 |.non,.non=>true
 |.bl a,.bl b=>a==b
 |.bl a,.int b=>(if a then 1 else 0)==b
 |.int a,.bl b=>a==(if b then 1 else 0)
 |.int a,.int b=>a==b
 |.str a,.str b=>a==b
 |_,_=>false
theorem fR{A:Around}{s:Shared}{y x:V}{u v:Value}(ry:RelV y u)(rx:RelV x v)(fy:mM y=true)(fx:mM x=true):SeqAt.EqAt A s u v (eqV y x):=by
 cases y with
 |non=>
  cases ry;cases x with
  |non=>cases rx;exact SeqAt.EqAt.same _
  |bl b=>cases rx;exact SeqAt.EqAt.none_bool b
  |int b=>obtain⟨t,rfl⟩:=rx;exact SeqAt.EqAt.none_int b t
  |str b=>obtain⟨t,rfl⟩:=rx;exact SeqAt.EqAt.none_str b t
  |_=>exact absurd (show false=true from fx) aq
 |bl a=>
  cases ry;cases x with
  |non=>cases rx;exact SeqAt.EqAt.bool_none a
  |bl b=>cases rx;exact SeqAt.EqAt.bool_bool a b
  |int b=>obtain⟨t,rfl⟩:=rx;exact SeqAt.EqAt.bool_int a b t
  |str b=>obtain⟨t,rfl⟩:=rx;exact SeqAt.EqAt.bool_str a b t
  |_=>exact absurd (show false=true from fx) aq
 |int a=>
  obtain⟨t',rfl⟩:=ry;cases x with
  |non=>cases rx;exact SeqAt.EqAt.int_none a t'
  |bl b=>cases rx;exact SeqAt.EqAt.int_bool a t' b
  |int b=>obtain⟨t,rfl⟩:=rx;exact SeqAt.EqAt.int_int a t' b t
  |str b=>obtain⟨t,rfl⟩:=rx;exact zJ a t' b t
  |_=>exact absurd (show false=true from fx) aq
 |str a=>
  obtain⟨t',rfl⟩:=ry;cases x with
  |non=>cases rx;exact SeqAt.EqAt.str_none a t'
  |bl b=>cases rx;exact SeqAt.EqAt.str_bool a t' b
  |int b=>obtain⟨t,rfl⟩:=rx;exact zI a t' b t
  |str b=>obtain⟨t,rfl⟩:=rx;exact SeqAt.EqAt.str_str a t' b t
  |_=>exact absurd (show false=true from fx) aq
 |_=>exact absurd (show false=true from fy) aq
noncomputable def eqU(x:V)(u:Value):Bool:=match u with
 |.none=>eqV .non x
 |.bool b=>eqV (.bl b) x
 |.int i _=>eqV (.int i) x
 |.str z _=>eqV (.str z) x
 |_=>false
theorem Hg{x y:V}{u:Value}(r:RelV y u)(f:mM y=true):eqU x u=eqV y x:=by
 cases y with
 |non=>cases r;rfl
 |bl b=>cases r;rfl
 |int i=>obtain⟨t,rfl⟩:=r;rfl
 |str z=>obtain⟨t,rfl⟩:=r;rfl
 |_=>exact absurd (show false=true from f) aq
theorem oX{x:V}:∀{xs:List V}{us:List Value},bM xs us->xs.all mM=true->us.any (eqU x)=xs.any fun y=>eqV y x
 |_,_,.nil,_=>rfl
 |y::xs,u::us,.cons r t,f=>by
  rw[zN,ah]at f;rw[lr,lr,Hg r f.1,oX t f.2]
theorem lM{A:Around}{s:Shared}{x:V}{v:Value}(rx:RelV x v)(fx:mM x=true):∀{xs:List V}{us:List Value},bM xs us->xs.all mM=true->∀u∈us,SeqAt.EqAt A s u v (eqU x u)
 |_,_,.nil,_=>fun u hu=>by cases hu
 |y::xs,u::us,.cons r t,f=>fun u' hu=>by
  rw[zN,ah]at f;rcases aC.mp hu with rfl|hu
  ·rw[Hg r f.1];exact fR r rx f.1 fx
  ·exact lM rx fx t f.2 u' hu
noncomputable def inV(x:V)(xs:List V):Bool:=xs.any fun y=>eqV y x
noncomputable def rIn(K:ae)(neg:Bool):R2:=fun x y H Q=>∃p xs,y=.ref p/\(SqL K H p xs\/SqT K H p xs)/\mM x=true/\xs.all mM=true/\Q (.bl (if neg then !inV x xs else inV x xs)) H
theorem Dj:OpR X (cY .In) (rIn X.K false):=by
 intro pins s σ H x y v u Q I rx ry h;obtain⟨p,xs,rfl,hq,fx,fs,q⟩:=h;cases ry;rcases hq with hq|hq
 ·obtain⟨its,r,pl,hz⟩:=I.list hq
  refine SeqAt.in_listAt (eqU x) pl.isList (fun w hw=>lM rx fx r fs w (by simpa using hw)) ⟨.bl _,H,I,rfl,?_⟩;rw[show its.toArray.any (eqU x)=its.any (eqU x) by simp,oX r fs];exact q
 ·obtain⟨its,r,pl,hz⟩:=I.tuple hq
  refine SeqAt.in_tupleAt (eqU x) pl (fun w hw=>lM rx fx r fs w (by simpa using hw)) ⟨.bl _,H,I,rfl,?_⟩;rw[show its.toArray.any (eqU x)=its.any (eqU x) by simp,oX r fs];exact q
theorem wJ:OpR X (cY .NotIn) (rIn X.K true):=by
 intro pins s σ H x y v u Q I rx ry h;obtain⟨p,xs,rfl,hq,fx,fs,q⟩:=h;cases ry;rcases hq with hq|hq
 ·obtain⟨its,r,pl,hz⟩:=I.list hq
  refine SeqAt.notIn_listAt (eqU x) pl.isList (fun w hw=>lM rx fx r fs w (by simpa using hw)) ⟨.bl _,H,I,rfl,?_⟩;rw[show its.toArray.any (eqU x)=its.any (eqU x) by simp,oX r fs];exact q
 ·obtain⟨its,r,pl,hz⟩:=I.tuple hq
  refine SeqAt.notIn_tupleAt (eqU x) pl (fun w hw=>lM rx fx r fs w (by simpa using hw)) ⟨.bl _,H,I,rfl,?_⟩;rw[show its.toArray.any (eqU x)=its.any (eqU x) by simp,oX r fs];exact q
theorem wI:OpR X (cY .NotIn) (fun x y H Q=>∃i j,x=.str i/\y=.str j/\Q (.bl (!(!(gw j i 0 j.length 1).isEmpty))) H):=by
 intro pins s σ H x y v u Q I rx ry h;obtain⟨i,j,rfl,rfl,q⟩:=h;obtain⟨t,rfl⟩:=rx;obtain⟨t',rfl⟩:=ry;exact notIn_str ⟨.bl _,H,I,rfl,q⟩
theorem xp:eL X (.builtin "len") (fun xs H Q=>∃p ys,xs=[.ref p]/\(SqL X.K H p ys\/SqT X.K H p ys)/\Q (.int ys.length) H):=by
 intro pins s σ H xs us Q I r h;obtain⟨p,ys,rfl,hq,q⟩:=h;obtain⟨u,rfl,rx⟩:=vals1 r;cases rx;have hn:=ni;rcases hq with hq|hq
 ·obtain⟨its,r',pl,hz⟩:=I.list hq
  have hlen:=r'.length;exact Calls.call_len_list pl.isList (by simp only[ay]<;>omega) ⟨.int ys.length,H,I.tok _,⟨s.toks+1,by rw[ay,hlen]⟩,q⟩
 ·obtain⟨its,r',pl,hz⟩:=I.tuple hq
  have hlen:=r'.length;exact len_tuple pl (by simp only[ay]<;>omega) ⟨.int ys.length,H,I.tok _,⟨s.toks+1,by rw[ay,hlen]⟩,q⟩
theorem xo:eL X (.builtin "len") (fun xs H Q=>∃z,xs=[.str z]/\z.length<=sizeLine/\Q (.int z.length) H):=by
 intro pins s σ H xs us Q I r h;obtain⟨z,rfl,hz,q⟩:=h;obtain⟨u,rfl,t,rfl⟩:=vals1 r;have hn:=ni;exact len_str (by omega) ⟨.int z.length,H,I.tok _,⟨_,rfl⟩,q⟩
theorem eL.or{f:Value}{r r':List V->Hp->VK->Prop}(h:eL X f r)(h':eL X f r'):eL X f (fun xs H Q=>r xs H Q\/r' xs H Q):=by
 intro pins s σ H xs us Q I rs q;rcases q with q|q
 ·exact h pins s σ H xs us Q I rs q
 ·exact h' pins s σ H xs us Q I rs q
theorem xm:eL X (.type "list") (fun xs H Q=>∃p ys,xs=[.ref p]/\(SqL X.K H p ys\/SqT X.K H p ys)/\∀l,H l=none->Q (.ref l) (upd H l (.lst ys))):=by
 intro pins s σ H xs us Q I r h;obtain⟨p,ys,rfl,hq,q⟩:=h;obtain⟨u,rfl,rx⟩:=vals1 r;cases rx;have fin:∀(its:List Value),bM ys its->ys.length<=sizeLine->∀(h':Heap)(c':Nat),(∀b o',s.heap.get? b=some o'->h'.get? b=some o')->
   h'.get? s.heap.objs.size=some {cls:=.type "list",dict:=none,data:=.seq its.toArray c',slots:= #[]}->EP X pins σ Q (.ref s.heap.objs.size) {s with heap:=h'}:=fun its r' hz h' c' kp e=>
  ⟨.ref s.heap.objs.size,_,I.laid (t':=s.toks) kp (aw _) (show dh X.prog X.w _ h' _ (.lst ys)from⟨hz,its,c',r',e⟩),rfl,q _ (I.hok.fresh (aw _))⟩
 rcases hq with hq|hq
 ·obtain⟨its,r',pl,hz⟩:=I.list hq
  have hlen:=r'.length;obtain⟨o,ho,hc,n,hd⟩:=pl.isList;exact call_list_seq p (.inl rfl) ho hc hd (fun h' c' kp e=>fin its r' hz h' c' kp e) (by simp only[ay]<;>omega)
 ·obtain⟨its,r',pl,hz⟩:=I.tuple hq
  have hlen:=r'.length;obtain⟨o,ho,hc,n,hd⟩:=pl;exact call_list_seq p (.inr rfl) ho hc hd (fun h' c' kp e=>fin its r' hz h' c' kp e) (by simp only[ay]<;>omega)
theorem uu:eL X (.type "tuple") (fun xs H Q=>∃p ys,xs=[.ref p]/\((SqL X.K H p ys/\∀l,H l=none->Q (.ref l) (upd H l (.tup ys)))\/(SqT X.K H p ys/\Q (.ref p) H))):=by
 intro pins s σ H xs us Q I r h;obtain⟨p,ys,rfl,h⟩:=h;obtain⟨u,rfl,rx⟩:=vals1 r;cases rx;rcases h with⟨hq,q⟩ |⟨hq,q⟩
 ·obtain⟨its,r',pl,hz⟩:=I.list hq
  have hlen:=r'.length;refine call_tuple_list pl.isList (fun h' kp=>?_) (by simp only[ay]<;>omega);have I1:Inv X pins σ H {s with heap:=h'}:=I.kept (t':=s.toks) kp;have I2:Inv X pins σ (upd H h'.objs.size (.tup ys)) {s with heap:=h'.push {cls:=.type "tuple",data:=.seq its.toArray}}:=
   I1.laid (t':=s.toks) (fun b o e=>af _ e) (aw _) (show dh X.prog X.w _ _ _ (.tup ys)from⟨hz,its,r',IsTup.new _ _⟩)
  exact⟨.ref h'.objs.size,_,I2,rfl,q _ (I1.hok.fresh (aw _))⟩
 ·obtain⟨its,r',pl,hz⟩:=I.tuple hq
  exact call_tuple_same pl ⟨.ref p,H,I,rfl,q⟩
noncomputable def tyV(K:ae)(T:String)(x:V)(H:Hp):Prop:=match x with
 |.str _=>T="str"
 |.int _=>T="int"
 |.ref p=>(T="list"/\∃xs,SqL K H p xs)\/(T="tuple"/\∃o,K.lookup p=some o/\o.cls=.type "tuple"/\o.dict=none)\/
   (T="dict"/\((∃kvs,H p=some (.dK kvs))\/∃kvs,H p=some (.dT kvs)))\/(T="set"/\∃S n,H p=some (.set S n))
 |_=>False
theorem tyV_is{pins:List (Addr×Obj)}{σ:St}{H:Hp}{s:Shared}{T:String}{x:V}{v:Value}(I:Inv X pins σ H s)(r:RelV x v)(ty:tyV X.K T x H):
  s.TypeIs v T/\∀a,v=.ref a->∃ob,s.heap.get? a=some ob/\ob.dict=none:=by
 cases x with
 |str z=>
  obtain⟨t,rfl⟩:=r;cases(show T="str" from ty);exact⟨typeIs_str s z t,fun _ e=>nomatch e⟩
 |int i=>
  obtain⟨t,rfl⟩:=r;cases(show T="int" from ty);exact⟨typeIs_int s i t,fun _ e=>nomatch e⟩
 |ref p=>
  cases r;rcases ty with⟨rfl,xs,hq⟩ |⟨rfl,o,hk,hc,hd⟩ |⟨rfl,hk⟩ |⟨rfl,S,n,hk⟩
  ·obtain⟨its,_,pl,_⟩:=I.list hq
   refine⟨pl.isList.typeIs,fun a e=>?_⟩;cases e;obtain⟨o,n,e,c,hd,_⟩:=pl;exact⟨o,e,hd⟩
  ·refine⟨⟨o,I.kIn p o hk,hc⟩,fun a e=>?_⟩
   cases e;exact⟨o,I.kIn _ o hk,hd⟩
  ·have z:∃o,s.heap.get? p=some o/\o.ExactDict:=by
    rcases hk with⟨kvs,hk⟩ |⟨kvs,hk⟩
    ·obtain⟨_,_,_,_,o,_,_,e,ex,_⟩:=I.hok p _ hk
     exact⟨o,e,ex⟩
    ·obtain⟨_,_,_,_,o,_,_,e,ex,_⟩:=I.hok p _ hk
     exact⟨o,e,ex⟩
   obtain⟨o,e,ex⟩:=z;refine⟨⟨o,e,ex.1⟩,fun a e2=>?_⟩;cases e2;exact⟨o,e,ex.2.1⟩
  ·obtain⟨o,_,_,_,e,ex,_⟩:=I.hok p _ hk
   refine⟨⟨o,e,ex.1⟩,fun a e2=>?_⟩;cases e2;exact⟨o,e,ex.2.1⟩
 |_=>exact gb ty
noncomputable def tBM0(K:ae)(T:String)(r:V->List V->Hp->VK->Prop)(to:TE):TE:=fun σ H Q=>to σ H fun x H1=>tyV K T x H1/\r x [] H1 Q
noncomputable def tBM(K:ae)(T:String)(r:V->List V->Hp->VK->Prop)(to:TE)(t:TA):TE:=fun σ H Q=>to σ H fun x H1=>tyV K T x H1/\t σ H1 fun xs H2=>r x xs H2 Q
variable {o e:Expr}{es:List Expr}{to:TE}{t:TA}{name:Str}{apos cpos:Pos}{T id:String}{r:V->List V->Hp->VK->Prop}
theorem F0(pa:PlainAttrs T)(slot:Slot T name id)(hty:typeOf (.builtin id)=pure (.type "method_descriptor"))(hm:MtR X id r)(ho:PE X o to)(ha:PA X (e::es) t)
  (hbase:HS o name X.env (eval o X.env)=eval o X.env:=by rfl)
  (hfew:((backTo cpos (aK (e::es) X.env)).all (fun x=> !x.1)&&(xI cpos (mz [] X.env)).all (fun x=>x.1.isSome)
   &&decide ((e::es).length+([]:List Keyword).length+(if([]:List Keyword).isEmpty then 0 else 1)<30))=true:=by rfl)
  (hline:(apos.endLine==cpos.line)=true:=by rfl) (hs:aK (e::es) X.env=(false,eval e X.env)::aK es X.env:=by rfl) (hplain:(backTo cpos (aK es X.env)).any (·.1)=false:=by rfl):
  PE X (.Call (.Attribute o name apos) (e::es) [] cpos) (tBM X.K T r to t):=by
 intro pins s σ H Q I h;refine wpAny_Call_method_late hbase hfew hline rfl (thn (ho pins s σ H _ I h) fun v s1 ⟨x,H1,I1,r1,ty,q1⟩=>?_);obtain⟨h1,h2⟩:=tyV_is I1 r1 ty;refine⟨T,id,pa,slot,hty,h1,h2,?_⟩;have hA:=ha cpos pins s1 σ H1 _ I1 q1;rw[hs]at hA⊢;refine Calls.callWith_builtin (by show(false||(backTo cpos (aK es X.env)).any (·.1))=false;rw[hplain]<;>rfl) (Calls.evalArgs_plain ?_);exact thn hA fun us s2 ⟨vs,H2,I2,r2,q2⟩=>hm pins s2 σ H2 x vs v us Q I2 r1 r2 q2
end
noncomputable def MtM(X:Cx)(id:String)(r:V->List V->Hp->VK->Prop):Prop:=
 ∀(pins:List (Addr×Obj))(s:Shared)(σ:St)(H:Hp)(x:V)(xs:List V)(v:Value)(us:List Value)(Q:VK),Inv X pins σ H s->RelV x v->bM xs us->r x xs H Q->
  wpAny (model X.prog X.w) X.A (call (.builtin id) (v::us)) (EP X pins σ Q) X.xe s
theorem bM.one{x:V}{us:List Value}(h:bM [x] us):∃u,us=[u]/\RelV x u:=by
 cases h with
 |cons r k=>cases k with
  |nil=>exact⟨_,rfl,r⟩
theorem bM.two{x y:V}{us:List Value}(h:bM [x,y] us):∃u v,us=[u,v]/\RelV x u/\RelV y v:=by
 cases h with
 |cons r k=>
  obtain⟨v,e,q⟩:=bM.one k;exact⟨_,v,by rw[e],r,q⟩
theorem bM.zero:∀{us:List Value},bM [] us->us=[]
 |_,.nil=>rfl
theorem bM.dropLast{xs:List V}{us:List Value}(h:bM xs us):bM xs.dropLast us.dropLast:=by
 induction h with
 |nil=>exact .nil
 |cons r t ih=>
  cases t with
  |nil=>exact .nil
  |cons q t'=>exact .cons r ih
theorem bM.eraseIdx:∀{xs:List V}{us:List Value}(i:Nat),bM xs us->bM (xs.eraseIdx i) (us.eraseIdx i)
 |_,_,_,.nil=>.nil
 |_,_,0,.cons _ t=>t
 |_,_,i+1,.cons r t=>.cons r (bM.eraseIdx i t)
theorem A1{α:Type}(l:List α):l.eraseIdx (l.length-1)=l.dropLast:=by
 induction l with
 |nil=>rfl
 |cons a r ih=>
  cases r with
  |nil=>rfl
  |cons b r=>
   have e:(a::b::r).length-1=((b::r).length-1)+1:=by
    have h1:(a::b::r).length=r.length+2:=rfl;have h2:(b::r).length=r.length+1:=rfl;omega
   rw[e,List.eraseIdx_cons_succ,ih];all_goals rfl
theorem uZ{α:Type}:∀(l:List α)(i:Nat),(l.eraseIdx i).length<=l.length
 | [],_=>aw _
 |_::_,0=>cZ _
 |_::r,i+1=>Nat.succ_le_succ (uZ r i)
section
variable {X:Cx}{pins:List (Addr×Obj)}{σ:St}{H:Hp}{s:Shared}{l b:Addr}{xs ys zs:List V}
theorem Inv.lset{its its':List Value}{n:Nat}{f:Array Value->Array Value}{t':Nat}(I:Inv X pins σ H s)(hH:H l=some (.lst xs))
  (e:s.heap.get? l=some {cls:=.type "list",data:=.seq its.toArray n}) (hf:f its.toArray=its'.toArray) (hv:bM ys its') (hz:ys.length<=sizeLine):
  Inv X pins σ (upd H l (.lst ys)) {s with heap:=s.heap.update l (aT f),toks:=t'}:=by
 have q:=Ek e f;rw[hf]at q;refine I.write (x:=l) (e:=l) (by rw[hH];exact trivial) (.inl rfl) (fun b' u hb hu=>(aB s.heap (aT f) (bz hb)).trans hu) ⟨_,q⟩ ?_;exact⟨hz,its',_,hv,q⟩
theorem Inv.lnew{its:List Value}{t':Nat}(I:Inv X pins σ H s)(hv:bM ys its)(hz:ys.length<=sizeLine):
  Inv X pins σ (upd H s.heap.objs.size (.lst ys)) {s with heap:=s.heap.push {cls:=.type "list",data:=.seq its.toArray},toks:=t'}:=
 I.laid (fun _ _ q=>af _ q) (aw _) ⟨hz,its,0,hv,au _ rfl⟩
theorem Inv.fresh(I:Inv X pins σ H s):H s.heap.objs.size=none:=I.hok.fresh (aw _)
theorem Inv.Gy(I:Inv X pins σ H s)(hH:H l=some (.lst xs)):xs.length<=sizeLine/\∃(its:List Value)(n:Nat),bM xs its/\xs.length=its.length/\s.heap.get? l=some {cls:=.type "list",data:=.seq its.toArray n}:=by
 obtain⟨z,its,n,r,e⟩:=I.hok l _ hH;exact⟨z,its,n,r,r.length,e⟩
end
section
variable {X:Cx}
noncomputable def wu:V->List V->Hp->VK->Prop:=fun x vs H Q=>∃l xs y,x=.ref l/\vs=[y]/\H l=some (.lst xs)/\xs.length<sizeLine/\Q .non (upd H l (.lst (xs++[y])))
theorem Du:MtM X "list.append" wu:=by
 intro pins s σ H x vs v us Q I rx rv h;obtain⟨l,xs,y,rfl,rfl,hH,hz,q⟩:=h;cases rx;obtain⟨u,rfl,ru⟩:=rv.one;obtain⟨z,its,n,r,hl,e⟩:=I.Gy hH;refine Ej F.slot_list_append ⟨_,e,rfl⟩ F.entry_list_append (F.args_list_append_2 _ _) (PySem.list_append l its.toArray n u (by rw[ay];omega)) ⟨e,?_⟩;refine⟨.non,_,I.lset (its':=its++[u]) hH e (by simp) (r.append (.cons ru .nil)) ?_,rfl,q⟩;rw[di,m7];omega
noncomputable def rPop:V->List V->Hp->VK->Prop:=fun x vs H Q=>∃l xs y,x=.ref l/\vs=[]/\H l=some (.lst xs)/\xs[xs.length-1]? =some y/\Q y (upd H l (.lst xs.dropLast))
theorem mt_pop:MtM X "list.pop" rPop:=by
 intro pins s σ H x vs v us Q I rx rv h;obtain⟨l,xs,y,rfl,rfl,hH,hy,q⟩:=h;cases rx;have hus:=rv.zero;subst hus;obtain⟨z,its,n,r,hl,e⟩:=I.Gy hH;obtain⟨u,hu,ru⟩:=r.get hy;have hy':its.toArray[its.toArray.size-1]? =some u:=by
  show its.toArray[its.length-1]? =some u;rw[<-iD,<-hl];exact hu
 refine Ej F.slot_list_pop ⟨_,e,rfl⟩ F.entry_list_pop (F.args_list_pop_1 _) (MeetsSeq.list_pop_last l its.toArray n u hy' (by rw[ay];omega)) ⟨e,?_⟩;refine⟨y,_,I.lset (its':=its.dropLast) hH e ?_ r.dropLast ?_,ru,q⟩
 ·show its.toArray.eraseIdxIfInBounds (its.toArray.size-1)=its.dropLast.toArray
  rw[ay,tP,A1]
 ·rw[List.length_dropLast]
  omega
noncomputable def Fw:V->List V->Hp->VK->Prop:=fun x vs H Q=>∃l xs i k y,x=.ref l/\vs=[.int i]/\H l=some (.lst xs)∧-(2^63)<=i/\i<2^63/\seqIndex? i xs.length=some k/\xs[k]? =some y/\Q y (upd H l (.lst (xs.eraseIdx k)))
theorem Gf:MtM X "list.pop" Fw:=by
 intro pins s σ H x vs v us Q I rx rv h;obtain⟨l,xs,i,k,y,rfl,rfl,hH,h1,h2,hk,hy,q⟩:=h;cases rx;obtain⟨u,rfl,ru⟩:=rv.one;obtain⟨t,rfl⟩:=ru;obtain⟨z,its,n,r,hl,e⟩:=I.Gy hH;obtain⟨w,hw,rw'⟩:=r.get hy;refine Ej F.slot_list_pop ⟨_,e,rfl⟩ F.entry_list_pop (F.args_list_pop_2 _ _)
  (MeetsSeq.list_pop_at l its.toArray n i t k w (fitsIndex_both h1 h2) (by rw[ay,<-hl];exact hk) (by rw[<-iD];exact hw) (by rw[ay];omega)) ⟨e,?_⟩
 refine⟨y,_,I.lset (its':=its.eraseIdx k) hH e ?_ (r.eraseIdx k) ?_,rw',q⟩
 ·show its.toArray.eraseIdxIfInBounds k=(its.eraseIdx k).toArray
  rw[tP]
 ·have :=uZ xs k
  omega
noncomputable def rReverse:V->List V->Hp->VK->Prop:=fun x vs H Q=>∃l xs,x=.ref l/\vs=[]/\H l=some (.lst xs)/\Q .non (upd H l (.lst xs.reverse))
noncomputable def rClear:V->List V->Hp->VK->Prop:=fun x vs H Q=>∃l xs,x=.ref l/\vs=[]/\H l=some (.lst xs)/\Q .non (upd H l (.lst []))
noncomputable def rCat:R2:=fun x y H Q=>∃l b xs zs,x=.ref l/\y=.ref b/\H l=some (.lst xs)/\H b=some (.lst zs)/\xs.length+zs.length<=sizeLine/\∀p,H p=none->Q (.ref p) (upd H p (.lst (xs++zs)))
theorem op_cat:OpR X (eN .Add) rCat:=by
 intro pins s σ H x y v u Q I rx ry h;obtain⟨l,b,xs,zs,rfl,rfl,hH,hB,hz,q⟩:=h;cases rx;cases ry;obtain⟨z,its,n,r,hl,e⟩:=I.Gy hH;obtain⟨z2,its2,n2,r2,hl2,e2⟩:=I.Gy hB;refine PySem.P.add_list e e2 ?_ (by rw[ay,ay];omega);have ea:its.toArray++its2.toArray=(its++its2).toArray:=by simp
 rw[ea];exact⟨.ref _,_,I.lnew (t':=s.toks) (r.append r2) (by rw[di];omega),rfl,q _ I.fresh⟩
noncomputable def rRep:R2:=fun x y H Q=>∃l k xs,x=.ref l/\y=.int k/\H l=some (.lst xs)∧-(2^63)<=k/\k<2^63/\xs.length*k.toNat<=sizeLine/\
 ∀p,H p=none->Q (.ref p) (upd H p (.lst (iq k.toNat xs).flatten))
end
section
variable {κ:Type}[DecidableEq κ]
noncomputable def dX(kvs:List (κ×V))(k:κ):Option V:=(kvs.find? fun kv=>decide (kv.1=k)).map (·.2)
noncomputable def putK(kvs:List (κ×V))(k:κ)(v:V):List (κ×V):=
 if(kvs.any fun kv=>decide (kv.1=k))=true then kvs.map (fun kv=>if kv.1=k then(kv.1,v)else kv)else kvs++[(k,v)]
theorem gf{p:κ×V}{r:List (κ×V)}{k:κ}(e:p.1=k):dX (p::r) k=some p.2:=by simp[dX,gT,e]
theorem gh{p:κ×V}{r:List (κ×V)}{k:κ}(e:¬p.1=k):dX (p::r) k=dX r k:=by simp[dX,gT,e]
theorem i9(k:κ):∀kvs:List (κ×V),(kvs.any fun kv=>decide (kv.1=k))=(dX kvs k).isSome
 | []=>rfl
 |p::r=>by
  rw[lr];by_cases e:p.1=k
  ·simp only[gf e,decide_eq_true e,Bool.true_or,fw]
  ·rw[gh e,decide_eq_false e,Bool.false_or];exact i9 k r
theorem x4(k j:κ)(y:V):∀kvs:List (κ×V),dX (kvs.map fun kv=>if kv.1=k then(kv.1,y)else kv) j=(dX kvs j).map fun x=>if j=k then y else x
 | []=>rfl
 |p::r=>by
  have ih:=x4 k j y r;rw[bB];by_cases h:p.1=k
  ·rw[if_pos h]
   by_cases e:p.1=j
   ·rw[gf (p:=(p.1,y)) e,gf e,i6,if_pos (e.symm.trans h)]
   ·rw[gh (p:=(p.1,y)) e,gh e,ih]
  ·rw[if_neg h]
   by_cases e:p.1=j
   ·rw[gf (p:=p) e,gf e,i6,if_neg (fun z=>h (e.trans z))]
   ·rw[gh (p:=p) e,gh e,ih]
theorem uC(k j:κ)(y:V):∀kvs:List (κ×V),dX kvs k=none->dX (kvs++[(k,y)]) j=if j=k then some y else dX kvs j
 | [],_=>by
  by_cases e:k=j
  ·rw[if_pos e.symm];exact gf (p:=(k,y)) e
  ·rw[if_neg (fun z=>e z.symm)];exact gh (p:=(k,y)) e
 |p::r,hn=>by
  rw[tS];have hk:¬p.1=k:=fun z=>by rw[gf z]at hn;cases hn
  rw[gh hk]at hn;have ih:=uC k j y r hn;by_cases e:p.1=j
  ·rw[gf e,gf e,if_neg (fun z=>hk (e.trans z))]
  ·rw[gh e,gh e,ih]
theorem EF(kvs:List (κ×V))(k j:κ)(y:V):dX (putK kvs k y) j=if j=k then some y else dX kvs j:=by
 unfold putK;by_cases a:(kvs.any fun kv=>decide (kv.1=k))=true
 ·rw[if_pos a,x4]
  rw[i9]at a;by_cases e:j=k
  ·obtain⟨x,hx⟩:=cg.mp a
   rw[if_pos e,e,hx,i6,if_pos rfl]
  ·rw[if_neg e]
   cases dX kvs j with
   |none=>rfl
   |some x=>rw[i6,if_neg e]
 ·rw[if_neg a]
  refine uC k j y kvs ?_;rw[i9]at a;cases q:dX kvs k with
  |none=>rfl
  |some x=>rw[q]at a;exact(a rfl).elim
theorem lP(kvs:List (κ×V))(k:κ)(v:V):(putK kvs k v).length<=kvs.length+1:=by
 unfold putK;split
 ·rw[ao];omega
 ·rw[di,bJ,jr];omega
theorem FD{kvs:List (κ×V)}{k:κ}(v:V)(h:dX kvs k=none):putK kvs k v=kvs++[(k,v)]:=by
 unfold putK;rw[i9,h];exact if_neg (by decide)
theorem pR.DG{o:Option V}{u:Option Value}(r:pR o u):o.isSome=u.isSome:=by
 cases o with
 |none=>cases u with
  |none=>rfl
  |some _=>exact(show False from r).elim
 |some _=>cases u with
  |none=>exact(show False from r).elim
  |some _=>rfl
theorem KV.any{kvs:List (κ×V)}{vs:List (κ×Value)}(r:KV kvs vs)(k:κ):(kvs.any fun kv=>decide (kv.1=k))=vs.any fun kv=>decide (kv.1=k):=by
 unfold KV at r
 induction r with
 |nil=>rfl
 |cons h t ih=>rw[lr,lr,ih,h.1]
theorem KV.repl{kvs:List (κ×V)}{vs:List (κ×Value)}(r:KV kvs vs)(k:κ){y:V}{u:Value}(ry:RelV y u):
  KV (kvs.map fun kv=>if kv.1=k then(kv.1,y)else kv) (vs.map fun kv=>if kv.1=k then(kv.1,u)else kv):=by
 unfold KV at r⊢
 induction r with
 |nil=>exact .nil
 | @cons p q ps qs h t ih=>
  rw[bB,bB];refine .cons ?_ ih;obtain⟨h1,h2⟩:=h;by_cases e:p.1=k
  ·rw[if_pos e,if_pos (h1.symm.trans e)];exact⟨h1,ry⟩
  ·rw[if_neg e,if_neg (fun z=>e (h1.trans z))];exact⟨h1,h2⟩
theorem KV.put{kvs:List (κ×V)}{vs:List (κ×Value)}(r:KV kvs vs)(k:κ){y:V}{u:Value}(ry:RelV y u):KV (putK kvs k y) (stored vs k u):=by
 unfold putK stored;rw[r.any k];by_cases e:(vs.any fun kv=>decide (kv.1=k))=true
 ·rw[if_pos e,if_pos e];exact r.repl k ry
 ·rw[if_neg e,if_neg e];exact Paired.snoc r ⟨rfl,ry⟩
end
theorem BU{P:Program}{w:World}{k:Key}{u:Value}(r:RelV (kV k) u):(bR P w).is k u=true:=by
 cases k with
 |inl i=>obtain⟨t,e⟩:=(show ∃t,u=fK i t from r);subst e;exact lL P w i t
 |inr x=>obtain⟨t,e⟩:=(show ∃t,u=gU x t from r);subst e;exact yE P w x t
theorem pG{P:Program}{w:World}:∀{ks:List Key}{us:List Value},bM (ks.map kV) us->ItemsAre (bR P w) ks us
 | [],_,r=>by rw[jM]at r;cases r;exact .nil
 |k::ks,_,r=>by
  rw[bB]at r;cases r with
  |cons h t=>exact .cons (BU h) (pG t)
noncomputable abbrev KT(H:Hp):List (List Key×V)->List (List Key×Addr×Value)->Prop:=Paired fun p q=>p.1=q.1/\H q.2.1=some (.tup (p.1.map kV))/\RelV p.2 q.2.2
theorem KT.val{H:Hp}{kvs:List (List Key×V)}{xs:List (List Key×Addr×Value)}(r:KT H kvs xs)(k:List Key):pR (dX kvs k) ((atKey xs k).map (·.2)):=by
 induction r with
 |nil=>exact True.intro
 | @cons p q ps qs h t ih=>
  obtain⟨h1,_,h2⟩:=h;by_cases e:p.1=k
  ·have e':q.1=k:=h1.symm.trans e
   have b:atKey (q::qs) k=some q.2:=by simp[atKey,gT,e']
   rw[gf e,b];exact h2
  ·have e':¬q.1=k:=fun z=>e (h1.trans z)
   have b:atKey (q::qs) k=atKey qs k:=by simp[atKey,gT,e']
   rw[gh e,b];exact ih
theorem KT.repl{H:Hp}{kvs:List (List Key×V)}{xs:List (List Key×Addr×Value)}(r:KT H kvs xs)(k:List Key){y:V}{u:Value}(ry:RelV y u):
  KT H (kvs.map fun kv=>if kv.1=k then(kv.1,y)else kv) (xs.map (putAt k u)):=by
 induction r with
 |nil=>exact .nil
 | @cons p q ps qs h t ih=>
  rw[bB,bB];refine .cons ?_ ih;obtain⟨h1,h2,h3⟩:=h;unfold putAt;by_cases e:p.1=k
  ·rw[if_pos e,if_pos (h1.symm.trans e)];exact⟨h1,h2,ry⟩
  ·rw[if_neg e,if_neg (fun z=>e (h1.trans z))];exact⟨h1,h2,h3⟩
theorem KT.put{H:Hp}{kvs:List (List Key×V)}{xs:List (List Key×Addr×Value)}(r:KT H kvs xs)(k:List Key){b:Addr}{y:V}{u:Value}(hb:H b=some (.tup (k.map kV)))(ry:RelV y u):
  KT H (putK kvs k y) (storedH xs k b u):=by
 have e:(kvs.any fun kv=>decide (kv.1=k))=(atKey xs k).isSome:=by
  rw[i9,(r.val k).DG,Option.isSome_map]
 unfold putK storedH;rw[e];by_cases q:(atKey xs k).isSome=true
 ·rw[if_pos q,if_pos q];exact r.repl k ry
 ·rw[if_neg q,if_neg q];exact Paired.snoc r ⟨rfl,hb,ry⟩
theorem KT.keeps{H H':Hp}{kvs:List (List Key×V)}{xs:List (List Key×Addr×Value)}(r:KT H kvs xs)(ht:∀b ys,H b=some (.tup ys)->H' b=some (.tup ys)):KT H' kvs xs:=
 Paired.Dy r fun _ _ z=>⟨z.1,ht _ _ z.2.1,z.2.2⟩
section
variable {P:Program}{w:World}{H:Hp}{h:Heap}{a:Addr}
theorem rd_of{u:HO}(ok:HOk P w H h)(e:Rd H a u):dh P w H h a u:=e.ok ok
theorem dk_rd{kvs:List (Key×V)}(ok:HOk P w H h)(e:Rd H a (.dK kvs)):kvs.length<=sizeLine/\(a==dR)=false/\∃vs,KV kvs vs/\h.DictOf (bR P w) a vs:=
 show dh P w H h a (.dK kvs)from rd_of ok e
theorem dk_of{kvs:List (Key×V)}(ok:HOk P w H h)(e:H a=some (.dK kvs)):kvs.length<=sizeLine/\(a==dR)=false/\∃vs,KV kvs vs/\h.DictOf (bR P w) a vs:=dk_rd ok (.inl e)
theorem GQ{ks:List Key}(ok:HOk P w H h)(e:H a=some (.tup (ks.map kV))):(nG (bR P w)).is h ks a:=by
 obtain⟨_,its,r,o,h1,h2,n,h3⟩:=(show dh P w H h a (.tup (ks.map kV))from ok a _ e);exact⟨o,its.toArray,n,h1,h2,h3,by simpa using pG r⟩
theorem dt_rd{kvs:List (List Key×V)}(ok:HOk P w H h)(e:Rd H a (.dT kvs)):kvs.length<=sizeLine/\(a==dR)=false/\
  ∃xs,KT H kvs xs/\h.DictOfH (nG (bR P w)) a xs:=by
 obtain⟨z,y,xs,r,o,es,ep,h1,h2,h3,h4,h5⟩:=(show dh P w H h a (.dT kvs)from rd_of ok e);refine⟨z,y,xs,r,o,es,ep,h1,h2,h3,h4,fun x hx=>?_,h5⟩;have all:∀{l:List (List Key×V)}{m:List (List Key×Addr×Value)},KT H l m->∀x∈m,(nG (bR P w)).is h x.1 x.2.1:=by
  intro l m q
  induction q with
  |nil=>intro x hx;exact nomatch hx
  | @cons p q ps qs hq t ih=>
   intro x hx;rcases aC.mp hx with e|hx
   ·subst e
    exact GQ ok (by rw[<-hq.1];exact hq.2.1)
   ·exact ih x hx
 exact all r x hx
theorem Hh{kvs:List (List Key×V)}(ok:HOk P w H h)(e:H a=some (.dT kvs)):kvs.length<=sizeLine/\(a==dR)=false/\
  ∃xs,KT H kvs xs/\h.DictOfH (nG (bR P w)) a xs:=dt_rd ok (.inl e)
end
section
variable {X:Cx}{pins:List (Addr×Obj)}{σ:St}{H:Hp}{s:Shared}{a:Addr}{y v:V}{u r:Value}{o:Option V}{A:Around}{E:Value->Shared->Prop}
theorem Inv.big(I:Inv X pins σ H s):dR<s.heap.objs.size:=by
 have h:bg<s.heap.objs.size:=(I.mod.glob.keeps I.bk).lt;exact fJ (by decide) h
theorem B7{h':Heap}{t':Nat}{ob:HO}(I:Inv X pins σ H s)(mu:Mut (H a))(hs:dg a s.heap h')(he:∃q,h'.get? a=some q)(new:dh X.prog X.w (upd H a ob) h' a ob):
  Inv X pins σ (upd H a ob) {s with heap:=h',toks:=t'}:=
 I.write (x:=a) (e:=a) mu (.inl rfl) (fun b q hb z=>(hs.2 b hb).trans z) he new
theorem dk_new{P:Program}{w:World}{H':Hp}{h':Heap}{kvs:List (Key×V)}{vs:List (Key×Value)}(z:kvs.length<=sizeLine)(hd:(a==dR)=false)(rel:KV kvs vs)(dd:h'.DictOf (bR P w) a vs):
  dh P w H' h' a (.dK kvs):=⟨z,hd,vs,rel,dd⟩
end
theorem y8{P:Program}{w:World}{H:Hp}(h:Heap)(hb:dR<h.objs.size):dh P w H (h.push {cls:=.type "dict",data:=.dict #[]}) h.objs.size (.dK []):=
 ⟨bA _,beq_eq_false_iff_ne.mpr (bz (aD hb)),[],.nil,Heap.DictOf.new h⟩
theorem Hi{P:Program}{w:World}{H:Hp}(h:Heap)(hb:dR<h.objs.size):dh P w H (h.push {cls:=.type "dict",data:=.dict #[]}) h.objs.size (.dT []):=
 ⟨bA _,beq_eq_false_iff_ne.mpr (bz (aD hb)),[],.nil,_,#[],0,au _ rfl,⟨rfl,rfl,rfl⟩,rfl,rfl,j9⟩
noncomputable def ET:TE:=fun _ H Q=>∀p,H p=none->Q (.ref p) (upd H p (.dK []))
noncomputable def ES:TE:=fun _ H Q=>∀p,H p=none->Q (.ref p) (upd H p (.dT []))
section
variable {X:Cx}{pos:Pos}
theorem FY:PE X (.Dict [] [] pos) ET:=fun pins s σ H Q I h=>
 wpAny_Dict_empty ⟨.ref s.heap.objs.size,_,I.laid (a:=s.heap.objs.size) (o:=.dK []) (t':=s.toks) (fun _ _ q=>af _ q) (aw _) (y8 s.heap I.big),rfl,h _ (I.hok.fresh (aw _))⟩
theorem FX:PE X (.Dict [] [] pos) ES:=fun pins s σ H Q I h=>
 wpAny_Dict_empty ⟨.ref s.heap.objs.size,_,I.laid (a:=s.heap.objs.size) (o:=.dT []) (t':=s.toks) (fun _ _ q=>af _ q) (aw _) (Hi s.heap I.big),rfl,h _ (I.hok.fresh (aw _))⟩
end
noncomputable def zZ:List (TE×TE)->St->Hp->(List (V×V)->Hp->Prop)->Prop
 | [],_,H,Q=>Q [] H
 | (tk,tv)::r,σ,H,Q=>tk σ H fun x H1=>tv σ H1 fun y H2=>zZ r σ H2 fun ps H3=>Q ((x,y)::ps) H3
noncomputable abbrev VV:List (V×V)->List (Value×Value)->Prop:=Paired fun p q=>RelV p.1 q.1/\RelV p.2 q.2
noncomputable def PPs(X:Cx)(pos:Pos)(keys:List (Option Expr))(values:List Expr)(trs:List (TE×TE)):Prop:=
 ∀(pins:List (Addr×Obj))(s:Shared)(σ:St)(H:Hp)(Q:List (V×V)->Hp->Prop),Inv X pins σ H s->zZ trs σ H Q->
  wpAny (model X.prog X.w) X.A (evalPairs (pairTrees keys values X.env pos)) (fun vs s'=>∃ps H',Inv X pins σ H' s'/\VV ps vs/\Q ps H') X.xe s
theorem pps_nil{X:Cx}{pos:Pos}:PPs X pos [] [] []:=fun pins s σ H Q I h=>pairTrees_nil_walk ⟨[],H,I,.nil,h⟩
theorem FI{X:Cx}{pos:Pos}{k v:Expr}{ks:List (Option Expr)}{vs:List Expr}{tk tv:TE}{trs:List (TE×TE)}(hk:PE X k tk)(hv:PE X v tv)(hr:PPs X pos ks vs trs):
  PPs X pos (some k::ks) (v::vs) ((tk,tv)::trs):=fun pins s σ H Q I h=>
 pairTrees_cons_walk (thn (hk pins s σ H _ I h) fun u s1 ⟨x,H1,I1,rx,q1⟩=>thn (hv pins s1 σ H1 _ I1 q1) fun w2 s2 ⟨y,H2,I2,ry,q2⟩=>
  thn (hr pins s2 σ H2 _ I2 q2) fun ws s3 ⟨ps,H3,I3,rel,q3⟩=>⟨(x,y)::ps,H3,I3,.cons ⟨rx,ry⟩ rel,q3⟩)
noncomputable def si(kvs more:List (Key×V)):List (Key×V):=more.foldl (fun acc kv=>putK acc kv.1 kv.2) kvs
theorem KV.merge:∀{more:List (Key×V)}{rs:List (Key×Value)}{kvs:List (Key×V)}{vs:List (Key×Value)},KV more rs->KV kvs vs->KV (si kvs more) (merged vs rs):=by
 intro more rs kvs vs r;unfold KV at r
 induction r generalizing kvs vs with
 |nil=>intro q;exact q
 | @cons p q ps qs h t ih=>
  intro r0;have e:KV (putK kvs p.1 p.2) (stored vs q.1 q.2):=by
   have :=r0.put p.1 h.2
   rw[<-h.1];exact this
  exact ih e
theorem mL:∀(more kvs:List (Key×V)),(si kvs more).length<=kvs.length+more.length
 | [],kvs=>by show kvs.length<=kvs.length+0;omega
 |p::r,kvs=>by
  have h1:=mL r (putK kvs p.1 p.2);have h2:=lP kvs p.1 p.2;show(si (putK kvs p.1 p.2) r).length<=_;rw[bJ];omega
theorem sW{P:Program}{w:World}:∀{kvs:List (Key×V)}{ws:List (Value×Value)},VV (kvs.map fun kv=>(kV kv.1,kv.2)) ws->∃rs,Carries (bR P w) ws rs/\KV kvs rs
 | [],_,r=>by rw[jM]at r;cases r;exact⟨[],True.intro,.nil⟩
 |p::kvs,_,r=>by
  rw[bB]at r;cases r with
  | @cons a b as bs h t=>
   obtain⟨rs,c,q⟩:=sW (P:=P) (w:=w) t;obtain⟨b1,b2⟩:=b;exact⟨(p.1,b2)::rs,⟨BU h.1,rfl,c⟩,.cons ⟨rfl,h.2⟩ q⟩
noncomputable def tDisp(trs:List (TE×TE)):TE:=fun σ H Q=>∀p,H p=none->zZ trs σ (upd H p (.dK [])) fun ps H2=>H2 p=some (.dK [])/\∃kvs:List (Key×V),ps=kvs.map (fun kv=>(kV kv.1,kv.2))/\kvs.length<=15/\Q (.ref p) (upd H2 p (.dK (si [] kvs)))
theorem pe_disp{X:Cx}{pos:Pos}{keys:List (Option Expr)}{values:List Expr}{trs:List (TE×TE)}(h:PPs X pos keys values trs)(hall:keys.all (·.isSome)=true)(hl:keys.length=values.length)(h0:keys≠[])
  (h15:keys.length<=15):PE X (.Dict keys values pos) (tDisp trs):=by
 intro pins s σ H Q I q;have hn:=I.hok.fresh (aw s.heap.objs.size);have I1:=I.laid (a:=s.heap.objs.size) (o:=.dK []) (h':=s.heap.push {cls:=.type "dict",data:=.dict #[]}) (t':=s.toks) (fun _ _ q=>af _ q) (aw _) (y8 s.heap I.big);refine wpAny_Dict_walk (knd:=bR X.prog X.w) hall hl h0 h15 (thn (h pins _ σ _ _ I1 (q _ hn)) fun ws s2 ⟨ps,H2,I2,rel,e,kvs,ep,lk,q2⟩=>?_);subst ep;obtain⟨rs,c,rk⟩:=sW (P:=X.prog) (w:=X.w) rel;obtain⟨z,hd,vs0,r0,dd⟩:=dk_of I2.hok e;cases r0;refine⟨rs,c,dd,fun h' dd' hs=>⟨.ref s.heap.objs.size,_,?_,rfl,q2⟩⟩;have hz:(si [] kvs).length<=sizeLine:=by
  have h1:=mL kvs [];rw[jr]at h1;rw[j4];omega
 have he:∃q,h'.get? s.heap.objs.size=some q:=let⟨q,_,_,hq,_⟩:=dd';⟨q,hq⟩;exact B7 I2 (by rw[e];exact True.intro) hs he (dk_new hz hd (rk.merge .nil) dd')
end L2
namespace Att
open PySem PySem.W PySem.Calls PyProof.Rows
theorem qG{P:Params}{h:Heap}:∀(ns:List Int)(vs:List Value),WellAll P h vs (ns.map WData.int)->bV vs ns:=by
 intro ns
 induction ns with
 |nil=>
  intro vs w;rw[jM]at w;cases w;exact .nil
 |cons n ns ih=>
  intro vs w;rw[bB]at w;cases w with
  |cons a b=>
   cases a;exact .cons _ _ (ih _ b)
theorem C4{l:OpenLaw}{n:Nat}(hn:l.most=some n){P:Params}{h:Heap}{args:List WData}{vals:List Value}
  (hpre:l.row.toRowW.claim.pre args=true)(hwl:WellAll P h vals args):
  ∃a vs ns,vals=[bp a]/\args=[WData.list (ns.map WData.int)]/\h.get? a=some {cls:=.type "list",data:=.seq vs.toArray}/\bV vs ns/\ns.length<=n:=by
 have hsh:WShape.hasAll [] args [.list .int]=true:=(pre_splitW hpre).1;have hc:l.pre.holds [] {args:=args}=true:=(pre_splitW hpre).2;obtain⟨d,r,rfl,h1,h2⟩:=hasAllW_cons hsh;obtain rfl:=hasAllW_nil h2;obtain⟨xs,rfl,h3⟩:=hasW_list h1;obtain⟨ns,rfl⟩:=items_int h3;have hlen:ns.length<=n:=by
  unfold OpenLaw.pre at hc;have h4:(WTm.not (.lt (.lit (.int (n:Int))) (.len (.arg 0)))).holds [] {args:=[.list (ns.map .int)]}=true:=by
   have h4:=(holds_andW hc).1;rw[hn]at h4;exact h4
  have h5:=condW_of h4 (w_not (w_lt w_lit (w_len_list (w_arg rfl))));rw[ao]at h5;refine gA fun q=>?_;have q':(n:Int)<((ns.length:Nat):Int):=by omega
  first
   | (rw[decide_eq_true q']at h5;exact absurd h5 (by decide))
   | (simp at h5;omega)
 cases hwl with
 |cons w1 w2=>
  cases w2;cases w1 with
  |list ho hall=>exact⟨_,_,ns,rfl,rfl,ho,qG ns _ hall,hlen⟩
theorem Dc(l:OpenLaw)(args:List WData):l.row.toRowW.claim.post args (.bool true) args=true:=
 postW_of (r:=l.row.toRowW) (X:=(true==true))
  (show WShape.has [] (.bool true) .bool=true by first |rfl|decide|simp[WShape.has,WShape.arms,WShape.armsAll])
  (show(WTm.eq .res (.lit (.bool true))).value [] {args:=args,res:=some (.bool true),after:=args}=some (.bool (true==true))from w_eq_bool (w_res rfl) w_lit) rfl
theorem zu{l:OpenLaw}{n:Nat}{q:Program}{loose:List Str}{XP:(Str->Option Value)->Heap->Prop}{YP:World->Heap->Prop}{d:DefRec}
  (hn:l.most=some n)(hdf:d.params.defaults=[])
  (call:∀(w:World)(s₀ s₁:Shared)(mg mb:Str->Option Value)(fa:Addr)(o:Obj)(pm cd doc:Value)(a:Addr)(vs:List Value)(ns:List Int),
   Ground q loose [] XP w s₀ mg mb s₁.heap->YP w s₁.heap->
   s₁.heap.get? fa=some o->o.data=.func (docDef d.name d.params d.body d.scope pm cd doc)->s₁.heap.CodeRec cd d.name->mg d.name=some (.ref fa)->
   s₁.heap.get? a=some {cls:=.type "list",data:=.seq vs.toArray}->bV vs ns->ns.length<=n->s₁.gens= #[]->
   fC (model l.prog w) Cn (.call (.ref fa) ⟨[.ref a],[]⟩) (fun r s'=>r=.ok (.ret (.bool true))/\OldK s₁.heap s'.heap/\s'.os=s₁.os/\mE s'.gens) s₁):
  WalkO q loose XP YP l.row.toRowW d [] (fun f vs=>PySem.call f vs):=by
 intro w s₀ s₁ mg mb G Y fa o pm cd doc dV kV ho hd hcd hD hmg hg args vals as hpre hlay hrd hwl hlo;obtain rfl:dV=.none:=Dflts.none hD hdf;obtain rfl:kV=.none:=Dflts.noKw hD;obtain⟨a,vs,ns,rfl,rfl,hobj,hints,hlen⟩:=C4 hn hpre hwl;refine enter_call (i3 (call w s₀ s₁ mg mb fa o pm cd doc a vs ns G Y ho (fd_plain hd) hcd hmg hobj hints hlen hg) fun r s' hq=>?_);obtain⟨rfl,h2,h3,h4⟩:=hq;exact⟨.inl ⟨.bool true,.bool true,[],rfl,fun _=>rfl,.bool true,Dc l _,fun _=>⟨i7,fun _ hm=>(nomatch hm)⟩⟩,h2,h3,h4⟩
end Att
namespace L2
open PySem PySem.Spec PyProof.Rows
theorem pk:∀{vs:List Value}{ns:List Int},bV vs ns->bM (ns.map V.int) vs
 |_,_,.nil=>.nil
 |_,_,.cons n t h=>.cons ⟨t,rfl⟩ (pk h)
noncomputable abbrev KOf{K:ae}{h:Heap}(_:K.In h):ae:=K
noncomputable def bF(s:Stmt):Arguments:=match s with
 |.FunctionDef _ a _ _ _ _ _ _ _ _=>a
 |_=>{posonlyargs:=[],args:=[],vararg:=none,kwonlyargs:=[],kw_defaults:=[],kwarg:=none,defaults:=[]}
noncomputable def bc(s:Stmt):List Stmt:=match s with
 |.FunctionDef _ _ b _ _ _ _ _ _ _=>b
 |_=>[]
noncomputable def aJ(s:Stmt):Scope:=match s with
 |.FunctionDef _ _ _ _ _ _ sc _ _ _=>sc
 |_=>{kind:=.function,names:=[],isGenerator:=false,isCoroutine:=false}
noncomputable abbrev CX0:CXT:=fun _ _ _ _ _ _=>False
noncomputable abbrev E0:XK:=fun _ _ _=>False
structure Fun(K:ae)(x qual:Str)(st:Stmt)(f:Addr)(fd:fh):Prop where
 ex:∃(oc:Value)(od:Option Addr)(kV doc pm:Value)(an:Option Addr)(cdv ct:Value)(osl:Array (Option Value)),
  fd=aH x qual (bF st) (bc st) (aJ st) .none kV doc pm an cdv ct/\K.lookup f=some ⟨oc,od,.func fd,osl⟩/\ek K cdv qual=true
 kp:cw K (.ref f)=true
section
variable {P:Program}{w:World}{K:ae}{mg:Str->Option Value}{base:Heap}
theorem Fun.binds{x qual:Str}{st:Stmt}{f:Addr}{fd:fh}{ps:List Str}(F:Fun K x qual st f fd)
  (h:∀(kV doc pm:Value)(an:Option Addr)(cdv ct:Value)(us:List Value),us.length=ps.length->nK (aH x qual (bF st) (bc st) (aJ st) .none kV doc pm an cdv ct) ⟨us,[]⟩=pure (ps.zip us)):Binds K fd ps []:=by
 obtain⟨oc,od,kV,doc,pm,an,cdv,ct,osl,rfl,lk,hcd⟩:=F.ex;exact .all (h kV doc pm an cdv ct)
theorem AZ{x qual:Str}{st:Stmt}{f:Addr}{oc:Value}{od an:Option Addr}{osl:Array (Option Value)}{kV doc pm cdv ct:Value}(l:K.lookup f=some ⟨oc,od,.func (aH x qual (bF st) (bc st) (aJ st) .none kV doc pm an cdv ct),osl⟩)
  (c:ek K cdv qual=true)(k:cw K (.ref f)=true):Fun K x qual st f (aH x qual (bF st) (bc st) (aJ st) .none kV doc pm an cdv ct):=⟨⟨oc,od,kV,doc,pm,an,cdv,ct,osl,rfl,l,c⟩,k⟩
end
noncomputable def aG(H H':Hp):Prop:=∀b o,H b=some o->H' b=some o
theorem aG.refl(H:Hp):aG H H:=fun _ _ h=>h
theorem aG.trans{H H1 H2:Hp}(a:aG H H1)(b:aG H1 H2):aG H H2:=fun c o h=>b c o (a c o h)
theorem aG.free{H H':Hp}(e:aG H H'){l:Addr}(h:H' l=Option.none):H l=Option.none:=by
 cases q:H l with
 |none=>rfl
 |some o=>
  rw[e l o q]at h;cases h
theorem aG.seq{K:ae}{H H':Hp}{a:Addr}{xs:List V}(e:aG H H')(h:SqL K H a xs):SqL K H' a xs:=by
 rcases h with(h|⟨o,h⟩) |h
 ·exact .inl (.inl (e _ _ h))
 ·exact .inl (.inr ⟨o,e _ _ h⟩)
 ·exact .inr h
section
variable {κ:Type}[DecidableEq κ]
theorem x3{kvs:List (κ×V)}{k:κ}(h:dX kvs k=none):¬k∈kvs.map (·.1):=by
 intro m;obtain⟨p,hp,e⟩:=aV.mp m;have q:(kvs.any fun kv=>decide (kv.1=k))=true:=cE.mpr ⟨p,hp,decide_eq_true e⟩;rw[i9,h]at q;exact absurd q (by simp)
theorem valV_in{kvs:List (κ×V)}{k:κ}{v:V}(h:dX kvs k=some v):k∈kvs.map (·.1):=by
 have q:(kvs.any fun kv=>decide (kv.1=k))=true:=by
  rw[i9,h];all_goals rfl
 obtain⟨p,hp,e⟩:=cE.mp q;exact aV.mpr ⟨p,hp,of_decide_eq_true e⟩
theorem BJ:∀{l:List κ}{k:κ},l.Nodup->¬k∈l->(l++[k]).Nodup
 | [],k,_,_=>by simp
 |a::r,k,h,hk=>by
  obtain⟨h1,h2⟩:=cS.mp h;show(a::(r++[k])).Nodup;refine cS.mpr ⟨fun m=>?_,BJ h2 fun m=>hk (aC.mpr (Or.inr m))⟩;rcases dW.mp m with q|q
  ·exact h1 q
  ·exact hk (aC.mpr (Or.inl (aO.mp q).symm))
theorem nd_putK{kvs:List (κ×V)}{k:κ}(v:V)(hn:(kvs.map (·.1)).Nodup)(h:dX kvs k=none):((putK kvs k v).map (·.1)).Nodup:=by
 rw[FD v h,de];exact BJ hn (x3 h)
end
noncomputable def ff(cells:List (Str×Addr)):List (Str×dO)->List (Str×Addr)->List (Str×Addr)
 | [],acc=>acc
 | (n,k)::r,acc=>ff cells r (if k=.free then(n,(cells.lookup n).getD 0)::acc else acc)
theorem ny{env:Env}{f:Str×dO->List (Str×Addr)->Sem (ForInStep (List (Str×Addr)))}
  (hf:∀n k a c,k=.free->env.cells.lookup n=some c->f (n,k) a=pure (.yield ((n,c)::a)))(hg:∀n k a,k≠.free->f (n,k) a=pure (.yield a)):
  ∀(names:List (Str×dO))(acc:List (Str×Addr)),(∀y∈names,y.2=.free->∃c,env.cells.lookup y.1=some c)->forIn names acc f=(pure (ff env.cells names acc):Sem _)
 | [],acc,_=>rfl
 | (n,k)::r,acc,h=>by
  rw[List.forIn_cons];by_cases e:k=.free
  ·obtain⟨c,hc⟩:=h (n,k) aS e
   rw[hf n k acc c e hc];show forIn r ((n,c)::acc) f=_;rw[ny hf hg r _ fun y hy=>h y (aN _ hy)];simp[ff,e,hc]
  ·rw[hg n k acc e]
   show forIn r acc f=_;rw[ny hf hg r _ fun y hy=>h y (aN _ hy)];simp[ff,e]
theorem ur{scope:Scope}{env:Env}(h:∀y∈scope.names,y.2=.free->∃c,env.cells.lookup y.1=some c):Ei scope env=pure (ff env.cells scope.names []):=by
 have q:=ny (env:=env) (f:=fun x cs=>match x with | (name,kind)=>if(kind==bT)=true then(do let a<-cellOf env name;pure (gv ((name,a)::cs)))else pure (gv cs))
  (fun n k a c e hc=>by
   subst e;simp only[cellOf,hc];rfl) (fun n k a e=>by
   have e':(k==bT)=false:=by simpa using e
   simp only[e',aI,if_false]) scope.names [] h
 unfold Ei;show(forIn scope.names [] _>>=fun r=>pure r)=_;exact(congrArg (·>>=fun r=>pure r) q).trans rfl
theorem jR{cells:List (Str×Addr)}:∀(names:List (Str×dO))(acc:List (Str×Addr))(x:Str)(c:Addr),(ff cells names acc).lookup x=some c->
  ((x,bT)∈names/\c=(cells.lookup x).getD 0)\/acc.lookup x=some c
 | [],acc,x,c,h=>.inr h
 | (n,k)::r,acc,x,c,h=>by
  rcases jR r _ x c h with⟨q,e⟩ |q
  ·exact .inl ⟨aN _ q,e⟩
  ·by_cases e:k=.free
   ·rw[if_pos e,aP]at q
    cases hx:x==n with
    |true=>
     rw[hx]at q;have en:x=n:=by simpa using hx
     subst en;subst e;exact .inl ⟨aS,(aY q).symm⟩
    |false=>
     rw[hx]at q;exact .inr q
   ·rw[if_neg e]at q
    exact .inr q
theorem sU{cells:List (Str×Addr)}:∀(names:List (Str×dO))(acc:List (Str×Addr))(x:Str),(acc.lookup x).isSome=true->((ff cells names acc).lookup x).isSome=true
 | [],acc,x,h=>h
 | (n,k)::r,acc,x,h=>by
  refine sU r _ x ?_;split
  ·rw[aP]
   cases x==n<;>simp_all
  ·exact h
theorem nz{cells:List (Str×Addr)}:∀(names:List (Str×dO))(acc:List (Str×Addr))(x:Str),(x,bT)∈names->((ff cells names acc).lookup x).isSome=true
 | [],acc,x,h=>by simp at h
 | (n,k)::r,acc,x,h=>by
  rcases aC.mp h with q|q
  ·cases q
   refine sU r _ n ?_;simp[aP]
  ·exact nz r _ x q
theorem fv:∀(names:List (Str×dO))(n:Nat)(acc:List (Str×Addr)),cq n names acc=cq n names []++acc
 | [],_,_=>rfl
 | (x,k)::r,n,acc=>by
  unfold cq;split
  ·rw[fv r (n+1) ((x,n)::acc),fv r (n+1) [(x,n)],qY]
   rfl
  ·exact fv r n acc
theorem jT:∀(names:List (Str×dO))(n:Nat)(acc:List (Str×Addr))(x:Str),(acc.lookup x).isSome=true->((cq n names acc).lookup x).isSome=true
 | [],_,_,_,h=>h
 | (y,k)::r,n,acc,x,h=>by
  unfold cq;split
  ·refine jT r _ _ x ?_
   rw[aP];cases x==y<;>simp_all
  ·exact jT r _ _ x h
theorem il:∀(names:List (Str×dO))(n:Nat)(acc:List (Str×Addr))(x:Str),(x,cM)∈names->((cq n names acc).lookup x).isSome=true
 | [],_,_,_,h=>nomatch h
 | (y,k)::r,n,acc,x,h=>by
  unfold cq;rcases aC.mp h with q|q
  ·cases q
   rw[if_pos (by rfl)];refine jT r _ _ _ ?_;simp[aP]
  ·split
   ·exact il r _ _ x q
   ·exact il r _ _ x q
theorem jS:∀(names:List (Str×dO))(n:Nat)(acc:List (Str×Addr))(x:Str)(c:Addr),(x,c)∈cq n names acc->(x,cM)∈names\/(x,c)∈acc
 | [],_,_,_,_,h=>.inr h
 | (y,k)::r,n,acc,x,c,h=>by
  unfold cq at h;split at h
  ·rename_i hk
   rcases jS r _ _ x c h with q|q
   ·exact .inl (aN _ q)
   ·rcases aC.mp q with e|e
    ·cases e
     have :k=.cell:=by simpa using hk
     subst this;exact .inl aS
    ·exact .inr e
  ·rcases jS r _ _ x c h with q|q
   ·exact .inl (aN _ q)
   ·exact .inr q
theorem A2{M:Model}{A:Around}{E:Value->Shared->Prop}{s:Shared}{scope:Scope}{globals:Addr}{cl:List (Str×Addr)}{qual:Str}{func:Option Addr}{code:Value}{outer:Env}{builtins:Addr}{Q:Env->Shared->Prop}
  (h:Q (newEnv scope s.heap.objs.size globals (cq (s.heap.objs.size+1) scope.names cl) qual func code (some outer) builtins) {s with heap:=pushCells (s.heap.push {cls:=.type "dict",data:=.dict #[]}) scope.names}):
  wpAny M A (newFunctionEnv scope globals cl [] qual func code (some outer) builtins) Q E s:=by
 simp only[newFunctionEnv,fw,if_true];refine aa (wpAny_alloc ?_);refine aa (wpAny_layCells _ (fun name kind cells=>by cases hkc:kind==cM<;>simp[hkc]) _ _ _ _ ?_);rw[show({s with heap:=s.heap.push {cls:=.type "dict",data:=.dict #[]}}:Shared).heap.objs.size=s.heap.objs.size+1 from bS ..];rw[xX];exact aa (ai (ai h))
structure mw(X:Cx)(N':List Str)(sc:Scope):Prop where
 kind:sc.kind=.function
 cellk:∀y∈sc.names,y.2=.cell->sc.names.lookup y.1=some .cell
 own:∀y∈sc.names,y.2=.local ->sc.names.lookup y.1=some .local
 free:∀y∈sc.names,y.2=.free->X.env.kindOf y.1=some .cell\/X.env.kindOf y.1=some .free
noncomputable def dG(X:Cx)(N':List Str)(sc:Scope)(C:Addr)(s₀:Shared)(H₀:Hp)(fp:List Addr):Cx:=
 {X with N:=N',s₀:=s₀,H₀:=H₀,env:=compEnvC sc (cq (C+1) sc.names (ff X.env.cells sc.names [])) C X.env,outer:=X.stack,stack:=X.stack,ex:=fp,fn:=fun x=>sc.names.any fun y=>decide (y.1=x)&&decide (y.2=.cell),pn:=[],xe:=fun _ _=>False}
theorem lF{env:Env}:∀{names:List (Str×dO)}{x:Str}{k:dO},
  (names.map fun(n,k)=>if(k==bT&&env.scope.kind== .function&&env.kindOf n==some .cell)then(n,cM)else(n,k)).lookup x=some k->
  names.lookup x=some k\/(names.lookup x=some .free/\k=.cell)
 | [],_,_,h=>by simp at h
 | (n,k)::r,x,k',h=>by
  have ih:= @lF env r x k';rw[bB]at h;change cP x ((if(k==bT&&env.scope.kind== .function&&env.kindOf n==some .cell)=true then(n,cM)else(n,k))::_)=_ at h;cases hx:x==n with
  |true=>
   by_cases hc:(k==bT&&env.scope.kind== .function&&env.kindOf n==some .cell)=true
   ·rw[if_pos hc]at h
    simp only[aP,hx]at h⊢;have :k=.free:=by
     have :=hc
     simp only[ah]at this;simpa using this.1.1
    subst this;exact .inr ⟨rfl,(aY h).symm⟩
   ·rw[if_neg hc]at h
    simp only[aP,hx]at h⊢;exact .inl h
  |false=>
   have e:cP x (r.map fun(n,k)=>if(k==bT&&env.scope.kind== .function&&env.kindOf n==some .cell)then(n,cM)else(n,k))=some k':=by
    split at h<;>simpa only[aP,hx]using h
   simp only[aP,hx];exact ih e
theorem fY{env:Env}:∀{names:List (Str×dO)}{x:Str},names.lookup x=some .free->
  (names.map fun(n,k)=>if(k==bT&&env.scope.kind== .function&&env.kindOf n==some .cell)then(n,cM)else(n,k)).lookup x=some .free\/
  (names.map fun(n,k)=>if(k==bT&&env.scope.kind== .function&&env.kindOf n==some .cell)then(n,cM)else(n,k)).lookup x=some .cell
 | [],_,h=>by simp at h
 | (n,k)::r,x,h=>by
  have ih:= @fY env r x;rw[bB];change cP x ((if(k==bT&&env.scope.kind== .function&&env.kindOf n==some .cell)=true then(n,cM)else(n,k))::_)=_\/cP x ((if(k==bT&&env.scope.kind== .function&&env.kindOf n==some .cell)=true then(n,cM)else(n,k))::_)=_;cases hx:x==n with
  |true=>
   simp only[aP,hx]at h;cases h;by_cases hc:(bT==bT&&env.scope.kind== .function&&env.kindOf n==some .cell)=true
   ·rw[if_pos hc];right;simp only[aP,hx]
   ·rw[if_neg hc];left;simp only[aP,hx]
  |false=>
   simp only[aP,hx]at h;split <;>simpa only[aP,hx]using ih h
theorem fQ{env:Env}:∀{names:List (Str×dO)}{x:Str}{k:Option dO},names.lookup x=k->k≠some .free->
  (names.map fun(n,k)=>if(k==bT&&env.scope.kind== .function&&env.kindOf n==some .cell)then(n,cM)else(n,k)).lookup x=k
 | [],_,_,h,_=>by simpa using h
 | (n,k)::r,x,k',h,hf=>by
  have ih:= @fQ env r x k';rw[bB];change cP x ((if(k==bT&&env.scope.kind== .function&&env.kindOf n==some .cell)=true then(n,cM)else(n,k))::_)=_;cases hx:x==n with
  |true=>
   simp only[aP,hx]at h;have hk:k≠.free:=fun e=>hf (by rw[<-h,e]);have hb:(k==bT)=false:=by simpa using hk
   rw[if_neg (by rw[hb];simp)];simp only[aP,hx];exact h
  |false=>
   simp only[aP,hx]at h;split <;>simpa only[aP,hx]using ih h hf
theorem u5{sc:Scope}{cl:List (Str×Addr)}{C:Addr}{env:Env}{x:Str}{k:dO}(h:(compEnvC sc cl C env).kindOf x=some k):sc.names.lookup x=some k\/(sc.names.lookup x=some .free/\k=.cell):=lF (env:=env) h
theorem A5{prog:Program}{w:World}{A:Around}{R:Result->Shared->Prop}{s:Shared}{elt target iter:Expr}{ifs:List Expr}{scope:Scope}{pos:Pos}{it acc:Value}{env:Env}(I:Nat->Shared->Prop)
  (turn:∀n s,I n s->wpAny (model prog w) A (pyNext it) (fun r s₁=>match r with
   |none=>R (.ok .next) s₁
   |some v=>wpAny (model prog w) A (o7 target it v) (fun _ s₁'=>wpAny (model prog w) A (assign target env v) (fun _ s₂=>
     wpAny (model prog w) A (forIn ifs true fun c r=>if r=true then do let ok<-isTrue c env (eval c env);pure (gv ok)else pure (gv r)) (fun ok s₃=>
      if ok=true then wpAny (model prog w) A (eval elt env) (fun x s₄=>
       wpAny (model prog w) A (call (.builtin "list.append") [acc,x]) (fun _ s₅=>∃m,m<n/\I m s₅) (fun _ _=>False) s₄) (fun _ _=>False) s₃
      else ∃m,m<n/\I m s₃) (fun _ _=>False) s₂) (fun _ _=>False) s₁') (fun _ _=>False) s₁) (fun _ _=>False) s)
  (n:Nat) (h:I n s):
  fC (model prog w) A (.compLoop (.ListComp elt [⟨target,iter,ifs,0⟩] scope pos) 0 it acc env) R s:=by
 refine codeAny_loop rfl I (fun n s hI=>?_) n h;show wpAny _ A ((compTurn (.ListComp elt [⟨target,iter,ifs,0⟩] scope pos) 0 it acc env).onRaise (fun x=>do lj x env;theTreesLotGoes x)) _ _ s;refine wpAny_noted ?_;rw[compTurn_list];refine aa (gd (aa (cL (turn n s hI) (fun r s₁ h₁=>?_) fun _ _ h'=>h'.elim)));cases r with
 |none=>exact ai h₁
 |some v=>
  refine aa (cL h₁ (fun _ s₁' h₁'=>?_) fun _ _ h'=>h'.elim);refine aa (cL h₁' (fun _ s₂ h₂=>aa (cL h₂ (fun ok s₃ h₃=>?_) fun _ _ h'=>h'.elim)) fun _ _ h'=>h'.elim);cases ok with
  |false=>exact ai ⟨rfl,h₃⟩
  |true=>
   exact aa (aa (cL h₃ (fun x s₄ h₄=>aa (cL h₄ (fun _ s₅ h₅=>ai (ai ⟨rfl,h₅⟩)) fun _ _ h'=>h'.elim)) fun _ _ h'=>h'.elim))
noncomputable def PTs(X:Cx)(ifs:List Expr)(t:TT):Prop:=
 ∀(pins:List (Addr×Obj))(s:Shared)(σ:St)(H:Hp)(Q:Bool->Hp->Prop),Inv X pins σ H s->t σ H Q->
  wpAny (model X.prog X.w) X.A (forIn ifs true fun c r=>if r=true then do let ok<-isTrue c X.env (eval c X.env);pure (gv ok)else pure (gv r)) (TP X pins σ Q) X.xe s
noncomputable def tYes:TT:=fun _ H Q=>Q true H
theorem pts_nil{X:Cx}:PTs X [] tYes:=by
 intro pins s σ H Q I h;rw[xX];exact ai ⟨H,I,h⟩
theorem pts_one{X:Cx}{c:Expr}{t:TT}(h:PT X c t):PTs X [c] t:=by
 intro pins s σ H Q I hw;rw[List.forIn_cons];simp only[if_true];refine aa (aa (thn (h pins s σ H Q I hw) fun b s1 q=>?_));refine ai ?_;show wpAny _ _ (forIn ([]:List Expr) b _) _ _ s1;rw[xX];exact ai q
noncomputable def uF(wi:TI)(g:TG)(tc:TT)(te:TE)(mk:St->St):TE:=fun σ H Q=>wi σ H fun J H1=>∃W:Nat->Nat->St->List V->Hp->Prop,(∃m,W 0 m (mk σ) [] H1)/\
 ∀i m τ acc H2,W i m τ acc H2->(J.stop i H2/\∀l,H2 l=none->Q (.ref l) (upd H2 l (.lst acc)))\/(J.go i H2/\∃N:St->List V->Hp->Prop,(∀τ' acc' H',N τ' acc' H'->∃m',m'<m/\W (i+1) m' τ' acc' H')/\
  ∀x H3,J.yld i H2 x H3->g x τ H3 fun τ4 H4=>tc τ4 H4 fun b H5=>if b=true then te τ4 H5 fun v H6=>acc.length<sizeLine/\N τ4 (acc++[v]) H6 else N τ4 acc H5)
theorem Inv.track{X:Cx}{pins:List (Addr×Obj)}{σ:St}{H:Hp}{s:Shared}{a:Addr}{o:HO}(I:Inv X pins σ H s)(hf:oZ X pins H a)(new:dh X.prog X.w (upd H a o) s.heap a o):Inv X pins σ (upd H a o) s:=by
 obtain⟨h0,h1,h2,h3,h4,h5⟩:=hf;have :=I.step (g':=s.gens) (d':=s.drawn) (t':=s.toks) (h':=s.heap) (H':=upd H a o) (ch:=[a]) (fun b hb=>by
   have e:b=a:=by simpa using hb
   subst e;exact⟨h3,h1,h4,h5⟩)
  (fun b ob _ _ _ q _=>q) (fun b ob _ _ _ q _=>⟨ob.slots,q⟩) (fun b ob hb q n=>by rw[aL (fun z=>hb (by simp[z]))];exact n) (fun b ob _ q=>⟨ob,q⟩)
  (fun b xs q=>by rw[aL (bx q h0)];exact q) (fun b ob u q=>by rw[aL (bx q h0)];exact q) (fun b ps q=>⟨#[],by rw[aL (bx q h0),q];simp⟩)
  (fun m hm=>hm) (fun b u q=>by
   by_cases hb:b=a
   ·subst hb;rw[ax]at q;cases q;exact new
   ·rw[aL hb]at q
    exact(I.hok b u q).pv (fun c v _ e=>e) (fun c e=>by rw[aL (bx e h0)];exact e) fun c xs e=>by rw[aL (bx e h0)];exact e) I.bare
 exact this
theorem Bd{X:Cx}{pins:List (Addr×Obj)}{σ:St}{H:Hp}{s:Shared}{a:Addr}{its:List Value}{n:Nat}{u:Value}{Q:Value->Shared->Prop}{E:Value->Shared->Prop}(I:Inv X pins σ H s)(hf:oZ X pins H a)
  (e:s.heap.get? a=some {cls:=.type "list",data:=.seq its.toArray n}) (hz:its.length<sizeLine)
  (h:∀h' n',Inv X pins σ H {s with heap:=h'}->h'.get? a=some {cls:=.type "list",data:=.seq (its++[u]).toArray n'}->(∀b o,b≠a->s.heap.get? b=some o->h'.get? b=some o)->Q .none {s with heap:=h'}):
  wpAny (model X.prog X.w) X.A (call (.builtin "list.append") [.ref a,u]) Q E s:=by
 refine Ej F.slot_list_append ⟨_,e,rfl⟩ F.entry_list_append (F.args_list_append_2 _ _) (PySem.list_append a its.toArray n u (by rw[ay];omega)) ⟨e,?_⟩;have q:=Ek e (·.push u);have eq:its.toArray.push u=(its++[u]).toArray:=by simp
 rw[eq]at q;have k:∀b o,b≠a->s.heap.get? b=some o->(s.heap.update a (aT (·.push u))).get? b=some o:=fun b o hb z=>(aB s.heap _ (bz hb)).trans z;obtain⟨h0,h1,h2,h3,h4,h5⟩:=hf;exact h _ _ (I.turned (t':=s.toks) k h0 h1 h3 h4 h5) q k
section
variable {X:Cx}{N':List Str}{sc:Scope}{elt tg iter:Expr}{ifs:List Expr}{pos:Pos}{wi:TI}{g:TG}{tc:TT}{te:TE}{mk:St->St}
noncomputable def MkOk(X:Cx)(N':List Str)(sc:Scope)(mk:St->St):Prop:=
 ∀σ:St,σ.length=X.N.length->(mk σ).length=N'.length/\∀(i:Nat)(x:Str)(v:V),N'[i]? =some x->(mk σ)[i]? =some (some v)->sc.names.lookup x=some .free/\∃j:Nat,X.N[j]? =some x/\σ[j]? =some (some v)
theorem vg{pins:List (Addr×Obj)}{σ:St}{H:Hp}{s:Shared}{Q:VK}{use:Option (Value->Sem Unit)}{QQ:Value->Shared->Prop}(S:mw X N' sc)(hm:MkOk X N' sc mk)(hc:X.calm=true)
  (hi:PI X tg iter wi)
  (hb:∀C s₀ H₀ fp,(dG X N' sc C s₀ H₀ fp).Ok->PG (dG X N' sc C s₀ H₀ fp) tg g/\PTs (dG X N' sc C s₀ H₀ fp) ifs tc/\PE (dG X N' sc C s₀ H₀ fp) elt te)
  (hs:∀x,iZ iter X.env x=pure x)(I:Inv X pins σ H s)(h:uF wi g tc te mk σ H Q)
  (fin:∀(l C:Addr)(H':Hp)(s':Shared)(m:Str->Option Value),Inv X pins σ H' s'->s'.heap.Ns C m->oZ X pins H' C->(∃o,s'.heap.get? C=some o/\∀v,o.data≠.cell v)->Q (.ref l) H'->compPost (model X.prog X.w) X.A X.xe use QQ (.ref l) C (.ok .next) s'):
  wpAny (model X.prog X.w) X.A (comprehension (.ListComp elt [⟨tg,iter,ifs,0⟩] sc pos) sc X.env (firstIterPos [⟨tg,iter,ifs,0⟩] pos) (newList []) false (eval iter X.env) use) QQ X.xe s:=by
 have hcells:∀y∈sc.names,y.2=.free->∃c,X.env.cells.lookup y.1=some c:=fun y hy hf=>I.ok.has _ (S.free y hy hf);refine wpAny_comprehension_free (use:=use) rfl hs (ur hcells) S.kind S.own ?_;refine thn (hi pins s σ H _ I h) fun v s1 h1=>thn h1 fun itv s2 h2=>?_;obtain⟨it,fp,tn,J,H2,e,I2,T,st2,f2,W,⟨m0,w0⟩,turn⟩:=h2;subst e
 --the list
 refine bU ?_;have hl0:H2 s2.heap.objs.size=none:=I2.fresh;have fD:oZ X pins H2 s2.heap.objs.size:=I2.wZ (aw _) hl0;have eD3:(s2.heap.push {cls:=.type "list",dict:=none,data:=.seq ([]:List Value).toArray}).get? s2.heap.objs.size=some {cls:=.type "list",data:=.seq ([]:List Value).toArray 0}:=au _ rfl;have I3:Inv X pins σ H2 {s2 with heap:=s2.heap.push {cls:=.type "list",dict:=none,data:=.seq ([]:List Value).toArray}}:=I2.kept (t':=s2.toks) fun b o e=>af _ e
 --the block's frame
 refine A2 ?_;dsimp only;have szL:(s2.heap.push {cls:=.type "list",dict:=none,data:=.seq ([]:List Value).toArray}).objs.size=s2.heap.objs.size+1:=bS ..;have hDC:s2.heap.objs.size≠(s2.heap.push {cls:=.type "list",dict:=none,data:=.seq ([]:List Value).toArray}).objs.size:=by rw[szL];exact aD (bZ _)
 have k23:∀b o,s2.heap.get? b=some o->(s2.heap.push {cls:=.type "list",dict:=none,data:=.seq ([]:List Value).toArray}).get? b=some o:=fun b o e=>af _ e;generalize hH3:s2.heap.push {cls:=.type "list",dict:=none,data:=.seq ([]:List Value).toArray}=P3 at I3 szL eD3 hDC k23⊢;generalize hD:s2.heap.objs.size=D0 at *;have hns4:(pushCells (P3.push {cls:=.type "dict",data:=.dict #[]}) sc.names).Ns P3.objs.size (fun _=>none):=(Heap.Ns.new P3 (.type "dict")).keeps (pushCells_keeps _ _);have keep4:∀b o,P3.get? b=some o->(pushCells (P3.push {cls:=.type "dict",data:=.dict #[]}) sc.names).get? b=some o:=fun b o e=>pushCells_keeps _ _ b o (af _ e);have own4:=cellsFrom_ok sc.names (P3.push {cls:=.type "dict",data:=.dict #[]}) (P3.objs.size+1) [] ⟨fun _ _ hm=>(nomatch hm),i7⟩ (by rw[bS];exact aw _);rw[bS]at own4;generalize pushCells (P3.push {cls:=.type "dict",data:=.dict #[]}) sc.names=h4 at hns4 keep4 own4⊢
 --the context
 have fpl:∀b∈fp,b<D0:=fun b hb=>by
  obtain⟨o,e,_⟩:=T.obj _ _ st2 b hb;rw[<-hD];exact av e
 have hCb:D0<P3.objs.size:=by rw[szL];exact bZ _
 have clo:∀x c,(ff X.env.cells sc.names []).lookup x=some c->X.env.cells.lookup x=some c/\(x,bT)∈sc.names:=fun x c e=>by
  rcases jR _ _ x c e with⟨q,e'⟩ |q
  ·obtain⟨c',hc'⟩:=hcells _ q rfl
   have hc'':X.env.cells.lookup x=some c':=hc';rw[hc'']at e'⊢;exact⟨by rw[e'];rfl,q⟩
  ·simp at q
 have clt:∀x c,(ff X.env.cells sc.names []).lookup x=some c->c<P3.objs.size:=fun x c e=>by
  obtain⟨v,o,ho,_⟩:=I3.cell x c (clo x c e).1;exact av ho
 have cel:∀x c,(cq (P3.objs.size+1) sc.names (ff X.env.cells sc.names [])).lookup x=some c->((x,c)∈cq (P3.objs.size+1) sc.names []/\P3.objs.size+1<=c/\h4.IsCell c none)\/(ff X.env.cells sc.names []).lookup x=some c:=fun x c e=>by
  rw[fv,qx]at e;cases ho:(cq (P3.objs.size+1) sc.names []).lookup x with
  |none=>
   rw[ho]at e;exact .inr e
  |some c'=>
   rw[ho]at e;cases e;have m:=bf ho;exact .inl ⟨m,(own4.empty x c m).2,(own4.empty x c m).1⟩
 have celf:∀x,sc.names.lookup x=some .free->(cq (P3.objs.size+1) sc.names (ff X.env.cells sc.names [])).lookup x=(ff X.env.cells sc.names []).lookup x:=fun x hf=>by
  rw[fv,qx];cases ho:(cq (P3.objs.size+1) sc.names []).lookup x with
  |none=>rfl
  |some c'=>
   rcases jS _ _ _ _ _ (bf ho)with q|q
   ·have :=S.cellk _ q rfl
    rw[hf]at this;cases this
   ·cases q
 have f3:∀b∈D0::fp,oZ X pins H2 b/\b<P3.objs.size:=fun b hb=>by
  rcases aC.mp hb with z|z
  ·rw[z];exact⟨fD,hCb⟩
  ·exact⟨f2 b z,fJ (fpl b z) hCb⟩
 have ok:(dG X N' sc P3.objs.size {s2 with heap:=P3} H2 (D0::fp)).Ok:=by
  refine⟨I.ok.mod,S.kind,I.ok.glob,I.ok.blt,aw _,fun x y c h1 h2=>?_,fun x hx=>?_,fun x c z=>?_,fun z=>I.ok.hd z,I.ok.frames,.inl rfl,fun b hb=>⟨?_,fun x c e=>?_⟩,I3.bs,aX I.ok.bsz I3.sz,fun b o e hb=>?_,fun b hb z=>?_,I3.stack,I3.vS⟩
  ·rcases cel x c h1 with⟨m1,l1,_⟩ |q1<;>rcases cel y c h2 with⟨m2,l2,_⟩ |q2
   ·exact PySem.name_of_addr own4.apart m1 m2
   ·exact absurd l1 (Nat.not_le.mpr (bo (clt y c q2)))
   ·exact absurd l2 (Nat.not_le.mpr (bo (clt x c q1)))
   ·exact I.ok.inj x y c (clo x c q1).1 (clo y c q2).1
  ·have q:sc.names.lookup x=some .free\/sc.names.lookup x=some .cell:=by
    rcases hx with hx|hx
    ·rcases u5 hx with q|q
     ·exact .inr q
     ·exact .inl q.1
    ·rcases u5 hx with q|q
     ·exact .inl q
     ·exact .inl q.1
   rcases q with q|q
   ·have h1:=cg.mp (nz (cells:=X.env.cells) _ [] _ (bf q))
    show ∃c,(cq (P3.objs.size+1) sc.names (ff X.env.cells sc.names [])).lookup x=some c;rw[celf x q];exact h1
   ·exact cg.mp (il _ _ _ _ (bf q))
  ·have z:(sc.names.any fun y=>decide (y.1=x)&&decide (y.2=cM))=true:=z
   obtain⟨y,hy,e⟩:=cE.mp z;rw[ah,decide_eq_true_eq,decide_eq_true_eq]at e;intro hc;rcases cel x c hc with⟨_,l1,_⟩ |q1
   ·show P3.objs.size<=c
    omega
   ·have hk:=S.cellk y hy e.2
    rw[e.1]at hk;rcases jR _ _ x c q1 with⟨q,_⟩ |q
    ·have h2:(cq (P3.objs.size+1) sc.names []).lookup x≠none:=fun h=>by
      have :=il sc.names (P3.objs.size+1) [] x (bf hk)
      rw[h]at this;cases this
     have hc':(cq (P3.objs.size+1) sc.names (ff X.env.cells sc.names [])).lookup x=some c:=hc;rw[fv,qx]at hc';cases ho:(cq (P3.objs.size+1) sc.names []).lookup x with
     |none=>exact absurd ho h2
     |some c'=>
      rw[ho]at hc';cases hc';have :=(own4.empty x c (bf ho)).2;show P3.objs.size<=c;omega
    ·cases q
  ·exact aD (f3 b hb).2
  ·rcases cel x c e with⟨_,l1,_⟩ |q1
   ·have :=(f3 b hb).2
    exact fun z=>by subst z;omega
   ·exact(f3 b hb).1.2.2.2.2.1 x c (clo x c q1).1
  ·rcases(f3 b hb).1.2.2.2.1 with z|z
   ·exact I.ok.noex b o e z
   ·exact absurd (aW (av e) (aX I.ok.bsz z)) (eD _)
  ·rcases aC.mp (I2.z7 b z)with q|q
   ·exact(f3 b hb).1.2.1 q
   ·exact(f3 b hb).1.2.2.1 q
 obtain⟨pg,pt,pe⟩:=hb _ _ _ _ ok;have I4:Inv (dG X N' sc P3.objs.size {s2 with heap:=P3} H2 (D0::fp)) [] (mk σ) H2 {s2 with heap:=h4}:=by
  obtain⟨ml,hmk⟩:=hm σ I.len;have locC:∀x c v,X.env.cells.lookup x=some c->P3.IsCell c v->h4.IsCell c v:=fun x c v e ⟨o,ho,hd⟩=>⟨o,keep4 c o ho,hd⟩;refine⟨ok,rfl,I2.bare,Un.kept keep4,⟨_,hns4,fun i x v e1 e2 e3=>?_⟩,fun x c e=>?_,I3.hok.fresh (aw _),fun x c e=>?_,fun p hp=>absurd (show p∈([]:List (Addr×Obj))from hp) (by simp),I3.hok.kept keep4,ml⟩
  ·obtain⟨hf,j,hj,hv⟩:=hmk i x v e1 e2
   obtain⟨m,hn,hl⟩:=I3.loc;have kx:=S.free (x,.free) (bf hf) rfl;obtain⟨u,r,l⟩:=hl j x v hj hv (by
    rcases kx with q|q
    ·exact .inr (.inl q)
    ·exact .inr (.inr q))
   refine⟨u,r,.inr ⟨?_,?_⟩⟩
   ·rcases fY (env:=X.env) hf with q|q
    ·exact .inr q
    ·exact .inl q
   ·rcases l with⟨q,_⟩ |⟨_,c,hc1,hc2⟩
    ·have kx':X.env.kindOf x=some .cell\/X.env.kindOf x=some .free:=kx
     rw[q]at kx';rcases kx' with z|z<;>cases z
    ·obtain⟨c',q⟩:=cg.mp (nz (cells:=X.env.cells) _ [] _ (bf hf))
     have :=(clo x c' q).1
     rw[hc1]at this;cases this;exact⟨c,by show(cq (P3.objs.size+1) sc.names (ff X.env.cells sc.names [])).lookup x=some c;rw[celf x hf];exact q,locC x c _ hc1 hc2⟩
  ·rcases cel x c e with⟨_,_,hv⟩ |q1
   ·exact⟨none,hv⟩
   ·obtain⟨v,hv⟩:=I3.cell x c (clo x c q1).1
    exact⟨v,locC x c v (clo x c q1).1 hv⟩
  ·rcases cel x c e with⟨_,l1,_⟩ |q1
   ·exact I3.hok.fresh (by show P3.objs.size<=c;omega)
   ·exact I3.freeC x c (clo x c q1).1
 have st4:tn 0 h4:=T.keep _ _ _ st2 fun b hb o e=>keep4 b o (k23 b o e);have f4:∀{H':Hp}{b:Addr},b∈D0::fp->H' b=none->oZ (dG X N' sc P3.objs.size {s2 with heap:=P3} H2 (D0::fp)) [] H' b:=fun{H' b} hb hn=>
  ⟨hn,(ok.exf b hb).1,ok.exfs b hb,.inl hb,(ok.exf b hb).2,fun p hp=>absurd (show p∈([]:List (Addr×Obj))from hp) (by simp)⟩
 have ofp:∀{b:Addr},b∈fp->b∈D0::fp:=fun hb=>aN _ hb;have nD:∀b∈fp,b≠D0:=fun b hb=>aD (fpl b hb)
 --the loop
 have loop:fC (model X.prog X.w) X.A (.compLoop (.ListComp elt [⟨tg,iter,ifs,0⟩] sc pos) 0 (.ref it) (.ref D0) (compEnvC sc (cq (P3.objs.size+1) sc.names (ff X.env.cells sc.names [])) P3.objs.size X.env))
   (compPost (model X.prog X.w) X.A X.xe use QQ (.ref D0) P3.objs.size) {s2 with heap:=h4}:=by
  refine A5 (fun n s'=>∃i τ acc H' its k,Inv (dG X N' sc P3.objs.size {s2 with heap:=P3} H2 (D0::fp)) [] τ H' s'/\tn i s'.heap/\(∀b∈D0::fp,H' b=none)/\bM acc its/\acc.length<=sizeLine/\
    s'.heap.get? D0=some {cls:=.type "list",data:=.seq its.toArray k}/\W i n τ acc H') ?_ m0
   ⟨0,mk σ,[],_,[],0,I4,st4,fun b hb=>(f3 b hb).1.1,.nil,bA _,keep4 _ _ eD3,w0⟩
  rintro n s5 ⟨i,τ,acc,H5,its,kk,I5,st5,fr5,va5,hz5,e5,w5⟩;have I5p:Inv (dG X N' sc P3.objs.size {s2 with heap:=P3} H2 (D0::fp)) ([]++iF [D0] s5.heap) τ H5 s5:=by
   refine I5.pinned (fun b hb=>?_) (fun b hb=>?_)
   ·have z:b=D0:=by simpa using hb
    rw[z];exact f4 aS (fr5 D0 aS)
   ·have z:b=D0:=by simpa using hb
    rw[z];exact⟨_,e5,fun v z=>by cases z⟩
  obtain q|⟨go,NN,hN,step⟩:=turn i n τ acc H5 w5
  ·obtain⟨stop,q⟩:=q
   refine thn (T.done (dG X N' sc P3.objs.size {s2 with heap:=P3} H2 (D0::fp)) rfl rfl rfl hc i _ s5 τ H5 (fun _ _=>False) I5p (fun b hb=>?_) st5 stop) fun r s6 ⟨hr,I6p⟩=>?_
   ·obtain⟨g0,g1,g2,g3,g4,_⟩:=f4 (ofp hb) (fr5 b (ofp hb))
    refine⟨g0,g1,g2,g3,g4,fun p hp=>?_⟩;have hp':p∈iF [D0] s5.heap:=by simpa[dG]using hp
    obtain⟨z,_⟩:=pD hp';have z':p.1=D0:=by simpa using z
    rw[z'];exact(nD b hb).symm
   subst hr;have I6:=I6p.gM;have e6:s6.heap.get? D0=some {cls:=.type "list",data:=.seq its.toArray kk}:=(I6p.pin (D0,_) (aZ _ (aZ _ (gZ (by simp) e5)))).1
   --back in the context around
   have un:Un (frs X.stack) fp H2 H5 s2.heap s6.heap:=by
    have u:=I6.base;have nb:∀b o,s2.heap.get? b=some o->b∉fp->b∉D0::fp:=fun b o e hb z=>by
     rcases aC.mp z with z|z
     ·exact absurd (av e) (by rw[z,hD];exact eD _)
     ·exact hb z
    exact⟨fun b o e n hb hx=>u.keep b o (k23 b o e) n hb (nb b o e hx),fun b o e n hb hx=>u.slot b o (k23 b o e) n hb (nb b o e hx),fun b o e n hx=>u.free b o (k23 b o e) n (nb b o e hx),fun b o e hx=>u.there b o (k23 b o e) (nb b o e hx),u.tups,u.frzs,u.tbls⟩
   have I7:Inv X pins σ H5 s6:=by
    obtain⟨hh,g6,d6,t6,os6⟩:=s6;have eo:os6=s2.os:=I6.os;subst eo;exact I2.call (h':=hh) (g':=g6) (d':=d6) (t':=t6) (ch:=fp) un I6.hok I6.bare fun b hb=>⟨(f2 b hb).2.2.2.1,(f2 b hb).2.1,(f2 b hb).2.2.2.2.1,(f2 b hb).2.2.2.2.2⟩
   have fD5:oZ X pins H5 D0:=⟨fr5 D0 aS,fD.2⟩;have I8:=I7.track (o:=.lst acc) fD5 (show dh X.prog X.w _ s6.heap D0 (.lst acc)from⟨hz5,its,kk,va5,e6⟩);obtain⟨m,hn,_⟩:=id I6.loc;refine fin _ P3.objs.size _ s6 m I8 hn (I2.wZ (by rw[hD];exact j6 hCb) (by rw[aL (bz hDC)];exact I6.free)) ?_ (q D0 (fr5 D0 aS));obtain⟨o,es,ep,ho,hd,_⟩:=hn;exact⟨o,ho,fun v z=>by rw[hd]at z;cases z⟩
  ·skip
   have fpi:∀{H':Hp}{b:Addr},b∈fp->H' b=none->oZ (dG X N' sc P3.objs.size {s2 with heap:=P3} H2 (D0::fp)) ([]++iF [D0] s5.heap) H' b:=fun{H' b} hb hn=>by
    obtain⟨g0,g1,g2,g3,g4,_⟩:=f4 (H':=H') (ofp hb) hn;refine⟨g0,g1,g2,g3,g4,fun p hp=>?_⟩;have hp':p∈iF [D0] s5.heap:=by simpa[dG]using hp
    obtain⟨z,_⟩:=pD hp';have z':p.1=D0:=by simpa using z
    rw[z'];exact(nD b hb).symm
   refine thn (T.item (dG X N' sc P3.objs.size {s2 with heap:=P3} H2 (D0::fp)) rfl rfl rfl hc i _ s5 τ H5 (fun _ _=>False) I5p (fun b hb=>fpi hb (fr5 b (ofp hb))) st5 go) fun r s6 ⟨u,hr,h6⟩=>?_;subst hr;refine thn h6 fun _ s7 ⟨x,H7,I7,r7,y7,st7,fr7⟩=>?_;have I7':=I7.pinned (fun b hb=>fpi hb (fr7 b hb)) (T.obj _ _ st7);refine thn (pg _ s7 τ H7 x u _ I7' r7 (step x H7 y7)) fun _ s8 ⟨τ8,H8,I8,q8⟩=>?_;refine thn (pt _ s8 τ8 H8 _ I8 q8) fun b s9 ⟨H9,I9,q9⟩=>?_;have pinD:∀{τ':St}{H':Hp}{s':Shared},Inv (dG X N' sc P3.objs.size {s2 with heap:=P3} H2 (D0::fp)) ([]++iF [D0] s5.heap++iF fp s7.heap) τ' H' s'->s'.heap.get? D0=some {cls:=.type "list",data:=.seq its.toArray kk}/\H' D0=none:=fun{τ' H' s'} J=>by
    have :=J.pin (D0,_) (aZ _ (dP _ (aZ _ (gZ (by simp) e5))))
    exact⟨this.1,this.2.1⟩
   have pinF:∀{τ':St}{H':Hp}{s':Shared},Inv (dG X N' sc P3.objs.size {s2 with heap:=P3} H2 (D0::fp)) ([]++iF [D0] s5.heap++iF fp s7.heap) τ' H' s'->(∀b∈fp,∀o,s7.heap.get? b=some o->s'.heap.get? b=some o)/\(∀b∈fp,H' b=none):=fun{τ' H' s'} J=>by
    refine⟨fun b hb o e=>(J.pin (b,o) (aZ _ (aZ _ (gZ hb e)))).1,fun b hb=>?_⟩;obtain⟨o,e,d⟩:=T.obj _ _ st7 b hb;exact(J.pin (b,o) (aZ _ (aZ _ (gZ hb e)))).2.1
   cases b with
   |false=>
    rw[if_neg (by decide)]at q9⊢;obtain⟨m',hm',w7⟩:=hN τ8 acc H9 q9;obtain⟨d1,d2⟩:=pinD I9;obtain⟨p1,p2⟩:=pinF I9;refine⟨m',hm',i+1,τ8,acc,H9,its,kk,I9.gM.gM,T.keep _ _ _ st7 p1,fun b hb=>?_,va5,hz5,d1,w7⟩;rcases aC.mp hb with z|z
    ·rw[z];exact d2
    ·exact p2 b z
   |true=>
    rw[if_pos rfl]at q9⊢;refine thn (pe _ s9 τ8 H9 _ I9 q9) fun y s10 ⟨z,H10,I10,r10,q10⟩=>?_;obtain⟨hz10,n10⟩:=q10;obtain⟨m',hm',w7⟩:=hN τ8 _ H10 n10;obtain⟨d1,d2⟩:=pinD I10;obtain⟨p1,p2⟩:=pinF I10;have hlen:its.length=acc.length:=va5.length.symm;refine Bd (X:=dG X N' sc P3.objs.size {s2 with heap:=P3} H2 (D0::fp)) I10.gM.gM (f4 aS d2) d1 (by omega) fun h' n' I11 e11 k11=>?_;refine⟨m',hm',i+1,τ8,acc++[z],H10,its++[y],n',I11,T.keep _ _ _ st7 fun b hb o e=>k11 b o (nD b hb) (p1 b hb o e),fun b hb=>?_,va5.append (.cons r10 .nil),?_,e11,w7⟩
    ·rcases aC.mp hb with w|w
     ·rw[w];exact d2
     ·exact p2 b w
    ·rw[di,m7];omega
 exact codeAny_compStart_list loop (T.self _ 0 _ _ _ st4 loop)
theorem pe_comp(S:mw X N' sc)(hm:MkOk X N' sc mk)(hc:X.calm=true)(hi:PI X tg iter wi)
  (hb:∀C s₀ H₀ fp,(dG X N' sc C s₀ H₀ fp).Ok->PG (dG X N' sc C s₀ H₀ fp) tg g/\PTs (dG X N' sc C s₀ H₀ fp) ifs tc/\PE (dG X N' sc C s₀ H₀ fp) elt te)
  (hs:∀x,iZ iter X.env x=pure x:=by intro _;rfl):PE X (.ListComp elt [⟨tg,iter,ifs,0⟩] sc pos) (uF wi g tc te mk):=by
 intro pins s σ H Q I h;rw[eval_ListComp];refine vg (use:=none) S hm hc hi hb hs I h fun l C H' s' m I' hn hC hCo q=>⟨m,hn,fun h'' hs''=>?_⟩;have I'':Inv X pins σ H' {s' with heap:=h'',toks:=s'.toks}:=I'.turned (fun b o hb e=>hs''.extBut b o hb e) hC.1 hC.2.1 hC.2.2.2.1 hC.2.2.2.2.1 hC.2.2.2.2.2;exact⟨.ref l,H',I'',rfl,q⟩
theorem Al{i:Nat}{x:Str}{pos' spos:Pos}(S:mw X N' sc)(hm:MkOk X N' sc mk)(hc:X.calm=true)(hi:PI X tg iter wi)
  (hb:∀C s₀ H₀ fp,(dG X N' sc C s₀ H₀ fp).Ok->PG (dG X N' sc C s₀ H₀ fp) tg g/\PTs (dG X N' sc C s₀ H₀ fp) ifs tc/\PE (dG X N' sc C s₀ H₀ fp) elt te)
  (hN:X.N.Nodup)(hx:X.N[i]? =some x)(hl:X.env.scope.names.lookup x=some .local)
  (hsw:nH (.ListComp elt [⟨tg,iter,ifs,0⟩] sc pos) (some (.Name x pos')) spos.line X.env=pure true)
  (hs:∀x,iZ iter X.env x=pure x:=by intro _;rfl):PS X (.Assign [.Name x pos'] (.ListComp elt [⟨tg,iter,ifs,0⟩] sc pos) spos) (rC (uF wi g tc te mk) (kj i)):=by
 intro pins s σ H D I h;rw[exec_Assign_Name_used _ _ _ _ hsw];refine aa (gd (aa ?_));show wpAny _ X.A (do let _<-comprehension (.ListComp elt [⟨tg,iter,ifs,0⟩] sc pos) sc X.env (firstIterPos [⟨tg,iter,ifs,0⟩] pos) (newList []) false (eval iter X.env) (some (assign (.Name x pos') X.env))) _ _ s;refine aa (thn (vg (use:=some (assign (.Name x pos') X.env)) (QQ:=fun _ s'=>SP X pins D .next s') S hm hc hi hb hs I h fun l C H' s' m I' hn hC hCo q=>?_) fun _ s' hq=>ai (ai hq));obtain⟨oC,eC,dC⟩:=id hCo;have I1:Inv X (pins++[(C,oC)]) σ H' s':=I'.wA fun p hp=>(dW.mp hp).elim (fun z=>I'.pin p (aZ _ z)) fun z=>by
  have e:p=(C,oC):=by simpa using z
  subst e;exact⟨eC,hC.1,hC.2.1,hC.2.2.1,dC⟩
 show wpAny _ X.A (assign (.Name x pos') X.env (.ref l)) _ _ s';refine thn (wB (i:=i) hN hx (.inl hl) (.inr hl) (pins++[(C,oC)]) s' σ H' (.ref l) (.ref l) D.nx I1 rfl q) fun _ s2 ⟨σ2,H2,I2,q2⟩=>?_;obtain⟨eC2,nC2,_,_,_⟩:=I2.pin (C,oC) (aZ _ (aZ _ (by simp)));have hn2:s2.heap.Ns C m:=by
  obtain⟨o,es,ep,ho,r⟩:=hn;have :o=oC:=by rw[eC]at ho;exact(aY ho).symm
  subst this;exact⟨o,es,ep,eC2,r⟩
 refine⟨m,hn2,fun h'' hs''=>?_⟩;have I3:Inv X pins σ2 H2 {s2 with heap:=h'',toks:=s2.toks}:=I2.gM.turned (fun b o hb e=>hs''.extBut b o hb e) nC2 hC.2.1 hC.2.2.2.1 hC.2.2.2.2.1 hC.2.2.2.2.2;exact⟨σ2,H2,I3,q2⟩
end
section
variable {X:Cx}
theorem qj:eL X (.builtin "isinstance") (fun xs H Q=>∃x T t b,xs=[x,.ty T]/\ly X.K H x t/\cj X.K t (.type T)=some b/\Q (.bl b) H):=by
 intro pins s σ H xs us Q I rv h;obtain⟨x,T,t,b,rfl,ty,e,q⟩:=h;obtain⟨u,c,rfl,ru,rc⟩:=rv.two;cases rc;exact u6 I ru ty e fun tk=>⟨.bl b,H,I.tok tk,rfl,q⟩
theorem oJ:eL X (.builtin "isinstance") (fun xs H Q=>∃x C t b,xs=[x,.ref C]/\ly X.K H x t/\cj X.K t (.ref C)=some b/\Q (.bl b) H):=by
 intro pins s σ H xs us Q I rv h;obtain⟨x,T,t,b,rfl,ty,e,q⟩:=h;obtain⟨u,c,rfl,ru,rc⟩:=rv.two;cases rc;exact u6 I ru ty e fun tk=>⟨.bl b,H,I.tok tk,rfl,q⟩
theorem x5{prog:Program}{w:World}{A:Around}{its:List Value}{bs:List Bool}(r:bM (bs.map V.bl) its):TruthOf prog w A (fun i v=>its.toArray[i]? =some v) (fun i=>bs.getD i false):=by
 intro i v s Q E hP h;have hi:its[i]? =some v:=by simpa using hP
 have e:v=.bool (bs.getD i false):=by
  have hl:=r.length;rw[ao]at hl;have hlt:i<bs.length:=by
   have :=(aM.mp hi).1
   omega
  obtain⟨u,hu,ru⟩:=bM.get (i:=i) (x:=.bl bs[i]) r (by simp[hlt]);rw[hi]at hu;cases hu;have ru':v=xJ bs[i]:=ru;rw[ru',aj,ag hlt];rfl
 rw[e];exact cO h
theorem range_all(bs:List Bool):(az bs.length).all (fun i=>bs.getD i false)=bs.all id:=by
 have :bs=(az bs.length).map fun i=>bs.getD i false:=by
  apply cU
  ·simp
  ·intro i h1 h2
   simp[h1]
 rw[js];simp only[bK,cC];constructor
 ·intro h x hx
  obtain⟨i,hi,rfl⟩:=eQ.mp hx;have :=h i hi;simpa[hi]using this
 ·intro h i hi
  have :=h bs[i] (bq hi)
  simpa[hi]using this
theorem range_any(bs:List Bool):(az bs.length).any (fun i=>bs.getD i false)=bs.any id:=by
 rw[js];simp only[cE,cC];constructor
 ·rintro⟨i,hi,h⟩
  exact⟨bs[i],bq hi,by simpa[hi]using h⟩
 ·rintro⟨x,hx,h⟩
  obtain⟨i,hi,rfl⟩:=eQ.mp hx;exact⟨i,hi,by simpa[hi]using h⟩
theorem Hy(hc:X.calm=true):eL X (.builtin "all") (fun xs H Q=>∃(p:Addr)(bs:List Bool),xs=[.ref p]/\SqL X.K H p (bs.map V.bl)/\Q (.bl (bs.all id)) H):=by
 intro pins s σ H xs us Q I rv h;obtain⟨p,bs,rfl,hq,q⟩:=h;obtain⟨u,rfl,ru⟩:=rv.one;cases ru;obtain⟨its,r,pl,hz⟩:=I.list hq;have hlen:its.toArray.size=bs.length:=by rw[ay,<-r.length,ao]
 have hne:p≠s.heap.objs.size:=by obtain⟨o,n,ho,_⟩:=id pl;exact aD (av ho)
 refine call_all_walk (iV pl.isList ⟨s.heap.objs.size,_,_,_,_,_,fun i=>bs.getD i false,rfl,HU (A:=X.A.in1) (I.ok.hd hc) _ p hne its.toArray,⟨⟨_,au _ rfl,rfl,rfl⟩,pl.isList.at fun o e=>af _ e⟩,x5 r,fun h' tk k=>?_⟩);rw[hlen,range_all];exact⟨.bl (bs.all id),H,I.kept (t':=tk) fun b o e=>k b o (by simpa using aD (av e)) (af _ e),rfl,q⟩
theorem Hx(hc:X.calm=true):eL X (.builtin "any") (fun xs H Q=>∃(p:Addr)(bs:List Bool),xs=[.ref p]/\SqL X.K H p (bs.map V.bl)/\Q (.bl (bs.any id)) H):=by
 intro pins s σ H xs us Q I rv h;obtain⟨p,bs,rfl,hq,q⟩:=h;obtain⟨u,rfl,ru⟩:=rv.one;cases ru;obtain⟨its,r,pl,hz⟩:=I.list hq;have hlen:its.toArray.size=bs.length:=by rw[ay,<-r.length,ao]
 have hne:p≠s.heap.objs.size:=by obtain⟨o,n,ho,_⟩:=id pl;exact aD (av ho)
 refine call_any_walk (iV pl.isList ⟨s.heap.objs.size,_,_,_,_,_,fun i=>bs.getD i false,rfl,HU (A:=X.A.in1) (I.ok.hd hc) _ p hne its.toArray,⟨⟨_,au _ rfl,rfl,rfl⟩,pl.isList.at fun o e=>af _ e⟩,x5 r,fun h' tk k=>?_⟩);rw[hlen,range_any];exact⟨.bl (bs.any id),H,I.kept (t':=tk) fun b o e=>k b o (by simpa using aD (av e)) (af _ e),rfl,q⟩
noncomputable def A3(x:Str)(lo hi:Option Int):Str:=⟨((x.cps.toList.drop (HT.sIx x.length 0 lo)).take (HT.sIx x.length x.length hi-HT.sIx x.length 0 lo)).toArray⟩
theorem sIx_eq(n d:Nat)(i:Int):(max 0 (min (if i<0 then i+(n:Int)else i) (n:Int)))=((HT.sIx n d (some i):Nat):Int):=by
 have :=HT.clip_eq i n d
 rw[<-this];split <;>omega
theorem strIx(lo hi:Option Int)(n:Nat):qB lo hi 1 n=(az (HT.sIx n n hi-HT.sIx n 0 lo)).map fun k=>HT.sIx n 0 lo+k:=by
 have key:∀a b:Nat,sliceRange (a:Int) (b:Int) 1=(az (b-a)).map fun k=>a+k:=by
  intro a b;unfold sliceRange;have e:(if(1:Int)>0 then(if(a:Int)<b then((b:Int)-a+1-1)/1 else 0)else(if(a:Int)>b then((a:Int)-b-1-1)/(-1)else 0)).toNat=b-a:=by
   rw[if_pos (by decide)];split <;>omega
  simp only[e];apply bP;intro k hk;omega
 have e1:∀(o:Option Int)(d:Nat),(match o with |none=>(d:Int) |some i=>max 0 (min (if i<0 then i+(n:Int)else i) (n:Int)))=((HT.sIx n d o:Nat):Int):=by
  intro o d;cases o with
  |none=>rfl
  |some i=>exact sIx_eq n d i
 have a1:=e1 lo 0;have a2:=e1 hi n;unfold qB;simp only[show(1:Int)>0 by decide,if_true];have b1:((0:Nat):Int)=0:=rfl;rw[b1]at a1;rw[<-key,<-a1,<-a2];cases lo<;>cases hi<;>rfl
theorem pickN(xs:Array Nat)(i:Nat):∀k,((az k).map fun m=>i+m).filterMap (xs[·]?)=(xs.toList.drop i).take k:=by
 intro k
 induction k with
 |zero=>simp
 |succ k ih=>
  rw[List.range_succ,de,List.filterMap_append,ih];by_cases h:i+k<xs.size
  ·rw[List.take_succ,kb]
   simp[h]
  ·rw[List.take_succ,kb]
   simp[h]
theorem C0(x:Str)(lo hi:Option Int):Txt.slice x lo hi=A3 x lo hi:=by
 have hl:HT.sIx x.length 0 lo<=x.length:=HT.Fh _ _ (bA _) lo;have hu:HT.sIx x.length x.length hi<=x.length:=HT.Fh _ _ (aw _) hi;unfold Txt.slice A3;rw[strIx];split
 ·rename_i h
  rw[ah,beq_iff_eq,beq_iff_eq,ao,cJ]at h;have a:HT.sIx x.length 0 lo=0:=by omega
  have b:HT.sIx x.length x.length hi=x.length:=by omega
  rw[a,b];have :x.cps.toList.length=x.length:=by simp[Str.length]
  rw[List.drop_zero,Nat.sub_zero,<-this,fj]
 ·rw[pickN]
theorem qg{v:Value}{o:Option Int}(p:IsPart v o):∃l:Option (Int×Tok),v=partValue l/\o=l.map (·.1):=by
 cases p with
 |none=>exact⟨none,rfl,rfl⟩
 |int i t=>exact⟨some (i,t),rfl,rfl⟩
noncomputable def rSlS:V->Option Int->Option Int->Hp->VK->Prop:=fun x lo hi H Q=>∃z,x=.str z/\z.length<=sizeLine/\Q (.str (A3 z lo hi)) H
theorem sl_str:SlR X rSlS:=by
 intro pins s σ H x v vl vu lo hi sl Q I rx hs pl pu h;obtain⟨z,rfl,hz,q⟩:=h;obtain⟨t,rfl⟩:=rx;obtain⟨l,rfl,rfl⟩:=qg pl;obtain⟨u,rfl,rfl⟩:=qg pu;refine⟨"str",_,F.slot_str_getitem.lookup,typeIs_str _ _ _,?_⟩;refine wpAny_getItem_str_slice (l:=l) (u:=u) (st:=none) hs rfl (post_val_or_str ⟨aX (Txt.slice_le z _ _) hz,fun t' k=>?_⟩);have e:=C0 z (l.map (·.1)) (u.map (·.1));unfold Txt.slice at e;refine⟨.str (A3 z (l.map (·.1)) (u.map (·.1))),H,I.tok k,⟨t',?_⟩,q⟩;rw[<-e];rfl
noncomputable def Its(x:Str):It:=⟨fun i _=>i<x.length,fun i H v H'=>H'=H/\∃c,x.cps[i]? =some c/\v=.str ⟨#[c]⟩,fun i _=>x.length<=i⟩
end
theorem uH{prog:Program}{w:World}(it:Addr)(x:Str)(t:Tok)(A:Around)(hA:A.handled=none):
  Walks prog w A it [it] [it] x.cps.size (SignAt x) (fun i h=>h.IsStrIter it (gH x) x t i):=by
 unfold gH;cases ha:x.cps.all (·<128)
 ·simp only[aI,if_false];exact Walks.strWide hA it x t
 ·simp only[if_true];exact Walks.strAscii hA it x t
theorem EH{P:Program}{w:World}{K:ae}{tg:Expr}(x:Str)(it:Addr)(t:Tok):Turn P w K tg (Its x) [it] it (fun i h=>h.IsStrIter it (gH x) x t i) where
 mem:=by simp
 obj:=fun i h st b hb=>by
  have e:b=it:=by simpa using hb
  subst e;obtain⟨o,e,c,d⟩:=st;exact⟨o,e,fun v z=>by rw[d]at z;cases z⟩
 keep:=fun i h h' st k=>let⟨o,ho,r⟩:=st;⟨o,k it (by simp) o ho,r⟩
 item:=by
  intro X hP hw hK hc i pins s σ H E I hf st hg;subst hP hw hK;obtain⟨f0,f1,f2,f3,f4,f5⟩:=hf it (by simp);have W:=uH (prog:=X.prog) (w:=X.w) it x t X.A (I.ok.hd hc);refine W.item i s _ _ hg st fun v h' tk hv st' kk=>?_;obtain⟨c,u,hc',rfl⟩:=hv;have I1:Inv X pins σ H {s with heap:=h',toks:=tk}:=I.turned (fun b o hb e=>kk b o (by simpa using hb) e) f0 f1 f3 f4 f5;obtain⟨o,e,cl,d⟩:=id st';refine⟨_,rfl,BZ (s:={s with heap:=h',toks:=tk}) (n:=gH x) e cl d ?_ ⟨.str ⟨#[c]⟩,H,I1,⟨u,rfl⟩,⟨rfl,c,hc',rfl⟩,st',fun b hb=>(hf b hb).1⟩⟩;unfold gH;split <;>decide
 done:=by
  intro X hP hw hK hc i pins s σ H E I hf st hg;subst hP hw hK;obtain⟨f0,f1,f2,f3,f4,f5⟩:=hf it (by simp);have hg':x.length<=i:=hg;by_cases hi:i=x.cps.size
  ·subst hi
   have W:=uH (prog:=X.prog) (w:=X.w) it x t X.A (I.ok.hd hc);exact W.done s _ _ st fun h' tk kk=>⟨rfl,I.turned (fun b o hb e=>kk b o (by simpa using hb) e) f0 f1 f3 f4 f5⟩
  ·have hn:x.cps[i]? =none:=by
    rw[Array.getElem?_eq_none_iff];exact hg'
   have st2:s.heap.IsStrIter it (gH x) x t i:=st;unfold gH at st2;cases ha:x.cps.all (·<128)
   ·rw[ha]at st2
    exact wpAny_pyNext_wide_end (I.ok.hd hc) st2 hn fun h' eb=>⟨rfl,I.turned (t':=s.toks) (fun b o hb e=>eb b o hb e) f0 f1 f3 f4 f5⟩
   ·rw[ha]at st2
    exact wpAny_pyNext_ascii_end (I.ok.hd hc) st2 hn fun h' eb=>⟨rfl,I.turned (t':=s.toks) (fun b o hb e=>eb b o hb e) f0 f1 f3 f4 f5⟩
 self:=fun A i s Q E st h=>by
  have st2:s.heap.IsStrIter it (gH x) x t i:=st;unfold gH at st2;cases ha:x.cps.all (·<128)
  ·rw[ha]at st2;exact wpAny_pyIter_striter_wide st2 h
  ·rw[ha]at st2;exact wpAny_pyIter_striter_ascii st2 h
noncomputable def Ite(K:ae)(a:Addr):It:=
 ⟨fun i H=>∃xs x,SqL K H a xs/\xs[i]? =some x,fun i H v H'=>∃p x,H p=none/\H'=upd H p (.tup [.int i,x])/\v=.ref p/\∀xs,SqL K H a xs->xs[i]? =some x,fun i H=>∃xs,SqL K H a xs/\xs.length<=i⟩
section
variable {X:Cx}{es:List Expr}{kk:Nat}{pp:Pos}
noncomputable def iEnum(K:ae)(tl:TE):TI:=fun σ H R=>tl σ H fun x H1=>∃a,x=.ref a/\(∃xs,SqL K H1 a xs)/\R (Ite K a) H1
end
inductive D where
 |non|bl (b:Bool) |int (i:Int) |str (x:Str) |tup (ds:List D) |lst (ds:List D)
 deriving Inhabited
mutual
noncomputable def Rep(K:ae)(H:Hp):D->V->Prop
 |.non,v=>v=.non
 |.bl b,v=>v=.bl b
 |.int i,v=>v=.int i
 |.str x,v=>v=.str x
 |.tup ds,v=>∃a xs,v=.ref a/\SqT K H a xs/\gE K H ds xs
 |.lst ds,v=>∃a xs,v=.ref a/\SqL K H a xs/\gE K H ds xs
noncomputable def gE(K:ae)(H:Hp):List D->List V->Prop
 | [],xs=>xs=[]
 |d::ds,xs=>∃x r,xs=x::r/\Rep K H d x/\gE K H ds r
end
theorem aG.tup{K:ae}{H H':Hp}{a:Addr}{xs:List V}(e:aG H H')(h:SqT K H a xs):SqT K H' a xs:=by
 rcases h with(h|⟨o,h⟩) |h
 ·exact .inl (.inl (e _ _ h))
 ·exact .inl (.inr ⟨o,e _ _ h⟩)
 ·exact .inr h
theorem gE.length{K:ae}{H:Hp}:∀{ds:List D}{xs:List V},gE K H ds xs->xs.length=ds.length
 | [],_,h=>by rw[show _=[]from h];rfl
 |d::ds,_,h=>by
  obtain⟨x,r,rfl,_,h2⟩:=h;rw[bJ,bJ,gE.length h2]
theorem gE.at{K:ae}{H:Hp}:∀{ds:List D}{xs:List V}{i:Nat}{d:D},gE K H ds xs->ds[i]? =some d->∃x,xs[i]? =some x/\Rep K H d x
 | [],_,i,d,h,e=>by simp at e
 |d::ds,_,0,d',h,e=>by
  obtain⟨y,r,rfl,h1,h2⟩:=h;simp at e;subst e;exact⟨y,rfl,h1⟩
 |d::ds,_,i+1,d',h,e=>by
  obtain⟨y,r,rfl,h1,h2⟩:=h;obtain⟨x,e',h'⟩:=gE.at (i:=i) h2 (by simpa using e);exact⟨x,by simpa using e',h'⟩
theorem gE.ints{K:ae}{H:Hp}:∀(ns:List Int),gE K H (ns.map D.int) (ns.map V.int)
 | []=>rfl
 |n::ns=>⟨_,_,rfl,rfl,gE.ints ns⟩
mutual
noncomputable def eqD:D->D->Bool
 |.non,.non=>true
 |.bl a,.bl b=>a==b
 |.bl a,.int b=>(if a then 1 else 0)==b
 |.int a,.bl b=>a==(if b then 1 else 0)
 |.int a,.int b=>a==b
 |.str a,.str b=>a==b
 |.tup a,.tup b=>km a b
 |.lst a,.lst b=>km a b
 |_,_=>false
noncomputable def km:List D->List D->Bool
 | [],[]=>true
 |a::as,b::bs=>eqD a b&&km as bs
 |_,_=>false
end
mutual
noncomputable def hgt:D->Nat
 |.tup ds=>fF ds+1
 |.lst ds=>fF ds+1
 |_=>0
noncomputable def fF:List D->Nat
 | []=>0
 |d::ds=>max (hgt d) (fF ds)
end
theorem pJ:∀{ds:List D}{i:Nat}{d:D},ds[i]? =some d->hgt d<=fF ds
 | [],i,d,e=>by simp at e
 |d::ds,0,d',e=>by simp at e;subst e;simp only[fF];omega
 |d::ds,i+1,d',e=>by
  have :=pJ (i:=i) (ds:=ds) (d:=d') (by simpa using e)
  simp only[fF];omega
theorem lT:∀(as bs:List D)(e:Nat->Bool),as.length=bs.length->(∀(i:Nat) a b,as[i]? =some a->bs[i]? =some b->e i=eqD a b)->(az as.length).all e=km as bs
 | [],[],e,_,_=>rfl
 |a::as,b::bs,e,hl,h=>by
  rw[bJ,List.range_succ_eq_map,zN,List.all_map];have h0:=h 0 a b rfl rfl;have ih:=lT as bs (fun i=>e (i+1)) (by simpa using hl) fun i x y hx hy=>h (i+1) x y (by simpa using hx) (by simpa using hy);rw[h0];show(eqD a b&&(az as.length).all (fun i=>e (i+1)))=_;rw[ih,km]
 | [],b::bs,e,hl,_=>by simp at hl
 |a::as,[],e,hl,_=>by simp at hl
theorem lS:∀(as bs:List D),as.length≠bs.length->km as bs=false
 | [],[],h=>absurd rfl h
 |a::as,b::bs,h=>by
  rw[km,lS as bs (by simpa using h),dQ]
 | [],b::bs,_=>rfl
 |a::as,[],_=>rfl
mutual
theorem sQ:∀d:D,eqD d d=true
 |.non=>rfl
 |.bl b=>by simp[eqD]
 |.int i=>by simp[eqD]
 |.str x=>by simp[eqD]
 |.tup ds=>by rw[eqD];exact pL ds
 |.lst ds=>by rw[eqD];exact pL ds
theorem pL:∀ds:List D,km ds ds=true
 | []=>rfl
 |d::ds=>by rw[km,sQ d,pL ds];rfl
end
section
variable {X:Cx}{pins:List (Addr×Obj)}{σ:St}{H:Hp}{s:Shared}
mutual
theorem Inv.wq(I:Inv X pins σ H s):∀{d d':D}{v:V},Rep X.K H d v->Rep X.K H d' v->d=d'
 |.non,d',v,h,h'=>by
  cases(show v=V.non from h);cases d'<;>first | (obtain⟨_,_,z,_⟩:=h';cases z;done) |rfl| (cases h';done)
 |.bl b,d',v,h,h'=>by
  cases(show v=V.bl b from h);cases d'<;>first | (obtain⟨_,_,z,_⟩:=h';cases z;done) | (cases h';rfl) | (cases h';done)
 |.int b,d',v,h,h'=>by
  cases(show v=V.int b from h);cases d'<;>first | (obtain⟨_,_,z,_⟩:=h';cases z;done) | (cases h';rfl) | (cases h';done)
 |.str b,d',v,h,h'=>by
  cases(show v=V.str b from h);cases d'<;>first | (obtain⟨_,_,z,_⟩:=h';cases z;done) | (cases h';rfl) | (cases h';done)
 |.tup ds,d',v,h,h'=>by
  obtain⟨a,xs,rfl,h1,h2⟩:=h;cases d' with
  |tup ds'=>
   obtain⟨b,ys,e,h1',h2'⟩:=h';cases e;have :=I.pq h1 h1';subst this;rw[Inv.rP I h2 h2']
  |lst ds'=>
   obtain⟨b,ys,e,h1',h2'⟩:=h';cases e;obtain⟨its,_,⟨o,e1,c1,_⟩,_⟩:=I.tuple h1;obtain⟨its',_,⟨o',n,e2,c2,_⟩,_⟩:=I.list h1';rw[e1]at e2;cases e2;rw[c1]at c2;exact absurd c2 (by decide+kernel)
  |_=>cases h'
 |.lst ds,d',v,h,h'=>by
  obtain⟨a,xs,rfl,h1,h2⟩:=h;cases d' with
  |lst ds'=>
   obtain⟨b,ys,e,h1',h2'⟩:=h';cases e;have :=I.yL h1 h1';subst this;rw[Inv.rP I h2 h2']
  |tup ds'=>
   obtain⟨b,ys,e,h1',h2'⟩:=h';cases e;obtain⟨its,_,⟨o,n,e1,c1,_⟩,_⟩:=I.list h1;obtain⟨its',_,⟨o',e2,c2,_⟩,_⟩:=I.tuple h1';rw[e1]at e2;cases e2;rw[c1]at c2;exact absurd c2 (by decide+kernel)
  |_=>cases h'
theorem Inv.rP(I:Inv X pins σ H s):∀{ds ds':List D}{xs:List V},gE X.K H ds xs->gE X.K H ds' xs->ds=ds'
 | [],[],_,_,_=>rfl
 | [],d::ds,xs,h,h'=>by
  obtain⟨x,r,e,_⟩:=h';rw[show xs=[]from h]at e;cases e
 |d::ds,[],xs,h,h'=>by
  obtain⟨x,r,e,_⟩:=h;rw[show xs=[]from h']at e;cases e
 |d::ds,d'::ds',xs,h,h'=>by
  obtain⟨x,r,rfl,h1,h2⟩:=h;obtain⟨y,r',e,h1',h2'⟩:=h';cases e;rw[Inv.wq I h1 h1',Inv.rP I h2 h2']
end
open PySem.SeqAt
theorem Inv.rcTup(I:Inv X pins σ H s)(A:Around){ds ds':List D}{a b:Addr}{xs ys:List V}(hit:∀(i:Nat)(d d':D)(x y:V)(u u':Value),ds[i]? =some d->ds'[i]? =some d'->Rep X.K H d x->Rep X.K H d' y->RelV x u->RelV y u'->EqAt A.in1 s u u' (eqD d d'))(h1:SqT X.K H a xs)(h2:gE X.K H ds xs)(h1':SqT X.K H b ys)(h2':gE X.K H ds' ys)(hu:A.units<cLine):RcAt A s (.ref a) (.ref b) (km ds ds'):=by
  obtain⟨its,r,p,_⟩:=I.tuple h1;obtain⟨its',r',p',_⟩:=I.tuple h1';have l1:=h2.length;have l2:=h2'.length;have l3:=r.length;have l4:=r'.length;have key:=RcAt.tuples (e:=fun j=>match ds[j]?,ds'[j]? with |some d,some d'=>eqD d d'|_,_=>false) p p' (A:=A) (by omega) (fun j g1 g2=>by
   have g1':j<its.length:=by simpa using g1
   have g2':j<its'.length:=by simpa using g2
   have e1:ds[j]? =some ds[j]:=ag (by omega);have e2:ds'[j]? =some ds'[j]:=ag (by omega);show EqAt A.in1 s _ _ (match ds[j]?,ds'[j]? with |some d,some d'=>eqD d d'|_,_=>false);rw[e1,e2];obtain⟨x,hx,rx⟩:=h2.at e1;obtain⟨y,hy,ry⟩:=h2'.at e2;obtain⟨u,hu1,ru⟩:=r.get hx;obtain⟨u',hu2,ru'⟩:=r'.get hy;have q1:its.toArray[j]=u:=by have :its[j]? =some its[j]:=ag g1';rw[this]at hu1;simpa using hu1
   have q2:its'.toArray[j]=u':=by have :its'[j]? =some its'[j]:=ag g2';rw[this]at hu2;simpa using hu2
   rw[q1,q2];exact hit j _ _ x y u u' e1 e2 rx ry ru ru')
  have hs:its.toArray.size=ds.length:=by simp;omega
  have hs':its'.toArray.size=ds'.length:=by simp;omega
  rw[hs,hs']at key;by_cases hl:ds.length=ds'.length
  ·have e:((az (min ds.length ds'.length)).all (fun j=>match ds[j]?,ds'[j]? with |some d,some d'=>eqD d d'|_,_=>false)&&ds.length==ds'.length)=km ds ds':=by
    rw[<-hl,El,beq_self_eq_true,Bool.and_true];refine lT ds ds' _ hl fun i x y hx hy=>?_;simp only[hx,hy]
   rw[e]at key;exact key
  ·have e:((az (min ds.length ds'.length)).all (fun j=>match ds[j]?,ds'[j]? with |some d,some d'=>eqD d d'|_,_=>false)&&ds.length==ds'.length)=km ds ds':=by
    rw[lS ds ds' hl,beq_eq_false_iff_ne.mpr hl,dQ]
   rw[e]at key;exact key
theorem Inv.rcLst(I:Inv X pins σ H s)(A:Around){ds ds':List D}{a b:Addr}{xs ys:List V}(hit:∀(i:Nat)(d d':D)(x y:V)(u u':Value),ds[i]? =some d->ds'[i]? =some d'->Rep X.K H d x->Rep X.K H d' y->RelV x u->RelV y u'->EqAt A.in1 s u u' (eqD d d'))(h1:SqL X.K H a xs)(h2:gE X.K H ds xs)(h1':SqL X.K H b ys)(h2':gE X.K H ds' ys)(hu:A.units<cLine):RcAt A s (.ref a) (.ref b) (km ds ds'):=by
  obtain⟨its,r,p,_⟩:=I.list h1;obtain⟨its',r',p',_⟩:=I.list h1';have l1:=h2.length;have l2:=h2'.length;have l3:=r.length;have l4:=r'.length;by_cases hl:ds.length=ds'.length
  ·have key:=RcAt.lists (e:=fun j=>match ds[j]?,ds'[j]? with |some d,some d'=>eqD d d'|_,_=>false) p.isList p'.isList (A:=A) (by simp;omega) (by omega) (fun j g1 g2=>by
    have g1':j<its.length:=by simpa using g1
    have g2':j<its'.length:=by simpa using g2
    have e1:ds[j]? =some ds[j]:=ag (by omega);have e2:ds'[j]? =some ds'[j]:=ag (by omega);show EqAt A.in1 s _ _ (match ds[j]?,ds'[j]? with |some d,some d'=>eqD d d'|_,_=>false);rw[e1,e2];obtain⟨x,hx,rx⟩:=h2.at e1;obtain⟨y,hy,ry⟩:=h2'.at e2;obtain⟨u,hu1,ru⟩:=r.get hx;obtain⟨u',hu2,ru'⟩:=r'.get hy;have q1:its.toArray[j]=u:=by have :its[j]? =some its[j]:=ag g1';rw[this]at hu1;simpa using hu1
    have q2:its'.toArray[j]=u':=by have :its'[j]? =some its'[j]:=ag g2';rw[this]at hu2;simpa using hu2
    rw[q1,q2];exact hit j _ _ x y u u' e1 e2 rx ry ru ru')
   have hs:its.toArray.size=ds.length:=by simp;omega
   rw[hs,lT ds ds' _ hl fun i x y hx hy=>by simp only[hx,hy]]at key;exact key
  ·have key:=RcAt.lists_lengths p.isList p'.isList (A:=A) (by simp;omega) (by omega)
   rw[lS ds ds' hl];exact key
theorem Inv.eqAt1(I:Inv X pins σ H s){n:Nat}(A:Around)(hit:∀(m:Nat)(ds ds':List D)(i:Nat)(d d':D)(x y:V)(u u':Value),n=m+1->fF ds<=m->ds[i]? =some d->ds'[i]? =some d'->Rep X.K H d x->Rep X.K H d' y->RelV x u->RelV y u'->EqAt A.in1 s u u' (eqD d d')):
  ∀(d d':D)(v v':V)(u u':Value),Rep X.K H d v->Rep X.K H d' v'->RelV v u->RelV v' u'->hgt d<=n->A.units+n+1<cLine->EqAt A s u u' (eqD d d')
 |.tup ds,.tup ds',v,v',u,u',h,h',r,r',hn,hu=>by
  obtain⟨a,xs,rfl,h1,h2⟩:=id h;obtain⟨b,ys,rfl,h1',h2'⟩:=id h';cases r;cases r';rw[hgt]at hn;by_cases z:a=b
  ·subst z
   have e:=I.wq h h';rw[<-e,sQ];exact EqAt.same _
  ·rw[eqD]
   exact EqAt.of_refs z (Inv.rcTup I A (fun i d d' x y u u' e1 e2 rx ry ru ru'=>hit (n-1) ds ds' i d d' x y u u' (by omega) (by omega) e1 e2 rx ry ru ru') h1 h2 h1' h2' (by omega))
 |.lst ds,.lst ds',v,v',u,u',h,h',r,r',hn,hu=>by
  obtain⟨a,xs,rfl,h1,h2⟩:=id h;obtain⟨b,ys,rfl,h1',h2'⟩:=id h';cases r;cases r';rw[hgt]at hn;by_cases z:a=b
  ·subst z
   have e:=I.wq h h';rw[<-e,sQ];exact EqAt.same _
  ·rw[eqD]
   exact EqAt.of_refs z (Inv.rcLst I A (fun i d d' x y u u' e1 e2 rx ry ru ru'=>hit (n-1) ds ds' i d d' x y u u' (by omega) (by omega) e1 e2 rx ry ru ru') h1 h2 h1' h2' (by omega))
 |.tup ds,.lst ds',v,v',u,u',h,h',r,r',hn,hu=>by
  obtain⟨a,xs,rfl,h1,h2⟩:=id h;obtain⟨b,ys,rfl,h1',h2'⟩:=id h';cases r;cases r';obtain⟨its,_,p,_⟩:=I.tuple h1;obtain⟨its',_,p',_⟩:=I.list h1';exact EqAt.tuple_list p p'.isList (by omega)
 |.lst ds,.tup ds',v,v',u,u',h,h',r,r',hn,hu=>by
  obtain⟨a,xs,rfl,h1,h2⟩:=id h;obtain⟨b,ys,rfl,h1',h2'⟩:=id h';cases r;cases r';obtain⟨its,_,p,_⟩:=I.list h1;obtain⟨its',_,p',_⟩:=I.tuple h1';exact EqAt.list_tuple p.isList p' (by omega)
 |.tup ds,.non,v,v',u,u',h,h',r,r',hn,hu=>by
  obtain⟨a,xs,rfl,h1,h2⟩:=id h;cases(show v'=_ from h');cases r;cases r';obtain⟨its,_,p,_⟩:=I.tuple h1;exact EqAt.tuple_none p (by omega)
 |.tup ds,.bl _,v,v',u,u',h,h',r,r',hn,hu=>by
  obtain⟨a,xs,rfl,h1,h2⟩:=id h;cases(show v'=_ from h');cases r;cases r';obtain⟨its,_,p,_⟩:=I.tuple h1;exact EqAt.tuple_bool _ p (by omega)
 |.tup ds,.int _,v,v',u,u',h,h',r,r',hn,hu=>by
  obtain⟨a,xs,rfl,h1,h2⟩:=id h;cases(show v'=_ from h');cases r;obtain⟨t,rfl⟩:=r';obtain⟨its,_,p,_⟩:=I.tuple h1;exact EqAt.tuple_int _ t p (by omega)
 |.tup ds,.str _,v,v',u,u',h,h',r,r',hn,hu=>by
  obtain⟨a,xs,rfl,h1,h2⟩:=id h;cases(show v'=_ from h');cases r;obtain⟨t,rfl⟩:=r';obtain⟨its,_,p,_⟩:=I.tuple h1;exact EqAt.tuple_str _ t p (by omega)
 |.lst ds,.non,v,v',u,u',h,h',r,r',hn,hu=>by
  obtain⟨a,xs,rfl,h1,h2⟩:=id h;cases(show v'=_ from h');cases r;cases r';obtain⟨its,_,p,_⟩:=I.list h1;exact EqAt.list_none p.isList (by omega)
 |.lst ds,.bl _,v,v',u,u',h,h',r,r',hn,hu=>by
  obtain⟨a,xs,rfl,h1,h2⟩:=id h;cases(show v'=_ from h');cases r;cases r';obtain⟨its,_,p,_⟩:=I.list h1;exact EqAt.list_bool _ p.isList (by omega)
 |.lst ds,.int _,v,v',u,u',h,h',r,r',hn,hu=>by
  obtain⟨a,xs,rfl,h1,h2⟩:=id h;cases(show v'=_ from h');cases r;obtain⟨t,rfl⟩:=r';obtain⟨its,_,p,_⟩:=I.list h1;exact EqAt.list_int _ t p.isList (by omega)
 |.lst ds,.str _,v,v',u,u',h,h',r,r',hn,hu=>by
  obtain⟨a,xs,rfl,h1,h2⟩:=id h;cases(show v'=_ from h');cases r;obtain⟨t,rfl⟩:=r';obtain⟨its,_,p,_⟩:=I.list h1;exact EqAt.list_str _ t p.isList (by omega)
 |.non,.tup ds,v,v',u,u',h,h',r,r',hn,hu=>by
  obtain⟨a,xs,rfl,h1,h2⟩:=id h';cases(show v=_ from h);cases r;cases r';obtain⟨its,_,p,_⟩:=I.tuple h1;exact EqAt.none_tuple p (by omega)
 |.bl _,.tup ds,v,v',u,u',h,h',r,r',hn,hu=>by
  obtain⟨a,xs,rfl,h1,h2⟩:=id h';cases(show v=_ from h);cases r;cases r';obtain⟨its,_,p,_⟩:=I.tuple h1;exact EqAt.bool_tuple _ p (by omega)
 |.int _,.tup ds,v,v',u,u',h,h',r,r',hn,hu=>by
  obtain⟨a,xs,rfl,h1,h2⟩:=id h';cases(show v=_ from h);cases r';obtain⟨t,rfl⟩:=r;obtain⟨its,_,p,_⟩:=I.tuple h1;exact EqAt.int_tuple _ t p (by omega)
 |.str _,.tup ds,v,v',u,u',h,h',r,r',hn,hu=>by
  obtain⟨a,xs,rfl,h1,h2⟩:=id h';cases(show v=_ from h);cases r';obtain⟨t,rfl⟩:=r;obtain⟨its,_,p,_⟩:=I.tuple h1;exact EqAt.str_tuple _ t p (by omega)
 |.non,.lst ds,v,v',u,u',h,h',r,r',hn,hu=>by
  obtain⟨a,xs,rfl,h1,h2⟩:=id h';cases(show v=_ from h);cases r;cases r';obtain⟨its,_,p,_⟩:=I.list h1;exact EqAt.none_list p.isList (by omega)
 |.bl _,.lst ds,v,v',u,u',h,h',r,r',hn,hu=>by
  obtain⟨a,xs,rfl,h1,h2⟩:=id h';cases(show v=_ from h);cases r;cases r';obtain⟨its,_,p,_⟩:=I.list h1;exact EqAt.bool_list _ p.isList (by omega)
 |.int _,.lst ds,v,v',u,u',h,h',r,r',hn,hu=>by
  obtain⟨a,xs,rfl,h1,h2⟩:=id h';cases(show v=_ from h);cases r';obtain⟨t,rfl⟩:=r;obtain⟨its,_,p,_⟩:=I.list h1;exact EqAt.int_list _ t p.isList (by omega)
 |.str _,.lst ds,v,v',u,u',h,h',r,r',hn,hu=>by
  obtain⟨a,xs,rfl,h1,h2⟩:=id h';cases(show v=_ from h);cases r';obtain⟨t,rfl⟩:=r;obtain⟨its,_,p,_⟩:=I.list h1;exact EqAt.str_list _ t p.isList (by omega)
 |.non,.non,v,v',u,u',h,h',r,r',hn,hu=>by cases(show v=_ from h);cases(show v'=_ from h');exact fR r r' rfl rfl
 |.non,.bl _,v,v',u,u',h,h',r,r',hn,hu=>by cases(show v=_ from h);cases(show v'=_ from h');exact fR r r' rfl rfl
 |.non,.int _,v,v',u,u',h,h',r,r',hn,hu=>by cases(show v=_ from h);cases(show v'=_ from h');exact fR r r' rfl rfl
 |.non,.str _,v,v',u,u',h,h',r,r',hn,hu=>by cases(show v=_ from h);cases(show v'=_ from h');exact fR r r' rfl rfl
 |.bl _,.non,v,v',u,u',h,h',r,r',hn,hu=>by cases(show v=_ from h);cases(show v'=_ from h');exact fR r r' rfl rfl
 |.bl _,.bl _,v,v',u,u',h,h',r,r',hn,hu=>by cases(show v=_ from h);cases(show v'=_ from h');exact fR r r' rfl rfl
 |.bl _,.int _,v,v',u,u',h,h',r,r',hn,hu=>by cases(show v=_ from h);cases(show v'=_ from h');exact fR r r' rfl rfl
 |.bl _,.str _,v,v',u,u',h,h',r,r',hn,hu=>by cases(show v=_ from h);cases(show v'=_ from h');exact fR r r' rfl rfl
 |.int _,.non,v,v',u,u',h,h',r,r',hn,hu=>by cases(show v=_ from h);cases(show v'=_ from h');exact fR r r' rfl rfl
 |.int _,.bl _,v,v',u,u',h,h',r,r',hn,hu=>by cases(show v=_ from h);cases(show v'=_ from h');exact fR r r' rfl rfl
 |.int _,.int _,v,v',u,u',h,h',r,r',hn,hu=>by cases(show v=_ from h);cases(show v'=_ from h');exact fR r r' rfl rfl
 |.int _,.str _,v,v',u,u',h,h',r,r',hn,hu=>by cases(show v=_ from h);cases(show v'=_ from h');exact fR r r' rfl rfl
 |.str _,.non,v,v',u,u',h,h',r,r',hn,hu=>by cases(show v=_ from h);cases(show v'=_ from h');exact fR r r' rfl rfl
 |.str _,.bl _,v,v',u,u',h,h',r,r',hn,hu=>by cases(show v=_ from h);cases(show v'=_ from h');exact fR r r' rfl rfl
 |.str _,.int _,v,v',u,u',h,h',r,r',hn,hu=>by cases(show v=_ from h);cases(show v'=_ from h');exact fR r r' rfl rfl
 |.str _,.str _,v,v',u,u',h,h',r,r',hn,hu=>by cases(show v=_ from h);cases(show v'=_ from h');exact fR r r' rfl rfl
theorem Inv.B5(I:Inv X pins σ H s):∀(n:Nat)(A:Around)(d d':D)(v v':V)(u u':Value),Rep X.K H d v->Rep X.K H d' v'->RelV v u->RelV v' u'->hgt d<=n->A.units+n+1<cLine->EqAt A s u u' (eqD d d'):=by
 intro n
 induction n with
 |zero=>exact fun A d d' v v' u u' h h' r r' hn hu=>Inv.eqAt1 I A (fun m ds ds' i d d' x y u u' hm _ _ _ _ _ _ _=>absurd hm (by omega)) d d' v v' u u' h h' r r' hn hu
 |succ n ih=>
  exact fun A d d' v v' u u' h h' r r' hn hu=>Inv.eqAt1 I A (fun m ds ds' i d d' x y u u' hm hd e1 e2 rx ry ru ru'=>ih A.in1 d d' x y u u' rx ry ru ru' (by have :=pJ e1;omega) (by show A.units+1+n+1<cLine;omega)) d d' v v' u u' h h' r r' hn hu
end
end L2
namespace L2
open PySem PySem.Spec PyProof.Rows PySem.SeqAt
section
variable {X:Cx}{pins:List (Addr×Obj)}{σ:St}{H:Hp}{s:Shared}
theorem Inv.neTup(I:Inv X pins σ H s)(A:Around){ds ds':List D}{a b:Addr}{xs ys:List V}(hit:∀(i:Nat)(d d':D)(x y:V)(u u':Value),ds[i]? =some d->ds'[i]? =some d'->Rep X.K H d x->Rep X.K H d' y->RelV x u->RelV y u'->EqAt A.in1 s u u' (eqD d d'))
  (h1:SqT X.K H a xs)(h2:gE X.K H ds xs)(h1':SqT X.K H b ys)(h2':gE X.K H ds' ys)(hu:A.units<cLine):RcNeAt A s (.ref a) (.ref b) (!km ds ds'):=by
 obtain⟨its,r,p,_⟩:=I.tuple h1;obtain⟨its',r',p',_⟩:=I.tuple h1';have l1:=h2.length;have l2:=h2'.length;have l3:=r.length;have l4:=r'.length;have key:=RcNeAt.tuples (e:=fun j=>match ds[j]?,ds'[j]? with |some d,some d'=>eqD d d'|_,_=>false) p p' (A:=A) hu (fun j g1 g2=>by
  have g1':j<its.length:=by simpa using g1
  have g2':j<its'.length:=by simpa using g2
  have e1:ds[j]? =some ds[j]:=ag (by omega);have e2:ds'[j]? =some ds'[j]:=ag (by omega);show EqAt A.in1 s _ _ (match ds[j]?,ds'[j]? with |some d,some d'=>eqD d d'|_,_=>false);rw[e1,e2];obtain⟨x,hx,rx⟩:=h2.at e1;obtain⟨y,hy,ry⟩:=h2'.at e2;obtain⟨u,hu1,ru⟩:=r.get hx;obtain⟨u',hu2,ru'⟩:=r'.get hy;have q1:its.toArray[j]=u:=by have :its[j]? =some its[j]:=ag g1';rw[this]at hu1;simpa using hu1
  have q2:its'.toArray[j]=u':=by have :its'[j]? =some its'[j]:=ag g2';rw[this]at hu2;simpa using hu2
  rw[q1,q2];exact hit j _ _ x y u u' e1 e2 rx ry ru ru')
 have hs:its.toArray.size=ds.length:=by simp;omega
 have hs':its'.toArray.size=ds'.length:=by simp;omega
 rw[hs,hs']at key;have e:((az (min ds.length ds'.length)).all (fun j=>match ds[j]?,ds'[j]? with |some d,some d'=>eqD d d'|_,_=>false)&&ds.length==ds'.length)=km ds ds':=by
  by_cases hl:ds.length=ds'.length
  ·rw[<-hl,El,beq_self_eq_true,Bool.and_true]
   refine lT ds ds' _ hl fun i x y hx hy=>?_;simp only[hx,hy]
  ·rw[lS ds ds' hl,beq_eq_false_iff_ne.mpr hl,dQ]
 rw[e]at key;exact key
theorem Inv.neLst(I:Inv X pins σ H s)(A:Around){ds ds':List D}{a b:Addr}{xs ys:List V}(hit:∀(i:Nat)(d d':D)(x y:V)(u u':Value),ds[i]? =some d->ds'[i]? =some d'->Rep X.K H d x->Rep X.K H d' y->RelV x u->RelV y u'->EqAt A.in1 s u u' (eqD d d'))
  (h1:SqL X.K H a xs)(h2:gE X.K H ds xs)(h1':SqL X.K H b ys)(h2':gE X.K H ds' ys)(hu:A.units<cLine):RcNeAt A s (.ref a) (.ref b) (!km ds ds'):=by
 obtain⟨its,r,p,_⟩:=I.list h1;obtain⟨its',r',p',_⟩:=I.list h1';have l1:=h2.length;have l2:=h2'.length;have l3:=r.length;have l4:=r'.length;by_cases hl:ds.length=ds'.length
 ·have key:=RcNeAt.lists (e:=fun j=>match ds[j]?,ds'[j]? with |some d,some d'=>eqD d d'|_,_=>false) p.isList p'.isList (A:=A) (by simp;omega) hu (fun j g1 g2=>by
   have g1':j<its.length:=by simpa using g1
   have g2':j<its'.length:=by simpa using g2
   have e1:ds[j]? =some ds[j]:=ag (by omega);have e2:ds'[j]? =some ds'[j]:=ag (by omega);show EqAt A.in1 s _ _ (match ds[j]?,ds'[j]? with |some d,some d'=>eqD d d'|_,_=>false);rw[e1,e2];obtain⟨x,hx,rx⟩:=h2.at e1;obtain⟨y,hy,ry⟩:=h2'.at e2;obtain⟨u,hu1,ru⟩:=r.get hx;obtain⟨u',hu2,ru'⟩:=r'.get hy;have q1:its.toArray[j]=u:=by have :its[j]? =some its[j]:=ag g1';rw[this]at hu1;simpa using hu1
   have q2:its'.toArray[j]=u':=by have :its'[j]? =some its'[j]:=ag g2';rw[this]at hu2;simpa using hu2
   rw[q1,q2];exact hit j _ _ x y u u' e1 e2 rx ry ru ru')
  have hs:its.toArray.size=ds.length:=by simp;omega
  rw[hs,lT ds ds' _ hl fun i x y hx hy=>by simp only[hx,hy]]at key;exact key
 ·have key:=RcNeAt.lists_lengths p.isList p'.isList (A:=A) (by simp;omega) hu
  rw[lS ds ds' hl];exact key
theorem Inv.rcD(I:Inv X pins σ H s)(A:Around):∀(d d':D)(v v':V)(u u':Value),Rep X.K H d v->Rep X.K H d' v'->RelV v u->RelV v' u'->A.units+hgt d+1<cLine->RcAt A s u u' (eqD d d')
 |.non,.non,v,v',u,u',h,h',r,r',hu=>by cases(show v=_ from h);cases r;cases(show v'=_ from h');cases r';exact RcAt.none_none
 |.non,.bl w2,v,v',u,u',h,h',r,r',hu=>by cases(show v=_ from h);cases r;cases(show v'=_ from h');cases r';exact RcAt.none_bool _
 |.non,.int w2,v,v',u,u',h,h',r,r',hu=>by cases(show v=_ from h);cases r;cases(show v'=_ from h');obtain⟨t',rfl⟩:=r';exact RcAt.none_int _ t'
 |.non,.str w2,v,v',u,u',h,h',r,r',hu=>by cases(show v=_ from h);cases r;cases(show v'=_ from h');obtain⟨t',rfl⟩:=r';exact RcAt.none_str _ t'
 |.non,.tup ds',v,v',u,u',h,h',r,r',hu=>by cases(show v=_ from h);cases r;obtain⟨b,ys,rfl,h1',h2'⟩:=id h';cases r';obtain⟨its',_,p',_⟩:=I.tuple h1';exact RcAt.none_tuple p' (by omega)
 |.non,.lst ds',v,v',u,u',h,h',r,r',hu=>by cases(show v=_ from h);cases r;obtain⟨b,ys,rfl,h1',h2'⟩:=id h';cases r';obtain⟨its',_,p',_⟩:=I.list h1';exact RcAt.none_list p'.isList (by omega)
 |.bl w1,.non,v,v',u,u',h,h',r,r',hu=>by cases(show v=_ from h);cases r;cases(show v'=_ from h');cases r';exact RcAt.bool_none _
 |.bl w1,.bl w2,v,v',u,u',h,h',r,r',hu=>by cases(show v=_ from h);cases r;cases(show v'=_ from h');cases r';exact RcAt.bool_bool _ _
 |.bl w1,.int w2,v,v',u,u',h,h',r,r',hu=>by cases(show v=_ from h);cases r;cases(show v'=_ from h');obtain⟨t',rfl⟩:=r';exact RcAt.bool_int _ _ t'
 |.bl w1,.str w2,v,v',u,u',h,h',r,r',hu=>by cases(show v=_ from h);cases r;cases(show v'=_ from h');obtain⟨t',rfl⟩:=r';exact RcAt.bool_str _ _ t'
 |.bl w1,.tup ds',v,v',u,u',h,h',r,r',hu=>by cases(show v=_ from h);cases r;obtain⟨b,ys,rfl,h1',h2'⟩:=id h';cases r';obtain⟨its',_,p',_⟩:=I.tuple h1';exact RcAt.bool_tuple _ p' (by omega)
 |.bl w1,.lst ds',v,v',u,u',h,h',r,r',hu=>by cases(show v=_ from h);cases r;obtain⟨b,ys,rfl,h1',h2'⟩:=id h';cases r';obtain⟨its',_,p',_⟩:=I.list h1';exact RcAt.bool_list _ p'.isList (by omega)
 |.int w1,.non,v,v',u,u',h,h',r,r',hu=>by cases(show v=_ from h);obtain⟨t,rfl⟩:=r;cases(show v'=_ from h');cases r';exact RcAt.int_none _ t
 |.int w1,.bl w2,v,v',u,u',h,h',r,r',hu=>by cases(show v=_ from h);obtain⟨t,rfl⟩:=r;cases(show v'=_ from h');cases r';exact RcAt.int_bool _ t _
 |.int w1,.int w2,v,v',u,u',h,h',r,r',hu=>by cases(show v=_ from h);obtain⟨t,rfl⟩:=r;cases(show v'=_ from h');obtain⟨t',rfl⟩:=r';exact RcAt.int_int _ t _ t'
 |.int w1,.str w2,v,v',u,u',h,h',r,r',hu=>by cases(show v=_ from h);obtain⟨t,rfl⟩:=r;cases(show v'=_ from h');obtain⟨t',rfl⟩:=r';exact RcAt.int_str _ t _ t'
 |.int w1,.tup ds',v,v',u,u',h,h',r,r',hu=>by cases(show v=_ from h);obtain⟨t,rfl⟩:=r;obtain⟨b,ys,rfl,h1',h2'⟩:=id h';cases r';obtain⟨its',_,p',_⟩:=I.tuple h1';exact RcAt.int_tuple _ t p' (by omega)
 |.int w1,.lst ds',v,v',u,u',h,h',r,r',hu=>by cases(show v=_ from h);obtain⟨t,rfl⟩:=r;obtain⟨b,ys,rfl,h1',h2'⟩:=id h';cases r';obtain⟨its',_,p',_⟩:=I.list h1';exact RcAt.int_list _ t p'.isList (by omega)
 |.str w1,.non,v,v',u,u',h,h',r,r',hu=>by cases(show v=_ from h);obtain⟨t,rfl⟩:=r;cases(show v'=_ from h');cases r';exact RcAt.str_none _ t
 |.str w1,.bl w2,v,v',u,u',h,h',r,r',hu=>by cases(show v=_ from h);obtain⟨t,rfl⟩:=r;cases(show v'=_ from h');cases r';exact RcAt.str_bool _ t _
 |.str w1,.int w2,v,v',u,u',h,h',r,r',hu=>by cases(show v=_ from h);obtain⟨t,rfl⟩:=r;cases(show v'=_ from h');obtain⟨t',rfl⟩:=r';exact RcAt.str_int _ t _ t'
 |.str w1,.str w2,v,v',u,u',h,h',r,r',hu=>by cases(show v=_ from h);obtain⟨t,rfl⟩:=r;cases(show v'=_ from h');obtain⟨t',rfl⟩:=r';exact RcAt.str_str _ t _ t'
 |.str w1,.tup ds',v,v',u,u',h,h',r,r',hu=>by cases(show v=_ from h);obtain⟨t,rfl⟩:=r;obtain⟨b,ys,rfl,h1',h2'⟩:=id h';cases r';obtain⟨its',_,p',_⟩:=I.tuple h1';exact RcAt.str_tuple _ t p' (by omega)
 |.str w1,.lst ds',v,v',u,u',h,h',r,r',hu=>by cases(show v=_ from h);obtain⟨t,rfl⟩:=r;obtain⟨b,ys,rfl,h1',h2'⟩:=id h';cases r';obtain⟨its',_,p',_⟩:=I.list h1';exact RcAt.str_list _ t p'.isList (by omega)
 |.tup ds,.non,v,v',u,u',h,h',r,r',hu=>by obtain⟨a,xs,rfl,h1,h2⟩:=id h;cases r;cases(show v'=_ from h');cases r';obtain⟨its,_,p,_⟩:=I.tuple h1;exact RcAt.tuple_none p (by omega)
 |.tup ds,.bl w2,v,v',u,u',h,h',r,r',hu=>by obtain⟨a,xs,rfl,h1,h2⟩:=id h;cases r;cases(show v'=_ from h');cases r';obtain⟨its,_,p,_⟩:=I.tuple h1;exact RcAt.tuple_bool _ p (by omega)
 |.tup ds,.int w2,v,v',u,u',h,h',r,r',hu=>by obtain⟨a,xs,rfl,h1,h2⟩:=id h;cases r;cases(show v'=_ from h');obtain⟨t',rfl⟩:=r';obtain⟨its,_,p,_⟩:=I.tuple h1;exact RcAt.tuple_int _ t' p (by omega)
 |.tup ds,.str w2,v,v',u,u',h,h',r,r',hu=>by obtain⟨a,xs,rfl,h1,h2⟩:=id h;cases r;cases(show v'=_ from h');obtain⟨t',rfl⟩:=r';obtain⟨its,_,p,_⟩:=I.tuple h1;exact RcAt.tuple_str _ t' p (by omega)
 |.tup ds,.tup ds',v,v',u,u',h,h',r,r',hu=>by obtain⟨a,xs,rfl,h1,h2⟩:=id h;cases r;obtain⟨b,ys,rfl,h1',h2'⟩:=id h';cases r';rw[eqD];exact Inv.rcTup I A (fun i d d' x y u u' e1 e2 rx ry ru ru'=>Inv.B5 I (fF ds) A.in1 d d' x y u u' rx ry ru ru' (pJ e1) (by rw[hgt]at hu;show A.units+1+fF ds+1<cLine;omega)) h1 h2 h1' h2' (by omega)
 |.tup ds,.lst ds',v,v',u,u',h,h',r,r',hu=>by obtain⟨a,xs,rfl,h1,h2⟩:=id h;cases r;obtain⟨b,ys,rfl,h1',h2'⟩:=id h';cases r';obtain⟨its,_,p,_⟩:=I.tuple h1;obtain⟨its',_,p',_⟩:=I.list h1';exact RcAt.tuple_list p p'.isList (by omega)
 |.lst ds,.non,v,v',u,u',h,h',r,r',hu=>by obtain⟨a,xs,rfl,h1,h2⟩:=id h;cases r;cases(show v'=_ from h');cases r';obtain⟨its,_,p,_⟩:=I.list h1;exact RcAt.list_none p.isList (by omega)
 |.lst ds,.bl w2,v,v',u,u',h,h',r,r',hu=>by obtain⟨a,xs,rfl,h1,h2⟩:=id h;cases r;cases(show v'=_ from h');cases r';obtain⟨its,_,p,_⟩:=I.list h1;exact RcAt.list_bool _ p.isList (by omega)
 |.lst ds,.int w2,v,v',u,u',h,h',r,r',hu=>by obtain⟨a,xs,rfl,h1,h2⟩:=id h;cases r;cases(show v'=_ from h');obtain⟨t',rfl⟩:=r';obtain⟨its,_,p,_⟩:=I.list h1;exact RcAt.list_int _ t' p.isList (by omega)
 |.lst ds,.str w2,v,v',u,u',h,h',r,r',hu=>by obtain⟨a,xs,rfl,h1,h2⟩:=id h;cases r;cases(show v'=_ from h');obtain⟨t',rfl⟩:=r';obtain⟨its,_,p,_⟩:=I.list h1;exact RcAt.list_str _ t' p.isList (by omega)
 |.lst ds,.tup ds',v,v',u,u',h,h',r,r',hu=>by obtain⟨a,xs,rfl,h1,h2⟩:=id h;cases r;obtain⟨b,ys,rfl,h1',h2'⟩:=id h';cases r';obtain⟨its,_,p,_⟩:=I.list h1;obtain⟨its',_,p',_⟩:=I.tuple h1';exact RcAt.list_tuple p.isList p' (by omega)
 |.lst ds,.lst ds',v,v',u,u',h,h',r,r',hu=>by obtain⟨a,xs,rfl,h1,h2⟩:=id h;cases r;obtain⟨b,ys,rfl,h1',h2'⟩:=id h';cases r';rw[eqD];exact Inv.rcLst I A (fun i d d' x y u u' e1 e2 rx ry ru ru'=>Inv.B5 I (fF ds) A.in1 d d' x y u u' rx ry ru ru' (pJ e1) (by rw[hgt]at hu;show A.units+1+fF ds+1<cLine;omega)) h1 h2 h1' h2' (by omega)
theorem Inv.rcNeD(I:Inv X pins σ H s)(A:Around):∀(d d':D)(v v':V)(u u':Value),Rep X.K H d v->Rep X.K H d' v'->RelV v u->RelV v' u'->A.units+hgt d+1<cLine->RcNeAt A s u u' (!eqD d d')
 |.non,.non,v,v',u,u',h,h',r,r',hu=>by cases(show v=_ from h);cases r;cases(show v'=_ from h');cases r';exact RcNeAt.none_none
 |.non,.bl w2,v,v',u,u',h,h',r,r',hu=>by cases(show v=_ from h);cases r;cases(show v'=_ from h');cases r';exact RcNeAt.none_bool _
 |.non,.int w2,v,v',u,u',h,h',r,r',hu=>by cases(show v=_ from h);cases r;cases(show v'=_ from h');obtain⟨t',rfl⟩:=r';exact RcNeAt.none_int _ t'
 |.non,.str w2,v,v',u,u',h,h',r,r',hu=>by cases(show v=_ from h);cases r;cases(show v'=_ from h');obtain⟨t',rfl⟩:=r';exact RcNeAt.none_str _ t'
 |.non,.tup ds',v,v',u,u',h,h',r,r',hu=>by cases(show v=_ from h);cases r;obtain⟨b,ys,rfl,h1',h2'⟩:=id h';cases r';obtain⟨its',_,p',_⟩:=I.tuple h1';exact RcNeAt.none_tuple p' (by omega)
 |.non,.lst ds',v,v',u,u',h,h',r,r',hu=>by cases(show v=_ from h);cases r;obtain⟨b,ys,rfl,h1',h2'⟩:=id h';cases r';obtain⟨its',_,p',_⟩:=I.list h1';exact RcNeAt.none_list p'.isList (by omega)
 |.bl w1,.non,v,v',u,u',h,h',r,r',hu=>by cases(show v=_ from h);cases r;cases(show v'=_ from h');cases r';exact RcNeAt.bool_none _
 |.bl w1,.bl w2,v,v',u,u',h,h',r,r',hu=>by cases(show v=_ from h);cases r;cases(show v'=_ from h');cases r';exact RcNeAt.bool_bool _ _
 |.bl w1,.int w2,v,v',u,u',h,h',r,r',hu=>by cases(show v=_ from h);cases r;cases(show v'=_ from h');obtain⟨t',rfl⟩:=r';exact RcNeAt.bool_int _ _ t'
 |.bl w1,.str w2,v,v',u,u',h,h',r,r',hu=>by cases(show v=_ from h);cases r;cases(show v'=_ from h');obtain⟨t',rfl⟩:=r';exact RcNeAt.bool_str _ _ t'
 |.bl w1,.tup ds',v,v',u,u',h,h',r,r',hu=>by cases(show v=_ from h);cases r;obtain⟨b,ys,rfl,h1',h2'⟩:=id h';cases r';obtain⟨its',_,p',_⟩:=I.tuple h1';exact RcNeAt.bool_tuple _ p' (by omega)
 |.bl w1,.lst ds',v,v',u,u',h,h',r,r',hu=>by cases(show v=_ from h);cases r;obtain⟨b,ys,rfl,h1',h2'⟩:=id h';cases r';obtain⟨its',_,p',_⟩:=I.list h1';exact RcNeAt.bool_list _ p'.isList (by omega)
 |.int w1,.non,v,v',u,u',h,h',r,r',hu=>by cases(show v=_ from h);obtain⟨t,rfl⟩:=r;cases(show v'=_ from h');cases r';exact RcNeAt.int_none _ t
 |.int w1,.bl w2,v,v',u,u',h,h',r,r',hu=>by cases(show v=_ from h);obtain⟨t,rfl⟩:=r;cases(show v'=_ from h');cases r';exact RcNeAt.int_bool _ t _
 |.int w1,.int w2,v,v',u,u',h,h',r,r',hu=>by cases(show v=_ from h);obtain⟨t,rfl⟩:=r;cases(show v'=_ from h');obtain⟨t',rfl⟩:=r';exact RcNeAt.int_int _ t _ t'
 |.int w1,.str w2,v,v',u,u',h,h',r,r',hu=>by cases(show v=_ from h);obtain⟨t,rfl⟩:=r;cases(show v'=_ from h');obtain⟨t',rfl⟩:=r';exact RcNeAt.int_str _ t _ t'
 |.int w1,.tup ds',v,v',u,u',h,h',r,r',hu=>by cases(show v=_ from h);obtain⟨t,rfl⟩:=r;obtain⟨b,ys,rfl,h1',h2'⟩:=id h';cases r';obtain⟨its',_,p',_⟩:=I.tuple h1';exact RcNeAt.int_tuple _ t p' (by omega)
 |.int w1,.lst ds',v,v',u,u',h,h',r,r',hu=>by cases(show v=_ from h);obtain⟨t,rfl⟩:=r;obtain⟨b,ys,rfl,h1',h2'⟩:=id h';cases r';obtain⟨its',_,p',_⟩:=I.list h1';exact RcNeAt.int_list _ t p'.isList (by omega)
 |.str w1,.non,v,v',u,u',h,h',r,r',hu=>by cases(show v=_ from h);obtain⟨t,rfl⟩:=r;cases(show v'=_ from h');cases r';exact RcNeAt.str_none _ t
 |.str w1,.bl w2,v,v',u,u',h,h',r,r',hu=>by cases(show v=_ from h);obtain⟨t,rfl⟩:=r;cases(show v'=_ from h');cases r';exact RcNeAt.str_bool _ t _
 |.str w1,.int w2,v,v',u,u',h,h',r,r',hu=>by cases(show v=_ from h);obtain⟨t,rfl⟩:=r;cases(show v'=_ from h');obtain⟨t',rfl⟩:=r';exact RcNeAt.str_int _ t _ t'
 |.str w1,.str w2,v,v',u,u',h,h',r,r',hu=>by cases(show v=_ from h);obtain⟨t,rfl⟩:=r;cases(show v'=_ from h');obtain⟨t',rfl⟩:=r';exact RcNeAt.str_str _ t _ t'
 |.str w1,.tup ds',v,v',u,u',h,h',r,r',hu=>by cases(show v=_ from h);obtain⟨t,rfl⟩:=r;obtain⟨b,ys,rfl,h1',h2'⟩:=id h';cases r';obtain⟨its',_,p',_⟩:=I.tuple h1';exact RcNeAt.str_tuple _ t p' (by omega)
 |.str w1,.lst ds',v,v',u,u',h,h',r,r',hu=>by cases(show v=_ from h);obtain⟨t,rfl⟩:=r;obtain⟨b,ys,rfl,h1',h2'⟩:=id h';cases r';obtain⟨its',_,p',_⟩:=I.list h1';exact RcNeAt.str_list _ t p'.isList (by omega)
 |.tup ds,.non,v,v',u,u',h,h',r,r',hu=>by obtain⟨a,xs,rfl,h1,h2⟩:=id h;cases r;cases(show v'=_ from h');cases r';obtain⟨its,_,p,_⟩:=I.tuple h1;exact RcNeAt.tuple_none p (by omega)
 |.tup ds,.bl w2,v,v',u,u',h,h',r,r',hu=>by obtain⟨a,xs,rfl,h1,h2⟩:=id h;cases r;cases(show v'=_ from h');cases r';obtain⟨its,_,p,_⟩:=I.tuple h1;exact RcNeAt.tuple_bool _ p (by omega)
 |.tup ds,.int w2,v,v',u,u',h,h',r,r',hu=>by obtain⟨a,xs,rfl,h1,h2⟩:=id h;cases r;cases(show v'=_ from h');obtain⟨t',rfl⟩:=r';obtain⟨its,_,p,_⟩:=I.tuple h1;exact RcNeAt.tuple_int _ t' p (by omega)
 |.tup ds,.str w2,v,v',u,u',h,h',r,r',hu=>by obtain⟨a,xs,rfl,h1,h2⟩:=id h;cases r;cases(show v'=_ from h');obtain⟨t',rfl⟩:=r';obtain⟨its,_,p,_⟩:=I.tuple h1;exact RcNeAt.tuple_str _ t' p (by omega)
 |.tup ds,.tup ds',v,v',u,u',h,h',r,r',hu=>by obtain⟨a,xs,rfl,h1,h2⟩:=id h;cases r;obtain⟨b,ys,rfl,h1',h2'⟩:=id h';cases r';rw[eqD];exact Inv.neTup I A (fun i d d' x y u u' e1 e2 rx ry ru ru'=>Inv.B5 I (fF ds) A.in1 d d' x y u u' rx ry ru ru' (pJ e1) (by rw[hgt]at hu;show A.units+1+fF ds+1<cLine;omega)) h1 h2 h1' h2' (by omega)
 |.tup ds,.lst ds',v,v',u,u',h,h',r,r',hu=>by obtain⟨a,xs,rfl,h1,h2⟩:=id h;cases r;obtain⟨b,ys,rfl,h1',h2'⟩:=id h';cases r';obtain⟨its,_,p,_⟩:=I.tuple h1;obtain⟨its',_,p',_⟩:=I.list h1';exact RcNeAt.tuple_list p p'.isList (by omega)
 |.lst ds,.non,v,v',u,u',h,h',r,r',hu=>by obtain⟨a,xs,rfl,h1,h2⟩:=id h;cases r;cases(show v'=_ from h');cases r';obtain⟨its,_,p,_⟩:=I.list h1;exact RcNeAt.list_none p.isList (by omega)
 |.lst ds,.bl w2,v,v',u,u',h,h',r,r',hu=>by obtain⟨a,xs,rfl,h1,h2⟩:=id h;cases r;cases(show v'=_ from h');cases r';obtain⟨its,_,p,_⟩:=I.list h1;exact RcNeAt.list_bool _ p.isList (by omega)
 |.lst ds,.int w2,v,v',u,u',h,h',r,r',hu=>by obtain⟨a,xs,rfl,h1,h2⟩:=id h;cases r;cases(show v'=_ from h');obtain⟨t',rfl⟩:=r';obtain⟨its,_,p,_⟩:=I.list h1;exact RcNeAt.list_int _ t' p.isList (by omega)
 |.lst ds,.str w2,v,v',u,u',h,h',r,r',hu=>by obtain⟨a,xs,rfl,h1,h2⟩:=id h;cases r;cases(show v'=_ from h');obtain⟨t',rfl⟩:=r';obtain⟨its,_,p,_⟩:=I.list h1;exact RcNeAt.list_str _ t' p.isList (by omega)
 |.lst ds,.tup ds',v,v',u,u',h,h',r,r',hu=>by obtain⟨a,xs,rfl,h1,h2⟩:=id h;cases r;obtain⟨b,ys,rfl,h1',h2'⟩:=id h';cases r';obtain⟨its,_,p,_⟩:=I.list h1;obtain⟨its',_,p',_⟩:=I.tuple h1';exact RcNeAt.list_tuple p.isList p' (by omega)
 |.lst ds,.lst ds',v,v',u,u',h,h',r,r',hu=>by obtain⟨a,xs,rfl,h1,h2⟩:=id h;cases r;obtain⟨b,ys,rfl,h1',h2'⟩:=id h';cases r';rw[eqD];exact Inv.neLst I A (fun i d d' x y u u' e1 e2 rx ry ru ru'=>Inv.B5 I (fF ds) A.in1 d d' x y u u' rx ry ru ru' (pJ e1) (by rw[hgt]at hu;show A.units+1+fF ds+1<cLine;omega)) h1 h2 h1' h2' (by omega)
noncomputable def rEqD(K:ae):R2:=fun x y H Q=>∃d d',Rep K H d x/\Rep K H d' y/\hgt d<=30/\Q (.bl (eqD d d')) H
noncomputable def rNeD(K:ae):R2:=fun x y H Q=>∃d d',Rep K H d x/\Rep K H d' y/\hgt d<=30/\Q (.bl (!eqD d d')) H
theorem op_eqD(hu:X.A.units+40<cLine):OpR X (cY .Eq) (rEqD X.K):=by
 intro pins s σ H x y v u Q I rx ry h;obtain⟨d,d',h1,h2,hd,q⟩:=h;exact I.rcD X.A d d' x y v u h1 h2 rx ry (by omega) _ _ _ _ (sL I q rfl)
theorem op_neD(hu:X.A.units+40<cLine):OpR X (cY .NotEq) (rNeD X.K):=by
 intro pins s σ H x y v u Q I rx ry h;obtain⟨d,d',h1,h2,hd,q⟩:=h;exact I.rcNeD X.A d d' x y v u h1 h2 rx ry (by omega) _ _ _ _ (sL I q rfl)
end
end L2
namespace Q
open PySem PySem.W PyProof.Rows
noncomputable def run{α:Type}(lt:Nat->Nat->Bool):KasT α->α
 |.ret a=>a
 |.ask i j k=>run lt (k (lt i j))
theorem run_bind{α β:Type}(lt:Nat->Nat->Bool)(f:α->KasT β):∀t:KasT α,run lt (t.bind f)=run lt (f (run lt t))
 |.ret a=>rfl
 |.ask i j k=>run_bind lt f (k (lt i j))
noncomputable def okT{α:Type}(lt:Nat->Nat->Bool)(n:Nat):KasT α->Prop
 |.ret _=>True
 |.ask i j k=>(i<n/\j<n/\i≠j)/\okT lt n (k (lt i j))
theorem mi{α β:Type}{lt:Nat->Nat->Bool}{n:Nat}{f:α->KasT β}:∀{t:KasT α},okT lt n t->okT lt n (f (run lt t))->okT lt n (t.bind f)
 |.ret a,_,h=>h
 |.ask i j k,h,h'=>⟨h.1,mi h.2 h'⟩
structure Tot(lt:Nat->Nat->Bool)(n:Nat):Prop where
 tri:∀i j,i<n->j<n->i≠j->lt i j= !lt j i
 tr:∀i j k,i<n->j<n->k<n->lt i j=true->lt j k=true->lt i k=true
noncomputable abbrev at'(p:Array Nat)(i:Nat):Nat:=p.getD i 0
theorem Cj(p:Array Nat)(i:Nat):at' p i=(p[i]?).getD 0:=by simp[at',Array.getD_eq_getD_getElem?]
structure Pm(p:Array Nat)(n:Nat):Prop where
 perm:p.Perm (az n).toArray
theorem Pm.size{p:Array Nat}{n:Nat}(h:Pm p n):p.size=n:=by rw[h.perm.size_eq];simp
theorem Pm.lt{p:Array Nat}{n:Nat}(h:Pm p n){i:Nat}(hi:i<n):at' p i<n:=by
 have hs:i<p.size:=by rw[h.size];exact hi
 have e:at' p i=p[i]:=by simp[at',hs]
 have m:p[i]∈(az n).toArray:=h.perm.mem_iff.mp (Array.getElem_mem hs);rw[e];simpa using m
theorem Pm.inj{p:Array Nat}{n:Nat}(h:Pm p n){i j:Nat}(hi:i<n)(hj:j<n)(e:at' p i=at' p j):i=j:=by
 have hsi:i<p.size:=by rw[h.size];exact hi
 have hsj:j<p.size:=by rw[h.size];exact hj
 have nd:p.toList.Nodup:=by
  have q:p.toList.Perm (az n):=by simpa using gc.mp h.perm
  exact q.nodup_iff.mpr List.nodup_range
 have e1:at' p i=p.toList[i]'(by simpa using hsi):=by simp[at',hsi]
 have e2:at' p j=p.toList[j]'(by simpa using hsj):=by simp[at',hsj]
 rw[e1,e2]at e;exact(fk nd).mp e
theorem HD{p:Array Nat}{i j:Nat}(hj:j<=p.size)(k:Nat):at' (xH p i j) k=if i<=k/\k<j then at' p (i+j-1-k)else at' p k:=by
 rw[Cj];unfold xH;rw[getElem?_mirror_all hj];split <;>rw[Cj]
theorem HE{p:Array Nat}{src d:Nat}(hs:src<p.size)(hd:d<=src)(k:Nat):at' (bubble p src d) k=if k=src-d then at' p src else if src-d<k/\k<=src then at' p (k-1)else at' p k:=by
 rw[Cj,getElem?_bubble hs d hd];split
 ·simp[at',hs]
 ·split <;>rw[Cj]
theorem Pm.rev{p:Array Nat}{n i j:Nat}(h:Pm p n):Pm (xH p i j) n:=⟨(mirror_perm _ _ _ _).trans h.perm⟩
theorem Pm.bub{p:Array Nat}{n i j:Nat}(h:Pm p n):Pm (bubble p i j) n:=⟨(bubble_perm _ _ _).trans h.perm⟩
noncomputable def Up(lt:Nat->Nat->Bool)(p:Array Nat)(m:Nat):Prop:=∀i j,i<j->j<m->lt (at' p i) (at' p j)=true
noncomputable def Dn(lt:Nat->Nat->Bool)(p:Array Nat)(m:Nat):Prop:=∀i j,i<j->j<m->lt (at' p j) (at' p i)=true
section
variable {lt:Nat->Nat->Bool}{N:Nat}{p:Array Nat}
theorem Tot.flip(T:Tot lt N)(P:Pm p N){i j:Nat}(hi:i<N)(hj:j<N)(n:i≠j)(h:lt (at' p i) (at' p j)=false):lt (at' p j) (at' p i)=true:=by
 have q:=T.tri _ _ (P.lt hi) (P.lt hj) fun e=>n (P.inj hi hj e);rw[h]at q;simpa using q.symm
theorem Pm.ask{p:Array Nat}(P:Pm p N){i j:Nat}(hi:i<N)(hj:j<N)(n:i≠j):at' p i<N/\at' p j<N/\at' p i≠at' p j:=⟨P.lt hi,P.lt hj,fun e=>n (P.inj hi hj e)⟩
theorem Up.succ(T:Tot lt N)(P:Pm p N){n:Nat}(h1:1<=n)(hn:n<N)(u:Up lt p n)(h:lt (at' p (n-1)) (at' p n)=true):Up lt p (n+1):=by
 intro i j hij hj;by_cases e:j=n
 ·subst e
  by_cases e2:i=j-1
  ·subst e2;exact h
  ·exact T.tr _ _ _ (P.lt (by omega)) (P.lt (by omega)) (P.lt hn) (u i (j-1) (by omega) (by omega)) h
 ·exact u i j hij (by omega)
theorem Dn.succ(T:Tot lt N)(P:Pm p N){n:Nat}(h1:1<=n)(hn:n<N)(u:Dn lt p n)(h:lt (at' p n) (at' p (n-1))=true):Dn lt p (n+1):=by
 intro i j hij hj;by_cases e:j=n
 ·subst e
  by_cases e2:i=j-1
  ·subst e2;exact h
  ·exact T.tr _ _ _ (P.lt hn) (P.lt (by omega)) (P.lt (by omega)) h (u i (j-1) (by omega) (by omega))
 ·exact u i j hij (by omega)
theorem wo(T:Tot lt N)(P:Pm p N):∀(f n:Nat),1<=n->n+f<=N->Up lt p n->∃m,run lt (kas_asc p f n)=m/\n<=m/\m<=n+f/\Up lt p m/\(m=n+f\/lt (at' p m) (at' p (m-1))=true)/\okT lt N (kas_asc p f n)
 | 0,n,h1,h2,u=>⟨n,rfl,aw _,aw _,u,.inl rfl,trivial⟩
 |f+1,n,h1,h2,u=>by
  unfold kas_asc;have hask:=P.ask (i:=n) (j:=n-1) (by omega) (by omega) (by omega);simp only[run,okT];by_cases c:lt (at' p n) (at' p (n-1))=true
  ·rw[if_pos c]
   exact⟨n,rfl,aw _,by omega,u,.inr c,hask,trivial⟩
  ·rw[if_neg c]
   have c':lt (at' p n) (at' p (n-1))=false:=by simpa using c
   obtain⟨m,e,a1,a2,a3,a4,a5⟩:=wo T P f (n+1) (by omega) (by omega) (u.succ T P h1 (by omega) (T.flip P (by omega) (by omega) (by omega) c'));refine⟨m,e,by omega,by omega,a3,?_,hask,a5⟩;rcases a4 with z|z
   ·exact .inl (by omega)
   ·exact .inr z
theorem yf(T:Tot lt N)(P:Pm p N):∀(f n:Nat),1<=n->n+f<=N->Dn lt p n->∃m,run lt (kas_desc f p n 0)=(p,m,0)/\n<=m/\m<=n+f/\Dn lt p m/\okT lt N (kas_desc f p n 0)
 | 0,n,h1,h2,u=>⟨n,rfl,aw _,aw _,u,trivial⟩
 |f+1,n,h1,h2,u=>by
  unfold kas_desc;have hask:=P.ask (i:=n) (j:=n-1) (by omega) (by omega) (by omega);have hask2:=P.ask (i:=n-1) (j:=n) (by omega) (by omega) (by omega);simp only[run,okT];by_cases c:lt (at' p n) (at' p (n-1))=true
  ·rw[if_pos c,if_neg (eD 0)]
   obtain⟨m,e,a1,a2,a3,a4⟩:=yf T P f (n+1) (by omega) (by omega) (u.succ T P h1 (by omega) c);exact⟨m,e,by omega,by omega,a3,hask,a4⟩
  ·rw[if_neg c]
   have c':lt (at' p n) (at' p (n-1))=false:=by simpa using c
   have d:=T.flip P (by omega) (by omega) (by omega) c';simp only[run,okT];rw[if_pos d];exact⟨n,rfl,aw _,by omega,u,hask,hask2,trivial⟩
theorem Fo(T:Tot lt N)(P:Pm p N){n:Nat}(h1:1<=n)(hn:n<=N)(u:Dn lt p n):∃m p',run lt (kas_tail3 n N p)=(m,p')/\1<=m/\m<=N/\Up lt p' m/\Pm p' N/\okT lt N (kas_tail3 n N p):=by
 have u':Up lt (xH p 0 n) n:=by
  intro i j hij hj;rw[HD (by rw[P.size];exact hn),HD (by rw[P.size];exact hn),if_pos ⟨bA _,by omega⟩,if_pos ⟨bA _,hj⟩];exact u _ _ (by omega) (by omega)
 obtain⟨m,e,a1,a2,a3,_,a5⟩:=wo T P.rev (N-n) n h1 (by omega) u';unfold kas_tail3;refine⟨m,xH p 0 n,?_,by omega,by omega,a3,P.rev,mi a5 trivial⟩;rw[run_bind,e];rfl
theorem wm(T:Tot lt N)(P:Pm p N){n:Nat}(hn:n+1<=N)(u:Dn lt p (n+1)):∃m p',run lt (iY n N p)=(m,p')/\1<=m/\m<=N/\Up lt p' m/\Pm p' N/\okT lt N (iY n N p):=by
 obtain⟨m,e,a1,a2,a3,a4⟩:=yf T P (N-(n+1)) (n+1) (by omega) (by omega) u;obtain⟨m2,p2,b1,b2,b3,b4,b5,b6⟩:=Fo T P (by omega) (by omega) a3;unfold iY;refine⟨m2,p2,?_,b2,b3,b4,b5,mi a4 ?_⟩
 ·rw[run_bind,e]
  exact b1
 ·rw[e]
  exact b6
theorem C8(T:Tot lt N)(P:Pm p N)(hN:1<=N):∃m p',run lt (kas_count N p)=(m,p')/\1<=m/\m<=N/\Up lt p' m/\Pm p' N/\okT lt N (kas_count N p):=by
 obtain⟨m,e,a1,a2,a3,a4,a5⟩:=wo T P (N-1) 1 (aw _) (by omega) (fun i j hij hj=>by omega);have hmid:∃m' p',run lt (if(m==N)=true then qZ (m,p)else if m>1 then KasT.ask (p.getD 0 0) (p.getD (m-1) 0) fun c=>if c=true then qZ (m,p)else iY m N (xH p 0 m)else iY m N p)=(m',p')/\1<=m'/\m'<=N/\Up lt p' m'/\Pm p' N/\
   okT lt N (if(m==N)=true then qZ (m,p)else if m>1 then KasT.ask (p.getD 0 0) (p.getD (m-1) 0) fun c=>if c=true then qZ (m,p)else iY m N (xH p 0 m)else iY m N p):=by
  by_cases c:m=N
  ·rw[if_pos (by simpa using c)]
   exact⟨m,p,rfl,a1,by omega,a3,P,trivial⟩
  ·rw[if_neg (by simpa using c)]
   by_cases d:m>1
   ·rw[if_pos d]
    simp only[run,okT];rw[if_pos (a3 0 (m-1) (by omega) (by omega))];exact⟨m,p,rfl,a1,by omega,a3,P,P.ask (by omega) (by omega) (by omega),trivial⟩
   ·rw[if_neg d]
    obtain rfl:m=1:=by omega
    rcases a4 with z|z
    ·omega
    ·exact wm T P (by omega) fun i j hij hj=>by
      obtain rfl:j=1:=by omega
      obtain rfl:i=0:=by omega
      exact z
 obtain⟨m',p',b1,b2,b3,b4,b5,b6⟩:=hmid;unfold kas_count;refine⟨m',p',?_,b2,b3,b4,b5,mi a5 ?_⟩
 ·rw[run_bind,e]
  exact b1
 ·rw[e]
  exact b6
theorem pB(T:Tot lt N)(P:Pm p N){k:Nat}(hk:k<N)(u:Up lt p k):∀(f l r:Nat),l<=r->r<=k->r-l<=f->(∀i,i<l->lt (at' p i) (at' p k)=true)->(∀i,r<=i->i<k->lt (at' p k) (at' p i)=true)->
  ∃q,run lt (kas_place p k f l r)=q/\q<=k/\(∀i,i<q->lt (at' p i) (at' p k)=true)/\(∀i,q<=i->i<k->lt (at' p k) (at' p i)=true)/\okT lt N (kas_place p k f l r)
 | 0,l,r,h1,h2,h3,a,b=>⟨l,rfl,by omega,a,fun i hi=>b i (by omega),trivial⟩
 |f+1,l,r,h1,h2,h3,a,b=>by
  unfold kas_place;by_cases c:l≥ r
  ·rw[if_pos c]
   exact⟨l,rfl,by omega,a,fun i hi=>b i (by omega),trivial⟩
  ·rw[if_neg c]
   have hask:=P.ask (i:=k) (j:=(l+r)/2) hk (by omega) (by omega);simp only[run,okT];by_cases d:lt (at' p k) (at' p ((l+r)/2))=true
   ·rw[if_pos d]
    have key:=pB T P hk u f l ((l+r)/2) (by omega) (by omega) (by omega) a fun i hi hik=>?_;obtain⟨q,y1,y2,y3,y4,y5⟩:=key;exact⟨q,y1,y2,y3,y4,hask,y5⟩;by_cases e:i=(l+r)/2
    ·rw[e];exact d
    ·exact T.tr _ _ _ (P.lt hk) (P.lt (by omega)) (P.lt (by omega)) d (u _ _ (by omega) hik)
   ·rw[if_neg d]
    have d':=T.flip P hk (by omega:(l+r)/2<N) (by omega) (by simpa using d);have key:=pB T P hk u f ((l+r)/2+1) r (by omega) h2 (by omega) (fun i hi=>?_) b;obtain⟨q,y1,y2,y3,y4,y5⟩:=key;exact⟨q,y1,y2,y3,y4,hask,y5⟩;by_cases e:i=(l+r)/2
    ·rw[e];exact d'
    ·exact T.tr _ _ _ (P.lt (by omega)) (P.lt (by omega)) (P.lt hk) (u _ _ (by omega) (by omega)) d'
end
theorem Br{lt:Nat->Nat->Bool}{N:Nat}(T:Tot lt N):∀(f k:Nat)(p:Array Nat),Pm p N->k+f=N->Up lt p k->∃p',run lt (kas_bin f p k)=p'/\Up lt p' N/\Pm p' N/\okT lt N (kas_bin f p k)
 | 0,k,p,P,h,u=>⟨p,rfl,by rw[<-h];exact u,P,trivial⟩
 |f+1,k,p,P,h,u=>by
  have hk:k<N:=by omega
  obtain⟨q,e,hq,a,b,okp⟩:=pB T P hk u k 0 k (bA _) (aw _) (by omega) (fun i hi=>absurd hi (fS _)) fun i h1 h2=>by omega
  have key:=Br T f (k+1) (bubble p k (k-q)) P.bub (by omega) fun i j hij hj=>?_;obtain⟨p',y1,y2,y3,y4⟩:=key;unfold kas_bin;refine⟨p',?_,y2,y3,mi okp ?_⟩
  ·rw[run_bind,e]
   exact y1
  ·rw[e]
   exact y4
  have hs:k<p.size:=by rw[P.size];exact hk
  rw[HE hs (by omega),HE hs (by omega)];have eq:k-(k-q)=q:=by omega
  rw[eq];by_cases c1:i=q
  ·rw[if_pos c1,if_neg (by omega),if_pos (by omega)]
   exact b _ (by omega) (by omega)
  ·rw[if_neg c1]
   by_cases c2:j=q
   ·rw[if_pos c2,if_neg (by omega)]
    exact a i (by omega)
   ·rw[if_neg c2]
    by_cases c3:q<i
    ·rw[if_pos (by omega),if_pos (by omega)]
     exact u _ _ (by omega) (by omega)
    ·rw[if_neg (by omega)]
     by_cases c4:q<j
     ·rw[if_pos (by omega)]
      exact u _ _ (by omega) (by omega)
     ·rw[if_neg (by omega)]
      exact u _ _ (by omega) (by omega)
theorem fO{lt:Nat->Nat->Bool}{N:Nat}(T:Tot lt N)(hN:1<=N):Pm (run lt (dz N)) N/\Up lt (run lt (dz N)) N/\okT lt N (dz N):=by
 have P0:Pm (dN (az N)) N:=⟨Array.Perm.refl _⟩;obtain⟨m,p',e,a1,a2,a3,a4,a5⟩:=C8 T P0 hN;have hm:max m 1=m:=by omega
 have hmid:∃p2,run lt (if m<N then kas_bin (N-max m 1) p' (max m 1)else qZ p')=p2/\Up lt p2 N/\Pm p2 N/\okT lt N (if m<N then kas_bin (N-max m 1) p' (max m 1)else qZ p'):=by
  rw[hm];by_cases c:m<N
  ·rw[if_pos c]
   exact Br T (N-m) m p' a4 (by omega) a3
  ·rw[if_neg c]
   have e2:m=N:=by omega
   exact⟨p',rfl,by rw[<-e2];exact a3,a4,trivial⟩
 obtain⟨p2,b1,b2,b3,b4⟩:=hmid;have er:run lt (dz N)=p2:=by
  unfold dz;rw[run_bind,e];exact b1
 rw[er];refine⟨b3,b2,?_⟩;unfold dz;refine mi a5 ?_;rw[e];exact b4
theorem wp_run{lt:Nat->Nat->Bool}{N:Nat}{S:Shared->Prop}{cmp:Nat->Nat->(Bool->Shared->Prop)->Shared->Prop}{α:Type}{G:α->Shared->Prop}
  (h:∀i j C s,i<N->j<N->i≠j->S s->(∀s',S s'->C (lt i j) s')->cmp i j C s):
  ∀(t:KasT α)(s:Shared),okT lt N t->S s->(∀s',S s'->G (run lt t) s')->t.kasWp cmp G s
 |.ret a,s,_,hs,g=>g s hs
 |.ask i j k,s,ok,hs,g=>h i j _ s ok.1.1 ok.1.2.1 ok.1.2.2 hs fun s' hs'=>wp_run h (k (lt i j)) s' ok.2 hs' g
end Q
namespace L2
open PySem PySem.Spec PyProof.Rows
structure Fly(h₀ h:Heap)(H:Hp)(pn:List (Addr×Obj))(a:Addr)(c:Value)(d:Option Addr):Prop where
 ex:∃T oe vs oT ts,h.get? a=some oe/\oe.cls=c/\oe.dict=d/\oe.data=.fields vs/\vs[1]? =some (.ref T)/\T≠a/\h.get? T=some oT/\oT.data=.fields ts/\ts[3]? =some .none/\h₀.get? T=none/\H T=none/\∀p∈pn,p.1≠T
 new:h₀.get? a=none
 un:H a=none
 pins:∀p∈pn,p.1≠a
noncomputable def CXx(P:Program)(w:World):CXT:=fun outer H s E e s'=>
 ∃a c d H',e=.ref a/\s'.os=s.os/\mE s'.gens/\Un (frs outer) [] H H' s.heap s'.heap/\HOk P w H' s'.heap/\Fly s.heap s'.heap H' [] a c d/\E c d H'
section
variable {X:Cx}{pins:List (Addr×Obj)}{σ:St}{H:Hp}{s:Shared}
theorem Inv.qN{h':Heap}{t':Nat}{it:Addr}(I:Inv X pins σ H s)(k:∀b o,b≠it->s.heap.get? b=some o->h'.get? b=some o)(hn:H it=none)(hL:it≠X.env.locals)
  (h1:X.s₀.heap.get? it=none)(h2:∀x c,X.env.cells.lookup x=some c->c≠it)(h3:∀p∈X.pn++pins,p.1≠it):Inv X pins σ H {s with heap:=h',toks:=t'}:=by
 have ne0:∀b o,X.s₀.heap.get? b=some o->b≠it:=fun b o e z=>by rw[z,h1]at e;cases e
 have nit:∀b u,H b=some u->b≠it:=fun b u e z=>by rw[z,hn]at e;cases e
 refine⟨I.ok,I.os,I.bare,⟨fun b o e n hb hx=>k b o (ne0 b o e) (I.base.keep b o e n hb hx),fun b o e n hb hx=>?_,I.base.free,fun b o e hx=>?_,I.base.tups,I.base.frzs,I.base.tbls⟩,?_,fun x c e=>?_,I.free,I.freeC,fun p hp=>?_,fun b u e=>?_,I.len⟩
 ·obtain⟨sl,q⟩:=I.base.slot b o e n hb hx
  exact⟨sl,k _ _ (ne0 b o e) q⟩
 ·obtain⟨o',q⟩:=I.base.there b o e hx
  exact⟨o',k _ _ (ne0 b o e) q⟩
 ·obtain⟨m,⟨o,es,ep,ho,r⟩,hl⟩:=I.loc
  refine⟨m,⟨o,es,ep,k _ _ (bz hL) ho,r⟩,fun i x v e1 e2 e3=>?_⟩;obtain⟨u,ru,l⟩:=hl i x v e1 e2 e3;refine⟨u,ru,?_⟩;rcases l with l|⟨kk,c,e,oc,q,dd⟩
  ·exact .inl l
  ·exact .inr ⟨kk,c,e,oc,k _ _ (h2 x c e) q,dd⟩
 ·obtain⟨v,oc,q,dd⟩:=I.cell x c e
  exact⟨v,oc,k _ _ (h2 x c e) q,dd⟩
 ·obtain⟨e,n,ne,nf,d⟩:=I.pin p hp
  exact⟨k _ _ (h3 p hp) e,n,ne,nf,d⟩
 ·refine(I.hok b u e).pv (fun c v hc q=>k c v ?_ q) (fun _ q=>q) fun _ _ q=>q
  rcases hc with z|z
  ·rw[z];exact nit b u e
  ·exact nit c _ z
theorem Inv.rQ(I:Inv X pins σ H s){a:Addr}{o:Obj}{vs:Array Value}(e:s.heap.get? a=some o)(hd:o.data=.fields vs):a≠X.env.locals/\∀x c,X.env.cells.lookup x=some c->c≠a:=by
 refine⟨fun z=>?_,fun x c hc z=>?_⟩
 ·obtain⟨m,⟨o',es,ep,ho',hd',_⟩,_⟩:=I.loc
  rw[<-z,e]at ho';cases ho';rw[hd]at hd';cases hd'
 ·obtain⟨v,o',ho',hd'⟩:=I.cell x c hc
  rw[z,e]at ho';cases ho';rw[hd]at hd';cases hd'
theorem dh.has{P:Program}{w:World}{H:Hp}{h:Heap}{a:Addr}{o:HO}(x:dh P w H h a o):∃ob,h.get? a=some ob:=by
 cases o with
 |lst xs=>obtain⟨_,_,_,_,e⟩:=x;exact⟨_,e⟩
 |tup xs=>obtain⟨_,_,_,_,e,_⟩:=x;exact⟨_,e⟩
 |dK kvs=>obtain⟨_,_,_,_,o,_,_,e,_⟩:=x;exact⟨_,e⟩
 |dT kvs=>obtain⟨_,_,_,_,o,_,_,e,_⟩:=x;exact⟨_,e⟩
 |set S n=>obtain⟨o,_,_,_,e,_⟩:=x;exact⟨_,e⟩
 |ins C dx fs=>obtain⟨_,_,_,e,_⟩:=x;exact⟨_,e⟩
 |own y=>exact x
 |xd fs=>obtain⟨_,⟨_,_,_,e,_⟩,_⟩:=x;exact⟨_,e⟩
 |rng lo hi=>obtain⟨_,_,_,e⟩:=x;exact⟨_,e⟩
 |frz ob u=>obtain⟨e,_⟩:=x;exact⟨_,e⟩
 |tbl ps=>exact⟨_,x⟩
 |met f y=>exact⟨_,x⟩
 |ext φ=>exact x.2.1
section
variable {M:Model}{E:Value->Shared->Prop}{Q:Unit->Shared->Prop}
theorem enter{a:Addr}{oe:Obj}{vs:Array Value}{head:Value}{more:Bool}(I:Inv X pins σ H s)(stk:X.stack=X.env::X.outer)(hf:X.env.frame=some X.env.locals)
  (he:s.heap.get? a=some oe)(hd:oe.data=.fields vs)(hsz:1<vs.size)(h0:X.s₀.heap.get? a=none)(hH:H a=none)(hp:∀p∈X.pn++pins,p.1≠a)
  (h:∀s2,Inv X pins σ H s2->Fly X.s₀.heap s2.heap H (X.pn++pins) a oe.cls oe.dict->Q () s2):
  wpAny M X.A (do let f<-frameOf X.env;let l<-entryPlaceOf X.env.locals more;let b<-zG head f .none (rawInt X.env.locals) .none l;qJ (.ref a) 1 b)
   (fun _ s'=>wpAny M X.A (zy (.ref a) none) Q E s') E s:=by
 have hfr:X.A.frames=some (X.env::X.outer):=by rw[<-stk];exact I.ok.frames
 have hl:s.heap.FunFrames X.base (X.env::X.outer):=by rw[<-stk];exact I.stack
 have nofr:∀b∈frs X.stack,H b=none:=I.vS;refine aa (wpAny_frameOf_fun hfr hl hf fun h1 hs=>?_);have hs':Heap.SlotsOnly (frs X.stack) s.heap h1:=by rw[stk];exact hs
 have hane:a∉frs X.stack:=fun hm=>by
  rw[stk]at hm;obtain⟨_,o,ho,hnf⟩:=hl.mem hm;rw[he]at ho;cases ho;exact hnf vs hd
 have u1:Un (frs X.stack) [] H H s.heap h1:=
  ⟨fun b o e _ hb _=>(hs'.2.1 b hb).trans e,fun b o e _ _ _=>hs'.2.2 b o e,fun _ _ _ n _=>n,fun b o e _=>let⟨sl,q⟩:=hs'.2.2 b o e;⟨_,q⟩,fun _ _ q=>q,fun _ _ _ q=>q,fun _ ps q=>⟨#[],by rw[q];simp⟩⟩
 have k1:HOk X.prog X.w H h1:=fun b u e=>by
  refine(I.hok b u e).pv (fun c v hc q=>(hs'.2.1 c fun hm=>?_).trans q) (fun _ q=>q) fun _ _ q=>q;have n:=nofr c hm;rcases hc with z|z
  ·rw[z,e]at n;cases n
  ·rw[z]at n;cases n
 have I1:Inv X pins σ H {s with heap:=h1}:=I.call (g':=s.gens) (t':=s.toks) (d':=s.drawn) (ch:=[]) u1 k1 I.bare fun _ z=>nomatch z;have he1:h1.get? a=some oe:=(hs'.2.1 a hane).trans he;refine aa (wpAny_entryPlaceOf fun pl hpl=>?_);unfold zG newFields;refine aa (bU ?_ (hpl.sizeOk5 _ _ _ _ _));generalize hob:({cls:=.type "traceback",dict:=none,data:=.fields ([head,.ref X.env.locals,.none,rawInt X.env.locals,.none]++(if pl.isEmpty then iq 6 bI else pl)).toArray}:Obj)=ob;have hodata:ob.data=.fields ([head,.ref X.env.locals,.none,rawInt X.env.locals,.none]++(if pl.isEmpty then iq 6 bI else pl)).toArray:=by rw[<-hob]
 have hofree:ob.isFreed=false:=by rw[<-hob];rfl
 have I2:Inv X pins σ H {s with heap:=h1.push ob}:=I1.kept (t':=s.toks) fun b o e=>af _ e;have he2:(h1.push ob).get? a=some oe:=af _ he1;have hT2:(h1.push ob).get? h1.objs.size=some ob:=au _ hofree;have hTa:h1.objs.size≠a:=cV (av he1);have hd3:=eK hd (·.setIfInBounds 1 (bp h1.objs.size));refine qI he2 hd hsz ?_;obtain⟨ra1,ra2⟩:=I.rQ he hd;have I3:Inv X pins σ H {s with heap:=(h1.push ob).update a (eV (·.setIfInBounds 1 (.ref h1.objs.size)))}:=
  I2.qN (t':=s.toks) (fun b o hb e=>by rw[aB _ _ (bz hb)];exact e) hH ra1 h0 ra2 hp
 have he3:=bu (eV (·.setIfInBounds 1 (bp h1.objs.size))) he2 (iQ hd3);have hT3:((h1.push ob).update a (eV (·.setIfInBounds 1 (bp h1.objs.size)))).get? h1.objs.size=some ob:=by
  rw[aB _ _ (bz hTa)];exact hT2
 have hszT:3<([head,.ref X.env.locals,.none,rawInt X.env.locals,.none]++(if pl.isEmpty then iq 6 bI else pl)).toArray.size:=by
  simp only[ay,di,bJ,jr];omega
 have hv1:(vs.setIfInBounds 1 (bp h1.objs.size))[1]? =some (.ref h1.objs.size):=by simp[hsz]
 refine wpAny_setFlight_none he3 hd3 hv1 hT3 hodata hszT ?_;have hTle:s.heap.objs.size<=h1.objs.size:=Em hs.1.symm;have hT0:X.s₀.heap.get? h1.objs.size=none:=nP (aX I.sz hTle);have hTH:H h1.objs.size=none:=I.hok.fresh hTle;obtain⟨rt1,rt2⟩:=I3.rQ hT3 hodata;have hpT:∀p∈X.pn++pins,p.1≠h1.objs.size:=fun p hq z=>by
  have q:=av (I.pin p hq).1;exact absurd (aW (z▸q) hTle) (eD _)
 have I4:=I3.qN (t':=s.toks) (h':=((h1.push ob).update a (eV (·.setIfInBounds 1 (.ref h1.objs.size)))).update h1.objs.size (eV (·.setIfInBounds 3 .none)))
  (fun b o hb e=>by rw[aB _ _ (bz hb)];exact e) hTH rt1 hT0 rt2 hpT
 refine h _ I4 ⟨⟨h1.objs.size,_,_,_,_,?_,Obj.cls_mapFields _ _,?_,hd3,hv1,hTa,bu _ hT3 (iQ (eK hodata _)),eK hodata _,?_,hT0,hTH,hpT⟩,h0,hH,hp⟩
 ·show(Heap.update _ _ _).get? a=_
  rw[aB _ _ hTa];exact he3
 ·obtain⟨c',d',dt',sl'⟩:=oe
  cases dt'<;>rfl
 ·rw[m8 hszT]
theorem yx{a:Addr}{c:Value}{args:List Value}{h':Heap}(I:Inv X pins σ H s)(stk:X.stack=X.env::X.outer)(hf:X.env.frame=some X.env.locals)(hx:X.ex=[])(hm:nQ s.heap h' a c args)
  (h:∀s2,Inv X pins σ H s2->Fly X.s₀.heap s2.heap H (X.pn++pins) a c none->Q () s2):
  wpAny M X.A (lj (.ref a) X.env) (fun _ s'=>wpAny M X.A (zy (.ref a) none) Q E s') E {s with heap:=h'}:=by
 obtain⟨t,ht,_,_⟩:=hm.there;have I1:Inv X pins σ H {s with heap:=h'}:=I.kept (t':=s.toks) hm.keeps;have hH:H a=none:=by
  cases q:H a with
  |none=>rfl
  |some o=>
   obtain⟨ob,e⟩:=(I.hok a o q).has;rw[hm.new]at e;cases e
 unfold lj;simp only[hf];refine aa (gF (x:=.none) ht rfl (by rfl) ?_);rw[if_neg (show ¬(bI != bI)=true by simp)];have h0:X.s₀.heap.get? a=none:=by
  cases q:X.s₀.heap.get? a with
  |none=>rfl
  |some o=>
   obtain⟨o',e⟩:=I.base.there a o q (by rw[hx];simp);rw[hm.new]at e;cases e
 exact enter I1 stk hf ht rfl (by simp) h0 hH (fun p hp z=>by have :=(I.pin p hp).1;rw[z,hm.new]at this;cases this) h
theorem yy{a:Addr}{c:Value}{d:Option Addr}{H':Hp}{s':Shared}(I:Inv X pins σ H s)(stk:X.stack=X.env::X.outer)(hf:X.env.frame=some X.env.locals)(hx:X.ex=[])(ho:s'.os=s.os)(hg:mE s'.gens)(u:Un (frs X.stack) [] H H' s.heap s'.heap)(ok:HOk X.prog X.w H' s'.heap)
  (F:Fly s.heap s'.heap H' [] a c d)(h:∀s2,Inv X pins σ H' s2->Fly X.s₀.heap s2.heap H' (X.pn++pins) a c d->Q () s2):
  wpAny M X.A (lj (.ref a) X.env) (fun _ s'=>wpAny M X.A (zy (.ref a) none) Q E s') E s':=by
 obtain⟨⟨T,oe,vs,oT,ts,he,rfl,rfl,hd,h1,hTa,hT,hdT,h3,hnT,hHT,_⟩,hna,hHa,_⟩:=F;have I1:Inv X pins σ H' s':=I.call' (ch:=[]) ho u ok hg fun _ z=>nomatch z;have back:∀b,s.heap.get? b=none->X.s₀.heap.get? b=none:=fun b n=>by
  cases q:X.s₀.heap.get? b with
  |none=>rfl
  |some o=>
   obtain⟨o',e⟩:=I.base.there b o q (by rw[hx];simp);rw[n]at e;cases e
 have np:∀b,s.heap.get? b=none->∀p∈X.pn++pins,p.1≠b:=fun b n p hp z=>by have :=(I.pin p hp).1;rw[z,n]at this;cases this
 unfold lj;simp only[hf];refine aa (gF he hd h1 ?_);rw[if_pos (show(bp T != bI)=true by simp)];refine aa (gF hT hdT h3 ?_);rw[if_neg (show ¬(bI==rawInt X.env.locals)=true by simp[rawInt])];refine aa (qI hT hdT (ck.mp h3).1 ?_);obtain⟨rt1,rt2⟩:=I1.rQ hT hdT;have I2:=I1.qN (t':=s'.toks) (h':=s'.heap.update T (eV (·.setIfInBounds 3 .none))) (fun b o hb e=>by rw[aB _ _ (bz hb)];exact e) hHT rt1 (back T hnT) rt2 (np T hnT);have he2:(s'.heap.update T (eV (·.setIfInBounds 3 .none))).get? a=some oe:=by rw[aB _ _ hTa];exact he
 exact enter I2 stk hf he2 hd (ck.mp h1).1 (back a hna) hHa (np a hna) h
end
end
end L2
namespace L2
open PySem PySem.Spec PySem.W PyProof.Rows
noncomputable def k7(K:ae)(C:Addr):Bool:=
 findIn K (.ref C) "__getattribute__"==some (some (.builtin "BaseException.__getattribute__"))&&findIn K (.ref C) "__getattr__"==some none&&
 findIn K (.ref C) "__class__"==some (some (.builtin "object.__class__"))&&specialIn K (.builtin "object.__class__") "__get__"==some (some (.builtin "getset_descriptor.__get__"))&&
 takesIn K (.builtin "object.__class__")==some true&&mroIn K C (.type "object")==some true&&mroIn K C (.type "BaseException")==some true&&(clsIn K C).isSome
structure tJ(K:ae)(C:Addr):Prop where
 ga:findIn K (.ref C) "__getattribute__"=some (some (.builtin "BaseException.__getattribute__"))
 hook:findIn K (.ref C) "__getattr__"=some none
 cl:findIn K (.ref C) "__class__"=some (some (.builtin "object.__class__"))
 get:specialIn K (.builtin "object.__class__") "__get__"=some (some (.builtin "getset_descriptor.__get__"))
 tk:takesIn K (.builtin "object.__class__")=some true
 obj:mroIn K C (.type "object")=some true
 bex:mroIn K C (.type "BaseException")=some true
 isc:(clsIn K C).isSome=true
theorem y6{K:ae}{C:Addr}(h:k7 K C=true):tJ K C:=by
 unfold k7 at h;simp only[ah,beq_iff_eq]at h;obtain⟨⟨⟨⟨⟨⟨⟨a,b⟩,c⟩,d⟩,e⟩,f⟩,g⟩,i⟩:=h;exact⟨a,b,c,d,e,f,g,i⟩
theorem z8:splitId "BaseException.__getattribute__"=some ("BaseException","__getattribute__"):=by decide+kernel
theorem DC:builtinKind "BaseException.__getattribute__"=some .slot:=by decide+kernel
theorem ga_ne:(gL "BaseException.__getattribute__"==gL "object.__getattribute__")=false:=by decide+kernel
section
variable {prog:Program}{w:World}{A:Around}{E:Value->Shared->Prop}{s:Shared}{K:ae}{a C:Addr}{o:Obj}{od:Option Obj}
theorem tD{M:Model}{nameV:Value}{Q:Unit->Shared->Prop}{h:Heap}{g:Array nM}{d:Drawn}{t:Nat}{os:OsState}(kin:K.In h)(J:InstAt h a o C od)(F:tJ K C)(hq:Q () ⟨h,g,d,t,os⟩):
  wpAny M A (zB "BaseException.__getattribute__" ⟨[.ref a,nameV],[]⟩) Q E ⟨h,g,d,t,os⟩:=by
 have L0:=J.type (M:=M);have L4:=looks_mroIn (M:=M) kin F.bex;have ha:=PySem.F.args_bexc_ga (.ref a) nameV;simp only[zB,DC,z8];unfold uy;repeat(first |lk|wp_step)
 exact hq
theorem D1{tk:Tok}{R:Result->Shared->Prop}(kin:K.In s.heap)(J:InstAt s.heap a o C od)(F:tJ K C)(h:R (.ok (.ret (.ref C))) s):
  fC (model prog w) A (.call (.builtin "BaseException.__getattribute__") ⟨[.ref a,.str "__class__" tk],[]⟩) R s:=by
 have hf:qV K C od "__class__"=some (.bind (.builtin "getset_descriptor.__get__") (.builtin "object.__class__")):=by
  obtain⟨cd,hc⟩:=cg.mp F.isc;unfold qV;rw[hc,eX,F.cl,eX];simp[F.get,F.tk]
 obtain⟨hh,g,d,t,os⟩:=s;have L0:=J.type (M:=model prog w);have L3:=looks_find (M:=model prog w) kin J hf;refine gJ fL.ga.plain zM (tD kin J F ?_);unfold Builtin.«object.__getattribute__»;repeat(first |with_reducible refine gG ?_ |lk|wp_step)
 refine class_get (s:=⟨hh,g,d,t,os⟩) kin J F.obj ?_;repeat(first |lk|wp_step)
 exact h
theorem DM{Q:Option Value->Shared->Prop}(kin:K.In s.heap)(J:InstAt s.heap a o C od)(F:tJ K C)(h:Q (some (.ref C)) {s with toks:=s.toks+1}):
  wpAny (model prog w) A (getAttr? (.ref a) "__class__") Q E s:=by
 obtain⟨hh,g,d,t,os⟩:=s;have L0:=J.type (M:=model prog w);have L1:=o5 (M:=model prog w) kin F.ga;have L2:=o5 (M:=model prog w) kin F.hook;have hf:qV K C od "__class__"=some (.bind (.builtin "getset_descriptor.__get__") (.builtin "object.__class__")):=by
  obtain⟨cd,hc⟩:=cg.mp F.isc;unfold qV;rw[hc,eX,F.cl,eX];simp[F.get,F.tk]
 have L3:=looks_find (M:=model prog w) kin J hf;have L4:=looks_mroIn (M:=model prog w) kin F.bex;unfold getAttr? getAttrBy? getAttrBy;refine aa (wpAny_mkText (aa (hZ (bh (aa (L0.at (aa (L1.at ?_))))))));show wpAny _ _ (if(zz (.ref C)&&(gL "BaseException.__getattribute__"==gL "object.__getattribute__"))=true then _ else _) _ _ _;rw[ga_ne,dQ,if_neg aq];unfold getAttrByItsOwn hookBefore;rw[if_pos (show zz (.ref C)=true from rfl)];refine aa (L2.at ?_);unfold callGetattribute boundAndCalled;rw[cQ,if_neg aq];refine aa (hZ (bh (aa ?_)));rw[fL.ga.bind (.ref a)];refine ai (gG (D1 (s:=⟨hh,g,d,t+1,os⟩) kin J F ?_));exact handed_on rfl (ai h)
end
abbrev bmV:List Value:=[.type "ValueError",.type "Exception",.type "BaseException",.type "object"]
noncomputable def lR(a:Addr)(c:Value)(d:Option Addr):HO:=.ext fun h=>∃o,h.get? a=some o/\o.cls=c/\o.dict=d/\notCls o=true
noncomputable abbrev excO(a:Addr)(c:Value):HO:=lR a c none
section
variable {K:ae}{a C:Addr}
theorem GN(F:tJ K C):KitX K (.ref a) (.ref C) (fun h=>∃o od,InstAt h a o C od) where
 ty:=fun M h _ p=>by obtain⟨o,od,J⟩:=p;exact J.type
 it:=fun M h kin _=>by
  obtain⟨cd,hc⟩:=cg.mp F.isc;unfold clsIn at hc;split at hc
  ·rename_i ho
   intro A Q E s k q;unfold isType loadHead;exact aa (Eb (k _ _ (kin _ _ ho)) (ai q))
  ·cases hc
 ne:=fun h tp dd its n sl kin htp=>by
  obtain⟨cd,hc⟩:=cg.mp F.isc;refine Bool.eq_false_iff.mpr fun q=>?_;obtain rfl:C=tp:=bp.inj (beq_iff_eq.mp q);unfold clsIn at hc;split at hc
  ·rename_i ho
   have z:=(kin _ _ ho).symm.trans htp;cases z
  ·cases hc
 ca:=fun kin p k=>by obtain⟨o,od,J⟩:=p;exact DM kin J F k
theorem A0{P:Program}{w:World}{H:Hp}{h:Heap}{d:Option Addr}(ok:HOk P w H h)(e:H a=some (lR a (.ref C) d))(hd:∀dd,d=some dd->∃φ,H dd=some (.ext φ)):∃o od,InstAt h a o C od:=by
 obtain⟨⟨o,e1,e2,e3,e4⟩,_⟩:=ok a _ e;cases d with
 |none=>exact⟨o,none,e1,e2,e4,by rw[e3];exact True.intro⟩
 |some dd=>
  obtain⟨u,hu⟩:=hd dd rfl;obtain⟨od,z⟩:=(ok dd _ hu).2.1;exact⟨o,some od,e1,e2,e4,by rw[e3];exact z⟩
end
section
variable {X:Cx}
theorem exc_obj{K:ae}{h:Heap}{C:Addr}{bmB:List Value}{newId:String}(kin:K.In h)(q:excIn K C bmB newId=true):
  ∃nm qn N bs bm hd sn sub ab col dd k0 k1 k2 k3 k5 mN,h.get? C=some (iC nm qn C N bs bm hd sn sub ab col dd k0 k1 k2 k3 k5 newId)/\h.Ns N mN/\mN "__init__"=none/\OwnTail h bmB bm:=by
 unfold excIn at q;split at q
 case h_2=>cases q
 rename_i od cd sl ho;split at q
 case h_2=>cases q
 rename_i C' bm j0 j1 j2 j3 n j5 hm hs;rw[ah,ah,ah,ah,ah,beq_iff_eq,beq_iff_eq,beq_iff_eq]at q;obtain⟨⟨⟨⟨⟨e1,e2⟩,e3⟩,e4⟩,e5⟩,e6⟩:=q;subst e1;subst e2;obtain⟨c1,c2,c3,c4,c5,c6,c7,c8,c9,c10,c11⟩:=cd;have e7:c3=.ref C'::bm:=hm;have e8:c11=false:=by simpa using e3
 have e9:sl= #[j0,j1,j2,j3,some (.builtin n),j5]:=by
  apply xT
  exact hs
 subst e7;subst e8;subst e9;exact⟨_,_,_,_,_,_,_,_,_,_,_,_,_,_,_,_,_,kin _ _ ho,.of_isNs (isNs_of_in kin e5),nsMap_none_of_in kin e5 e6,tail_of_in kin e4⟩
theorem FG{x:Str}{e:Expr}{es:List Expr}{t:TA}{C:Addr}{np cpos pos:Pos}{E:St->XK}(hg:Gl X x)(hm:X.mg x=some (.ref C))(hk:keepIn X.K (.ref C)=true)(hq:excIn X.K C bmV "ValueError.__new__"=true)(ha:PA X (e::es) t)(hc:X.calm=true)(hdb:(x==("__debug__":Str))=false)
  (hst:aK (e::es) X.env=(false,eval e X.env)::aK es X.env)(hpl:(backTo cpos (aK es X.env)).any (·.1)=false)
  (made:∀pins σ H s a c args h',Inv X pins σ H s->nQ s.heap h' a c args->E σ c none H->X.xe (.ref a) {s with heap:=h'}):
  PS X (.Raise (some (.Call (.Name x np) (e::es) [] cpos)) none pos) (fun D σ H=>t σ H fun vs H1=>vs.length<=sizeLine/\E σ (.ref C) none H1):=by
 intro pins s σ H D I h;obtain⟨nm,qn,N,bs,bm,hd,sn,sub,ab,col,dd,k0,k1,k2,k3,k5,mN,hC,hN,hni,T⟩:=exc_obj (bmB:=bmV) I.mod.kin hq;have hbase:bm.contains (.type "BaseException")=true:=T.hasType (by decide+kernel);rw[arm_exec_Raise];show wpAny _ _ (do xF pos;raiseStmt X.env (some (do let v<-eval (.Call (.Name x np) (e::es) [] cpos) X.env;xF pos;pure v)) none) _ _ s;refine aa (gd (wpAny_raiseStmt_made_sub (C:=C) (nm:=nm) (q:=qn) (N:=N) (bs:=bs) (bm:=bm) (hdct:=hd) (sn:=sn) (sub:=sub) (ab:=ab) (col:=col) (dd:=dd) (k0:=k0) (k1:=k1) (k2:=k2) (k3:=k3) (k5:=k5) (newId:="ValueError.__new__") hbase (I.ok.hd hc) (aa (cL (Q:=fun v s1=>∃a u,v=.ref a/\s1.heap.get? C=some (iC nm qn C N bs bm hd sn sub ab col dd k0 k1 k2 k3 k5 "ValueError.__new__")/\s1.heap.get? a=some {cls:=.ref C,data:=.fields #[.ref u,.none,.none,.none,.bool false,.none]}/\X.xe (.ref a) s1) (E:=X.xe) ?_ (fun v s1 z=>aa (gd (ai z))) fun _ _ z=>z))));refine eM (kN I hg hm ?_ hdb);refine o6 (h₀:=X.base) I.ok.mod.kin hk (thn (ha cpos pins s σ H _ I h) fun us s1 ⟨vs,H1,I1,r,hlen,q⟩=>⟨I1.kIn,?_⟩) hst hpl;have hC1:=I1.bk _ _ hC;obtain⟨hh,gg,dr,tk,os⟩:=s1;refine wpAny_call_exc_subT (hrest:=by rw[List.nil_append,<-r.length];exact hlen) jA (T.keeps I1.bk) hC1 (hN.keeps I1.bk) hni fun h' a hmk=>?_;obtain⟨u,hu,_,_⟩:=hmk.there;exact⟨a,u,rfl,hmk.keeps _ _ hC1,hu,made pins σ H1 _ a _ _ h' I1 hmk q⟩
end
noncomputable def Cx.re(X:Cx)(A:Around)(calm:Bool)(pn:List (Addr×Obj))(xe:Value->Shared->Prop):Cx:={X with A:=A,calm:=calm,pn:=pn,xe:=xe}
section
variable {X:Cx}{pins:List (Addr×Obj)}{σ:St}{H:Hp}{s:Shared}
theorem Inv.re{A:Around}{calm:Bool}{pn pins':List (Addr×Obj)}{xe:Value->Shared->Prop}(I:Inv X pins σ H s)(hA:A.frames=X.A.frames)(hc:calm=true->A.handled=none)(hp:∀p∈pn++pins',p∈X.pn++pins):
  Inv (X.re A calm pn xe) pins' σ H s:=
 ⟨⟨I.ok.mod,I.ok.kind,I.ok.glob,I.ok.blt,I.ok.above,I.ok.inj,I.ok.has,I.ok.cab,hc,hA.trans I.ok.frames,I.ok.stk,I.ok.exf,I.ok.bs,I.ok.bsz,I.ok.noex,I.ok.exfs,I.ok.sH,I.ok.frf⟩,
  I.os,I.bare,I.base,I.loc,I.cell,I.free,I.freeC,fun p q=>I.pin p (hp p q),I.hok,I.len⟩
theorem Inv.EG{A:Around}{calm:Bool}{pn pins':List (Addr×Obj)}{xe:Value->Shared->Prop}(ok:X.Ok)(I:Inv (X.re A calm pn xe) pins' σ H s)(hp:∀p∈X.pn++pins,p∈pn++pins'):Inv X pins σ H s:=
 ⟨ok,I.os,I.bare,I.base,I.loc,I.cell,I.free,I.freeC,fun p q=>I.pin p (hp p q),I.hok,I.len⟩
theorem mm{M:Model}{A:Around}{E:Value->Shared->Prop}{i:Nat}{n:Str}{pos:Pos}{Q:Unit->Shared->Prop}(I:Inv X pins σ H s)(hN:X.N.Nodup)(hi:X.N[i]? =some n)(hk:X.env.scope.names.lookup n=some .local)
  (h:∀s',Inv X pins (σ.set i none) H s'->Q () s'):wpAny M A (do bindName X.env n .none;unbindBehindTheSuite X.env n pos) Q E s:=by
 obtain⟨m,hn,hl⟩:=id I.loc;have hcls:(X.env.scope.kind== .class ||(X.env.scope.kind== .module&&X.env.locals != X.env.globals))=false:=by rw[I.ok.kind];rfl
 obtain⟨oL,_,_,hoL,_⟩:=id hn;refine wpAny_nameGoes_keeps hk hn hcls fun h' v hn' hs=>h _ ?_;have up:∀b o,X.s₀.heap.get? b=some o->b≠X.env.locals:=fun b o e=>aD (aW (av e) I.ok.above);refine⟨I.ok,I.os,I.bare,⟨fun b o e n hb hx=>(hs.2 b (up b o e)).trans (I.base.keep b o e n hb hx),fun b o e n hb hx=>?_,I.base.free,fun b o e hx=>?_,I.base.tups,I.base.frzs,I.base.tbls⟩,⟨_,hn',fun j y v' e1 e2 e3=>?_⟩,fun y c e=>?_,I.free,I.freeC,fun p hp=>?_,fun b ob e=>?_,by simpa using I.len⟩
 ·obtain⟨sl,e1⟩:=I.base.slot b o e n hb hx
  exact⟨sl,(hs.2 b (up b o e)).trans e1⟩
 ·obtain⟨o',e1⟩:=I.base.there b o e hx
  exact⟨o',(hs.2 b (up b o e)).trans e1⟩
 ·by_cases hj:j=i
  ·subst hj
   rw[List.getElem?_set]at e2;split at e2
   ·split at e2<;>cases e2
   ·exact absurd rfl (by assumption)
  ·rw[nO (bz hj)]at e2
   obtain⟨u',r',q⟩:=hl j y v' e1 e2 e3;refine⟨u',r',?_⟩;rcases q with⟨k,e⟩ |⟨k,c,e,z⟩
   ·refine .inl ⟨k,?_⟩
    have :y≠n:=fun e=>hj (rX hN e1 (e▸hi));simp[this,e]
   ·exact .inr ⟨k,c,e,z.sameBut hs (I.cne y c e)⟩
 ·obtain⟨w',z⟩:=I.cell y c e
  exact⟨w',z.sameBut hs (I.cne y c e)⟩
 ·obtain⟨e,n,ne,nf,d⟩:=I.pin p hp
  exact⟨(hs.2 p.1 ne).trans e,n,ne,nf,d⟩
 ·refine(I.hok b ob e).pv (fun c w' hc q=>(hs.2 c ?_).trans q) (fun _ q=>q) fun _ _ q=>q
  have hf:=I.free;rintro rfl;rcases hc with z|z
  ·rw[<-z,hf]at e;cases e
  ·rw[hf]at z;cases z
theorem Inv.take{a:Addr}{c:Value}{d:Option Addr}(I:Inv X pins σ H s)(hx:X.ex=[])(F:Fly X.s₀.heap s.heap H (X.pn++pins) a c d):Inv X pins σ (upd H a (lR a c d)) s:=by
 obtain⟨⟨T,oe,vs,oT,ts,he,ec,ed,hd,_⟩,hna,hHa,hp⟩:=F;obtain⟨ra1,ra2⟩:=I.rQ he hd;refine⟨I.ok,I.os,I.bare,⟨I.base.keep,I.base.slot,fun b o e n hb=>?_,I.base.there,fun b xs e=>?_,fun b o u e=>?_,fun b ps e=>?_⟩,I.loc,I.cell,?_,fun x c' e=>?_,fun p q=>?_,fun b u e=>?_,I.len⟩
 ·rw[aL (fun z=>by rw[z,hna]at e;cases e)]
  exact I.base.free b o e n hb
 ·have q:=I.base.tups b xs e
  rw[aL (bx q hHa)];exact q
 ·have q:=I.base.frzs b o u e
  rw[aL (bx q hHa)];exact q
 ·obtain⟨more,q⟩:=I.base.tbls b ps e
  exact⟨more,by rw[aL (bx q hHa)];exact q⟩
 ·rw[aL (bz ra1)]
  exact I.free
 ·rw[aL (ra2 x c' e)]
  exact I.freeC x c' e
 ·obtain⟨e,n,ne,nf,d⟩:=I.pin p q
  exact⟨e,by rw[aL (hp p q)];exact n,ne,nf,d⟩
 ·by_cases hb:b=a
  ·subst hb
   rw[ax]at e;cases e;refine⟨⟨oe,he,ec,ed,by unfold notCls;rw[hd]⟩,⟨oe,he⟩,fun h1 h2 p k=>?_⟩;obtain⟨o,e1,r⟩:=p;exact⟨o,k o e1,r⟩
  ·rw[aL hb]at e
   exact(I.hok b u e).pv (fun _ _ _ q=>q) (fun c' q=>by rw[aL (bx q hHa)];exact q) fun c' xs q=>by rw[aL (bx q hHa)];exact q
end
noncomputable def Ends.drop(D:Ends)(i:Nat):Ends:={nx:=fun σ H=>D.nx (σ.set i none) H,rt:=D.rt,bk:=fun σ H=>D.bk (σ.set i none) H,ct:=fun σ H=>D.ct (σ.set i none) H}
noncomputable def kP(K:ae)(C:Addr)(i:Nat)(ts:TS)(D:Ends):St->XK:=fun σ c d H=>
 c=c/\exmOne K c (.ref C)=some true/\∀a,H a=none->ts (D.drop i) (σ.set i (some (.ref a))) (upd H a (lR a c d))
noncomputable def i8(X:Cx)(pins:List (Addr×Obj))(D:Ends)(hs:List ExceptHandler):Value->Shared->Prop:=fun e s1=>
 wpAny (model X.prog X.w) X.A (lj e X.env) (fun _ s2=>wpAny (model X.prog X.w) X.A (zy e none) (fun _ s3=>wpAny (model X.prog X.w) X.A (handleBy e X.env hs) (SP X pins D) X.xe s3) X.xe s2) X.xe s1
section
variable {X:Cx}{pins:List (Addr×Obj)}{σ:St}{H:Hp}{s:Shared}{x n:Str}{C:Addr}{i:Nat}{b₀:Stmt}{suite:List Stmt}{np hpos pos:Pos}{ts:TS}{D:Ends}
structure zx(X:Cx)(x n:Str)(C:Addr)(i:Nat)(suite:List Stmt)(ts:TS):Prop where
 nd:X.N.Nodup
 at_:X.N[i]? =some n
 loc:X.env.scope.names.lookup n=some .local
 gl:Gl X x
 mg:X.mg x=some (.ref C)
 db:(x==("__debug__":Str))=false
 stk:X.stack=X.env::X.outer
 fr:X.env.frame=some X.env.locals
 ex:X.ex=[]
 su:∀(pins:List (Addr×Obj))(a:Addr),PSs (X.re (X.A.mark (some (.ref a))) false (X.pn++pins) (fun _ _=>False)) suite ts
theorem pN{a:Addr}{c:Value}{d:Option Addr}(O:zx X x n C i (b₀::suite) ts)(I:Inv X pins σ H s)(F:Fly X.s₀.heap s.heap H (X.pn++pins) a c d)(h:kP X.K C i ts D σ c d H):
  wpAny (model X.prog X.w) X.A (handleBy (.ref a) X.env [.ExceptHandler (some (.Name x np)) (some n) (b₀::suite) hpos]) (SP X pins D) X.xe s:=by
 obtain⟨_,hm,hk⟩:=h;obtain⟨⟨T,oe,vs,oT,tv,he,ec,ed,hd,h1,hTa,hT,hdT,h3,hnT,hHT,hpT⟩,hna,hHa,hp⟩:=F;refine wpAny_handleBy_cons (codeAny_handlers_test ?_) (by intro q;cases q);have I0:Inv (X.re (X.A.mark (some (.ref a))) false (X.pn++pins) (fun _ _=>False)) [] σ H s:=I.re rfl (fun z=>nomatch z) fun p q=>by simpa using q
 refine kN I0 O.gl O.mg ?_ O.db;have LT:Looks (model X.prog X.w) s.heap (typeOf (.ref a)) c:=ec▸(Looks.ld he).andThen .now;refine(exm_one I.kIn LT hm).here (codeAny_handlers_suite_as ?_);refine wpAny_setFlight_none he hd h1 hT hdT (ck.mp h3).1 ?_;obtain⟨rt1,rt2⟩:=I.rQ hT hdT;have I1:=I.qN (t':=s.toks) (h':=s.heap.update T (eV (·.setIfInBounds 3 .none))) (fun b o hb e=>by rw[aB _ _ (bz hb)];exact e) hHT rt1 hnT rt2 hpT;have F1:Fly X.s₀.heap (s.heap.update T (eV (·.setIfInBounds 3 .none))) H (X.pn++pins) a c d:=by
  refine⟨⟨T,oe,vs,_,_,by rw[aB _ _ hTa];exact he,ec,ed,hd,h1,hTa,bu _ hT (iQ (eK hdT _)),eK hdT _,?_,hnT,hHT,hpT⟩,hna,hHa,hp⟩;rw[m8 (ck.mp h3).1]
 have I2:=I1.take O.ex F1;refine rE I2 O.nd O.at_ (.inl O.loc) (v:=.ref a) rfl (fun s3 I3=>?_) (.inr O.loc);have I4:Inv (X.re (X.A.mark (some (.ref a))) false (X.pn++pins) (fun _ _=>False)) [] (σ.set i (some (.ref a))) (upd H a (lR a c d)) s3:=I3.re rfl (fun z=>nomatch z) fun p q=>by simpa using q
 refine cL (O.su pins a [] s3 _ _ (D.drop i) I4 (hk a hHa)) (fun f s4 q=>?_) fun _ _ z=>z.elim;have back:∀{σ':St}{H':Hp},Inv (X.re (X.A.mark (some (.ref a))) false (X.pn++pins) (fun _ _=>False)) [] σ' H' s4->Inv X pins σ' H' s4:=fun{σ' H'} J=>J.EG I.ok fun p q=>by simpa using q
 cases f with
 |next =>
  obtain⟨σ',H',J,q⟩:=q;exact mm (back J) O.nd O.at_ O.loc fun s5 J5=>⟨_,_,J5,q⟩
 |brk=>
  obtain⟨σ',H',J,q⟩:=q;exact mm (back J) O.nd O.at_ O.loc fun s5 J5=>⟨_,_,J5,q⟩
 |cont=>
  obtain⟨σ',H',J,q⟩:=q;exact mm (back J) O.nd O.at_ O.loc fun s5 J5=>⟨_,_,J5,q⟩
 |ret u=>
  obtain⟨v,σ',H',J,rv,q⟩:=q;exact mm (back J) O.nd O.at_ O.loc fun s5 J5=>⟨v,_,_,J5,rv,q⟩
theorem EI(O:zx X x n C i (b₀::suite) ts){pins':List (Addr×Obj)}{e:Value}{s':Shared}(ok:X.Ok)(hc:X.calm=true)
  (I:Inv (X.re X.A X.calm (X.pn++pins) (i8 X pins D [.ExceptHandler (some (.Name x np)) (some n) (b₀::suite) hpos])) pins' σ H s)(h:CXx X.prog X.w X.stack H s (kP X.K C i ts D σ) e s'):
  i8 X pins D [.ExceptHandler (some (.Name x np)) (some n) (b₀::suite) hpos] e s':=by
 obtain⟨a,c,d,H',rfl,ho,hg,u,hok,F,q⟩:=h;have J:Inv X pins σ H s:=I.EG ok fun p z=>dP _ z;exact yy J O.stk O.fr O.ex ho hg u hok F fun s2 I2 F2=>pN O I2 F2 q
theorem EJ(O:zx X x n C i (b₀::suite) ts){pins':List (Addr×Obj)}{a:Addr}{c:Value}{args:List Value}{h':Heap}(ok:X.Ok)
  (I:Inv (X.re X.A X.calm (X.pn++pins) (i8 X pins D [.ExceptHandler (some (.Name x np)) (some n) (b₀::suite) hpos])) pins' σ H s)(hm:nQ s.heap h' a c args)(h:kP X.K C i ts D σ c none H):
  i8 X pins D [.ExceptHandler (some (.Name x np)) (some n) (b₀::suite) hpos] (.ref a) {s with heap:=h'}:=by
 have J:Inv X pins σ H s:=I.EG ok fun p z=>dP _ z;exact yx J O.stk O.fr O.ex hm fun s2 I2 F2=>pN O I2 F2 h
theorem ps_try{body:List Stmt}{tb:Ends->TS}(hb:∀pins D,X.Ok->PSs (X.re X.A X.calm (X.pn++pins) (i8 X pins D [.ExceptHandler (some (.Name x np)) (some n) (b₀::suite) hpos])) body (tb D)):
  PS X (.Try body [.ExceptHandler (some (.Name x np)) (some n) (b₀::suite) hpos] [] [] pos) (fun D σ H=>tb D D σ H):=by
 intro pins s σ H D I h;have I0:Inv (X.re X.A X.calm (X.pn++pins) (i8 X pins D [.ExceptHandler (some (.Name x np)) (some n) (b₀::suite) hpos])) [] σ H s:=I.re rfl I.ok.hd fun p q=>by simpa using q
 refine wpAny_Try_except (cL (hb pins D I.ok [] s σ H D I0 h) (fun f s1 q=>?_) fun e s1 q=>q);have back:∀{σ':St}{H':Hp},Inv (X.re X.A X.calm (X.pn++pins) (i8 X pins D [.ExceptHandler (some (.Name x np)) (some n) (b₀::suite) hpos])) [] σ' H' s1->Inv X pins σ' H' s1:=fun{σ' H'} J=>J.EG I.ok fun p q=>by simpa using q
 cases f with
 |next =>
  obtain⟨σ',H',J,q⟩:=q;exact wz pins s1 σ' H' D (back J) q
 |brk=>
  obtain⟨σ',H',J,q⟩:=q;exact⟨_,_,back J,q⟩
 |cont=>
  obtain⟨σ',H',J,q⟩:=q;exact⟨_,_,back J,q⟩
 |ret u=>
  obtain⟨v,σ',H',J,rv,q⟩:=q;exact⟨v,_,_,back J,rv,q⟩
end
noncomputable abbrev XS:=St->XK
noncomputable abbrev N0:XS:=fun _=>E0
noncomputable def vH(CX:CXT)(X:Cx)(E:XS):Prop:=∀(pins:List (Addr×Obj))(σ:St)(H:Hp)(s:Shared)(e:Value)(s':Shared),Inv X pins σ H s->CX X.stack H s (E σ) e s'->X.xe e s'
noncomputable def MadeS(X:Cx)(E:XS):Prop:=∀(pins:List (Addr×Obj))(σ:St)(H:Hp)(s:Shared)(a:Addr)(c:Value)(args:List Value)(h':Heap),Inv X pins σ H s->nQ s.heap h' a c args->E σ c none H->X.xe (.ref a) {s with heap:=h'}
section
variable {X:Cx}{CX:CXT}{k:Nat}{f:Addr}{fd:fh}{ps:List Str}{sp:Sp}{dvs:List V}{ds:List Value}{E:XS}{x:Str}{p pos:Pos}{e:Expr}{es:List Expr}{t:TA}
theorem Bq{pins:List (Addr×Obj)}{σ:St}{H:Hp}{s:Shared}{Q:VK}{us:List Value}{vs:List V}(F:ju X.prog X.w X.K X.mg X.base CX k f fd ps sp)(hr:iU k X.A)(hb:Binds X.K fd ps ds)(hd:bM dvs ds)(hx:vH CX X E)
  (I:Inv X pins σ H s)(r:bM vs us)(h:sp (vs++dvs) H Q (E σ)):wpAny (model X.prog X.w) X.A (call (.ref f) us) (EP X pins σ Q) X.xe s:=by
 have r2:bM (vs++dvs) (us++ds):=r.append hd;have hl:(us++ds).length=ps.length:=r2.length.symm.trans (F.len _ _ _ _ h);refine gG (i3 (F.run X.A X.stack s H ⟨us,[]⟩ (us++ds) (vs++dvs) Q (E σ) hr I.env0 (hb s us I.kIn hl) r2 h) fun r s' hq=>?_);cases r with
 |error e=>exact hx pins σ H s e s' I hq
 |ok fl=>cases fl<;>first |exact I.after hq|exact gb hq
theorem yj(F:ju X.prog X.w X.K X.mg X.base CX k f fd ps sp)(hr:iU k X.A)(hg:Gl X x)(hm:X.mg x=some (.ref f))(hk:cw X.K (.ref f)=true)(hb:Binds X.K fd ps ds)(hd:bM dvs ds)(hx:vH CX X E)
  (ha:PA X (e::es) t)(hdb:(x==("__debug__":Str))=false)(he:aK (e::es) X.env=(false,eval e X.env)::aK es X.env)(hpl:(backTo pos (aK es X.env)).any (·.1)=false):
  PE X (.Call (.Name x p) (e::es) [] pos) (fun σ H Q=>yb sp dvs (E σ) t σ H Q):=by
 intro pins s σ H Q I h;refine eM (kN I hg hm ?_ hdb);exact o6 (h₀:=X.base) I.ok.mod.kin hk (thn (ha pos pins s σ H _ I h) fun us s1 ⟨vs,H1,I1,r,q⟩=>⟨I1.kIn,Bq F hr hb hd hx I1 r q⟩) he hpl
theorem uN(F:ju X.prog X.w X.K X.mg X.base CX k f fd ps sp)(hr:iU k X.A)(hg:Gl X x)(hm:X.mg x=some (.ref f))(hk:cw X.K (.ref f)=true)(hb:Binds X.K fd ps ds)(hd:bM dvs ds)(hx:vH CX X E)
  (hdb:(x==("__debug__":Str))=false):PE X (.Call (.Name x p) [] [] pos) (fun σ H Q=>yb sp dvs (E σ) qE σ H Q):=by
 intro pins s σ H Q I h;refine eM (kN I hg hm ?_ hdb);exact PySem.W.callWith_K0 I.kIn hk (Bq (us:=[]) F hr hb hd hx I .nil h)
end
section
variable {P:Program}{w:World}{K:ae}{mg:Str->Option Value}{base:Heap}
theorem vy{N:List Str}{qual:Str}{scope:Scope}{f:Addr}{cd:Value}{A:Around}{outer:List Env}{s:Shared}{H:Hp}{E:XK}:
  vH (CXx P w) (uo (CXx P w) P w K mg base N qual scope f cd A outer s H E) (fun _=>E):=by
 intro pins σ H1 s1 e s' I h;obtain⟨a,c,d,H',rfl,ho,hg,u,hok,F,q⟩:=h;show wpAny _ _ (leaving _ _) _ _ _;unfold leaving;refine aa (yy I rfl rfl rfl ho hg u hok F fun s2 I2 F2=>?_);obtain⟨⟨T,oe,vs,oT,ts,h1,h2,h3,h4,h5,h6,h7,h8,h9,h10,h11,_⟩,b1,b2,_⟩:=F2;exact⟨a,c,d,H',rfl,I2.os,I2.bare,I2.base,I2.hok,⟨⟨T,oe,vs,oT,ts,h1,h2,h3,h4,h5,h6,h7,h8,h9,h10,h11,fun _ z=>nomatch z⟩,b1,b2,fun _ z=>nomatch z⟩,q⟩
theorem vz{N:List Str}{qual:Str}{scope:Scope}{f:Addr}{cd:Value}{A:Around}{outer:List Env}{s:Shared}{H:Hp}{E:XK}:
  MadeS (uo (CXx P w) P w K mg base N qual scope f cd A outer s H E) (fun _=>E):=by
 intro pins σ H1 s1 a c args h' I hm q;show wpAny _ _ (leaving _ _) _ _ _;unfold leaving;refine aa (yx I rfl rfl rfl hm fun s2 I2 F2=>?_);obtain⟨⟨T,oe,vs,oT,ts,h1,h2,h3,h4,h5,h6,h7,h8,h9,h10,h11,_⟩,b1,b2,_⟩:=F2;exact⟨a,c,none,H1,rfl,I2.os,I2.bare,I2.base,I2.hok,⟨⟨T,oe,vs,oT,ts,h1,h2,h3,h4,h5,h6,h7,h8,h9,h10,h11,fun _ z=>nomatch z⟩,b1,b2,fun _ z=>nomatch z⟩,q⟩
theorem DN{o:List Env}{H:Hp}{s:Shared}{e:Value}{s':Shared}(h:CXx P w o H s E0 e s'):False:=by
 obtain⟨_,_,_,_,_,_,_,_,_,_,q⟩:=h;exact q
theorem ju.calm{k:Nat}{f:Addr}{fd:fh}{ps:List Str}{sp:Sp}(F:ju P w K mg base (CXx P w) k f fd ps sp):ju P w K mg base CX0 k f fd ps (fun vs H Q _=>sp vs H Q E0):=
 ⟨fun vs H Q E h=>F.len vs H Q E0 h,fun A outer s H args us vs Q E hr he hb hv hs=>i3 (F.run A outer s H args us vs Q E0 hr he hb hv hs) fun r s' q=>by
  cases r with
  |error e=>exact DN q
  |ok fl=>cases fl<;>exact q⟩
end
end L2
namespace Q
open PySem PySem.Spec PySem.W PyProof.Rows L2
noncomputable def fP(lt:Nat->Nat->Bool)(vs:List Value):List Value:=if vs.length<2 then vs else(run lt (dz vs.length)).toList.map fun i=>vs.getD i .none
noncomputable def D9(prog:Program)(w:World)(A:Around)(lt:Nat->Nat->Bool)(vs:List Value)(h0:Heap):Prop:=
 ∀s1:Shared,(∀b o,h0.get? b=some o->s1.heap.get? b=some o)->
  ∃κ,(∀(Q':SortKind->Shared->Prop)(E':Value->Shared->Prop),Q' κ s1->wpAny (model prog w) A (keyKind' vs.toArray) Q' E' s1)/\
   ∀i j (C:Bool->Shared->Prop),i<vs.length->j<vs.length->i≠j->C (lt i j) s1->kas_ask prog w A κ vs i j C s1
section
variable {prog:Program}{w:World}{A:Around}{E:Value->Shared->Prop}{s:Shared}{lt:Nat->Nat->Bool}{vs:List Value}
theorem eY{n:Nat}(h:n<64):n<=sizeLine:=by rw[j4];omega
theorem Bo{n:Nat}(h:n<64):n<=sizeLine+1:=iB (eY h)
theorem Bn{a:Addr}{n:Nat}{h0:Heap}{P:dI->Shared->Prop}(T:Tot lt vs.length)(ho:s.heap.get? a=some (seqObj "list" vs.toArray n))(k0:∀b o,h0.get? b=some o->s.heap.get? b=some o/\b≠a)(h64:vs.length<64)
  (ask:2<=vs.length->D9 prog w A lt vs h0)(h:P (.done (.ret .none)) {s with heap:=sortedHeap s.heap a vs (fP lt vs).toArray}):wpAny (model prog w) A (Builtin.«list.sort» ⟨[.ref a],[]⟩) P E s:=by
 have hv:vs.toArray.size=vs.length:=by simp
 obtain⟨c,hc⟩:∃c,(s.heap.update a (aT fun _=> #[])).get? a=some (seqObj "list" #[] c):=⟨_,o8 ho _⟩;have hc':(((s.heap.update a (aT fun _=> #[])).push (seqObj "tuple" vs.toArray 0)).push (seqObj "list" #[] 0)).get? a=some (seqObj "list" #[] c):=af _ (af _ hc);have keep:∀b o,h0.get? b=some o->(((s.heap.update a (aT fun _=> #[])).push (seqObj "tuple" vs.toArray 0)).push (seqObj "list" #[] 0)).get? b=some o:=fun b o e=>
  af _ (af _ ((aB _ _ (bz (k0 b o e).2)).trans (k0 b o e).1))
 rw[list_sort_plain];refine aa (listItems_at ho rfl (aa (fo ho rfl ?_ (by rw[hv];exact eY h64) (bA _))));refine aa (qL hc rfl (aa (wpAny_newTuple ?_ (show vs.length<=_ from eY h64))));refine aa (mG (bh ?_) (bA _));by_cases hn:vs.length<2
 ·have e:fP lt vs=vs:=if_pos hn
  rw[e]at h;dsimp only;rw[if_pos (by rw[hv];exact hn),if_pos (by rw[hv];exact hn)];refine aa (ai (aa ?_));rw[StateT.run_pure];refine ai (aa (qL hc' rfl (aa (fo hc' rfl ?_ (bA _) ?_))))
  ·have e2:(arrOf (SortSt.mk' general' (vs.toArray.zip vs.toArray) #[] 7 none)).map (·.2)=vs.toArray:=by
    show(vs.toArray.zip vs.toArray).map (·.2)=vs.toArray;apply xT;simp[List.map_snd_zip]
   rw[e2];have e3:failedOf ((),SortSt.mk' general' (vs.toArray.zip vs.toArray) #[] 7 none).snd=none:=rfl;rw[e3];simp only[bne_self_eq_false,aI,if_false];exact ai h
  ·show((vs.toArray.zip vs.toArray).map (·.2)).size<=_
   rw[Array.size_map,Array.size_zip,hv,El];exact iB (eY h64)
 ·have h2:2<=vs.length:=by omega
  have e:fP lt vs=(run lt (dz vs.length)).toList.map fun i=>vs.getD i .none:=if_neg hn;rw[e]at h;dsimp only;rw[if_neg (by rw[hv];exact hn),if_neg (by rw[hv];exact hn)];obtain⟨κ,hk1,hk2⟩:=ask h2 {s with heap:=((s.heap.update a (aT fun _=> #[])).push (seqObj "tuple" vs.toArray 0)).push (seqObj "list" #[] 0)} keep;obtain⟨P1,U1,O1⟩:=fO T (by omega:1<=vs.length);refine aa (hk1 _ _ (aa ?_));have key:=kat_run (prog:=prog) (w:=w) (A:=A) (E:=E) (κ:=κ) (ks:=vs) (vs:=vs) (s:={s with heap:=((s.heap.update a (aT fun _=> #[])).push (seqObj "tuple" vs.toArray 0)).push (seqObj "list" #[] 0)})
   (Q:=fun st' s'=>s'={s with heap:=((s.heap.update a (aT fun _=> #[])).push (seqObj "tuple" vs.toArray 0)).push (seqObj "list" #[] 0)}/\arrOf st'=(run lt (dz vs.length)).map (kas_item (vs.toArray.zip vs.toArray))/\failedOf st'=none)
   (G:=fun p s'=>s'={s with heap:=((s.heap.update a (aT fun _=> #[])).push (seqObj "tuple" vs.toArray 0)).push (seqObj "list" #[] 0)}/\p=run lt (dz vs.length)) rfl h2 h64
   (fun p st' s' _ e1 e2 e3=>⟨e3.1,by rw[e1,e3.2],e2⟩)
   (wp_run (S:=fun s'=>s'={s with heap:=((s.heap.update a (aT fun _=> #[])).push (seqObj "tuple" vs.toArray 0)).push (seqObj "list" #[] 0)}) (fun i j C s' hi hj hij hs hC=>by
    subst hs;exact hk2 i j C hi hj hij (hC _ rfl)) _ _ O1 rfl fun s' hs=>⟨hs,rfl⟩)
  refine cL key ?_ fun _ _ z=>z;rintro⟨⟨⟩,st'⟩ s' ⟨rfl,har,hf⟩;have hout:=kat_snds (ks:=vs) (vs:=vs) rfl har;dsimp only;rw[hout,hf];have hlen:(dN ((run lt (dz vs.length)).toList.map fun i=>vs.getD i bI)).size<=sizeLine+1:=by
   rw[ay,ao,bX,P1.size];exact iB (eY h64)
  refine aa (qL hc' rfl (aa (fo hc' rfl ?_ (bA _) hlen)));simp only[bne_self_eq_false,aI,if_false];exact ai h
theorem pA{l:Addr}{Q:Value->Shared->Prop}(T:Tot lt vs.length)(hl:s.heap.IsList l vs.toArray)(h64:vs.length<64)(ask:2<=vs.length->D9 prog w A.in1.in1 lt vs s.heap)
  (h:Q (.ref (s.heap.objs.size+1)) {s with heap:=sortedAll s.heap vs (fP lt vs).toArray}):wpAny (model prog w) A (call (.builtin "sorted") [.ref l]) Q E s:=by
 refine kF kind_sorted plain_sorted entry_sorted (args_sorted1 _) ?_;unfold Builtin.«sorted»;refine aa (m:=checkCount "sorted" 1 1 _) (ai (aa (collect_list hl (aa (mG ?_ (show vs.length<=_ from eY h64))) (eY h64))));generalize hH:(s.heap.push (seqObj "list" #[] 0)).update s.heap.objs.size (aT (·++vs.toArray))=h1;have hz:h1.objs.size=s.heap.objs.size+1:=by rw[<-hH,lD,Ee]
 have kp:∀b o,s.heap.get? b=some o->h1.get? b=some o:=fun b o e=>by
  have hb:=av e;rw[<-hH,aB _ _ (cV hb)];exact af _ e
 have hg:(h1.push (seqObj "list" vs.toArray 0)).get? (s.heap.objs.size+1)=some (seqObj "list" vs.toArray 0):=by
  rw[<-hz];exact au _ rfl
 have hq:sortedAll s.heap vs (fP lt vs).toArray=sortedHeap (h1.push (seqObj "list" vs.toArray 0)) (s.heap.objs.size+1) vs (fP lt vs).toArray:=by rw[<-hH];rfl
 rw[hq]at h;show wpAny _ _ _ _ _ {s with heap:=h1.push (seqObj "list" vs.toArray 0)};rw[hz];refine aa (bh (cK Ed ⟨_,hg,rfl⟩ Bi (Bn T hg (fun b o e=>⟨af _ (kp b o e),aD (bo (av e))⟩) h64 ask ⟨_,rfl,?_⟩) (args_list_sort _)));exact ai ⟨_,rfl,h⟩
end
noncomputable def tlt(x y:Str):Bool:=decide (x.cps.toList<y.cps.toList)
noncomputable def lN(ks:List Str)(i j:Nat):Bool:=tlt (ks.getD i "") (ks.getD j "")
noncomputable def ord(ks:List Str):List Nat:=if ks.length<2 then az ks.length else(run (lN ks) (dz ks.length)).toList
noncomputable def sortBy{α:Type}(d:α)(ks:List Str)(ys:List α):List α:=(ord ks).map fun i=>ys.getD i d
theorem str_ext{x y:Str}(h:x.cps.toList=y.cps.toList):x=y:=by
 obtain⟨a⟩:=x;obtain⟨b⟩:=y;have :a=b:=Array.toList_inj.mp h;rw[this]
theorem uE{x y z:Str}(a:tlt x y=true)(b:tlt y z=true):tlt x z=true:=by
 unfold tlt at *;rw[decide_eq_true_eq]at *;exact List.lt_trans a b
theorem tlt_tri{x y:Str}(h:x≠y):tlt x y= !tlt y x:=by
 unfold tlt;by_cases c:x.cps.toList<y.cps.toList
 ·have d:¬y.cps.toList<x.cps.toList:=fun z=>List.lt_irrefl _ (List.lt_trans c z)
  simp[c,d]
 ·by_cases d:y.cps.toList<x.cps.toList
  ·simp[c,d]
  ·exact absurd (str_ext (List.le_antisymm (List.not_lt.mp d) (List.not_lt.mp c))) h
theorem rq{ks:List Str}(nd:ks.Nodup):Tot (lN ks) ks.length where
 tri:=fun i j hi hj h=>tlt_tri fun e=>h (by
  rw[aj,aj,ag hi,ag hj]at e;exact(fk nd).mp e)
 tr:=fun i j k _ _ _ a b=>uE a b
theorem ord_len(ks:List Str)(nd:ks.Nodup):(ord ks).length=ks.length:=by
 unfold ord;split
 ·simp
 ·rw[bX,(fO (rq nd) (by omega)).1.size]
theorem F6{ks:List Str}{ys:List V}{vs:List Value}(nd:ks.Nodup)(hl:ks.length=ys.length)(r:bM ys vs):bM (sortBy .non ks ys) (fP (lN ks) vs):=by
 have hlen:=r.length;have e:vs.length=ks.length:=by omega
 unfold fP sortBy ord;rw[e];by_cases c:ks.length<2
 ·rw[if_pos c,if_pos c]
  have e2:(az ks.length).map (fun i=>ys.getD i V.non)=ys:=by
   rw[hl];apply cU
   ·simp
   ·intro i h1 h2
    simp[h2]
  rw[e2];exact r
 ·rw[if_neg c,if_neg c]
  have P:=(fO (rq nd) (by omega)).1;have all:∀l:List Nat,(∀i∈l,i<ks.length)->bM (l.map fun i=>ys.getD i V.non) (l.map fun i=>vs.getD i bI):=by
   intro l
   induction l with
   |nil=>exact fun _=>.nil
   |cons i l ih=>
    intro h;have hi:i<ys.length:=by have :=h i (.head _);omega
    obtain⟨u,hu,ru⟩:=r.get (ag hi);refine .cons ?_ (ih fun j hj=>h j (.tail _ hj));show L2.RelV (ys.getD i V.non) (vs.getD i bI);rw[aj,ag hi,aj,hu];exact ru
  refine all _ fun i hi=>?_;have m:i∈(az ks.length).toArray:=P.perm.mem_iff.mp (i4.mp hi);simpa using m
theorem EX{ks:List Str}{vs:List Value}(r:xK vs ks){i:Nat}(hi:i<ks.length):∃t,vs.getD i .none=.str (ks.getD i "") t:=by
 induction r generalizing i with
 |nil=>exact absurd hi (fS _)
 |cons y t h ih=>
  cases i with
  |zero=>exact⟨t,rfl⟩
  |succ i=>exact ih (by simpa using hi)
theorem rD{ks:List Str}{vs:List Value}(r:xK vs ks):vs.length=ks.length:=by
 induction r with
 |nil=>rfl
 |cons y t h ih=>simp[ih]
section
variable {prog:Program}{w:World}{A:Around}
theorem D6{ks:List Str}{vs:List Value}{h0:Heap}(r:xK vs ks)(h2:2<=vs.length):D9 prog w A (lN ks) vs h0:=by
 intro s1 _;refine⟨oneType',fun Q' E' q=>?_,fun i j C hi hj _ q=>?_⟩
 ·match vs,r,h2 with
  |v1::v2::rest,r,_=>
   rw[keyKind_strs r];exact ai q
 ·rw[rD r]at hi hj
  obtain⟨t,e1⟩:=EX r hi;obtain⟨u,e2⟩:=EX r hj;unfold kas_ask;rw[e1,e2,keyLt'_oneType];exact oneLt_str q
end
noncomputable def mq(H:Hp)(ys:List V)(ks:List Str):Prop:=Paired (fun v k=>∃a rest,v=V.ref a/\H a=some (.tup (V.str k::rest))) ys ks
noncomputable def rSort(K:ae):List V->Hp->VK->Prop:=fun xs H Q=>∃p ys ks,xs=[V.ref p]/\SqL K H p ys/\ks.length<64/\ks.Nodup/\(ys=ks.map V.str\/mq H ys ks)/\∀l,H l=none->Q (.ref l) (upd H l (.lst (sortBy .non ks ys)))
theorem p5{H:Hp}:∀{ys:List V}{ks:List Str},mq H ys ks->ks.length=ys.length
 |_,_,.nil=>rfl
 |_,_,.cons _ t=>by simp[p5 t]
set_option maxHeartbeats 3200000
noncomputable def has(acc:List Key)(k:Key):Bool:=acc.any fun x=>decide (x=k)
theorem iT{acc:List Key}{k:Key}:has acc k=true↔k∈acc:=by
 unfold has;rw[cE];constructor
 ·rintro⟨x,h,e⟩
  rw[<-of_decide_eq_true e];exact h
 ·exact fun h=>⟨k,h,decide_eq_true rfl⟩
noncomputable def more(acc:List Key)(k:Key):List Key:=if has acc k=true then acc else acc++[k]
noncomputable def met(ks:List Key):List Key:=ks.foldl more []
theorem Gn(ks:List Key)(k:Key):met (ks++[k])=more (met ks) k:=by unfold met;rw[List.foldl_append];rfl
theorem yF{acc:List Key}{k j:Key}:j∈more acc k↔j∈acc\/j=k:=by
 unfold more;split
 ·rename_i h
  constructor
  ·exact .inl
  ·rintro(z|rfl)
   ·exact z
   ·exact iT.mp h
 ·simp
theorem ow(acc:List Key)(k:Key):(more acc k).length=if has acc k=true then acc.length else acc.length+1:=by
 unfold more;split <;>simp
theorem Gq(ks:List Key):(met ks).length<=ks.length:=by
 unfold met;have g:∀(l acc:List Key),(l.foldl more acc).length<=acc.length+l.length:=by
  intro l
  induction l with
  |nil=>intro acc;simp
  |cons k l ih=>
   intro acc;have h1:=ih (more acc k);have h2:=ow acc k;rw[eP,bJ];split at h2<;>omega
 simpa using g ks []
theorem kM{ks:List Key}{k:Key}:k∈met ks↔k∈ks:=by
 unfold met;have g:∀(l acc:List Key),k∈l.foldl more acc↔k∈acc\/k∈l:=by
  intro l
  induction l with
  |nil=>intro acc;simp
  |cons j l ih=>
   intro acc;rw[eP,ih,yF,aC,or_assoc]
 simpa using g ks []
theorem Dw{ks:List Key}(h:ks.Nodup):met ks=ks:=by
 unfold met;have g:∀(l acc:List Key),(acc++l).Nodup->l.foldl more acc=acc++l:=by
  intro l
  induction l with
  |nil=>intro acc _;simp
  |cons k l ih=>
   intro acc hn;have hk:k∉acc:=fun z=>(dA.mp hn).2.2 k z k (.head _) rfl;have e:more acc k=acc++[k]:=if_neg fun z=>hk (iT.mp z);rw[eP,e,ih (acc++[k]) (by simpa using hn)];simp
 simpa using g ks [] (by simpa using h)
theorem Dl(ks:List Key):(met ks).Nodup:=by
 unfold met;have g:∀(l acc:List Key),acc.Nodup->(l.foldl more acc).Nodup:=by
  intro l
  induction l with
  |nil=>intro acc h;exact h
  |cons k l ih=>
   intro acc h;rw[eP];refine ih _ ?_;unfold more;split
   ·exact h
   ·rename_i c
    refine dA.mpr ⟨h,by simp,fun a ha b hb e=>c ?_⟩;have e2:b=k:=by simpa using hb
    rw[<-e2,<-e];exact iT.mpr ha
 exact g ks [] j9
theorem wN{ks:List Key}(h:(met ks).length=ks.length):ks.Nodup:=by
 have up:∀(l acc:List Key),(l.foldl more acc).length<=acc.length+l.length:=by
  intro l
  induction l with
  |nil=>intro acc;simp
  |cons k l ih=>
   intro acc;have h1:=ih (more acc k);have h2:=ow acc k;rw[eP,bJ];split at h2<;>omega
 have g:∀(l acc:List Key),acc.Nodup->(l.foldl more acc).length=acc.length+l.length->(acc++l).Nodup:=by
  intro l
  induction l with
  |nil=>intro acc h _;simpa using h
  |cons k l ih=>
   intro acc hn e;rw[eP,bJ]at e;have h1:=up l (more acc k);have h2:=ow acc k;by_cases c:has acc k=true
   ·rw[if_pos c]at h2
    omega
   ·rw[if_neg c]at h2
    have em:more acc k=acc++[k]:=if_neg c;rw[em]at e;have hk:k∉acc:=fun z=>c (iT.mpr z);have hn2:(acc++[k]).Nodup:=dA.mpr ⟨hn,by simp,fun a ha b hb e=>hk (by
     have e2:b=k:=by simpa using hb
     rw[<-e2,<-e];exact ha)⟩
    have :=ih (acc++[k]) hn2 (by rw[di,m7];omega)
    simpa using this
 simpa using g ks [] j9 (by simpa[met]using h)
theorem met_one{ks:List Key}:(met ks).length<=1↔∀a∈ks,∀b∈ks,a=b:=by
 constructor
 ·intro h a ha b hb
  have ha':=kM.mpr ha;have hb':=kM.mpr hb
  match e:met ks,h with
  | [],_=>rw[e]at ha';cases ha'
  | [x],_=>
   rw[e]at ha' hb';rw[aO.mp ha',aO.mp hb']
 ·intro h
  match e:met ks with
  | []=>simp
  | [x]=>simp
  |x::y::r=>
   have n:=Dl ks;rw[e]at n;have hx:x∈ks:=kM.mp (by rw[e];exact .head _);have hy:y∈ks:=kM.mp (by rw[e];exact .tail _ (.head _));have :=h x hx y hy;rw[this]at n;simp at n
noncomputable abbrev pE(led:Bool):Obj:={cls:=.type "set",dict:=none,data:=.set #[] 0 (.fresh 0 0 led)}
noncomputable def Af(a:Addr)(n:Nat):HO:=.ext fun h=>∃o es ep t,h.get? a=some o/\o.ExactSet/\o.data=.set es ep t/\es.size<fH/\t.fits es.size=true/\es.size=n
theorem wX:∀{ks:List Key}{us:List Value},bM (ks.map kV) us->∀(i:Nat)(v:Value),us[i]? =some v->∃k,ks[i]? =some k/\RelV (kV k) v
 | [],_,.nil,i,v,e=>by simp at e
 |k::ks,_,.cons r t,0,v,e=>by
  simp at e;subst e;exact⟨k,rfl,r⟩
 |k::ks,_,.cons r t,i+1,v,e=>wX t i v (by simpa using e)
noncomputable def rSet(K:ae):List V->Hp->VK->Prop:=fun xs H Q=>∃p ks,xs=[V.ref p]/\SqL K H p (ks.map kV)/\ks.length<4000/\∀a,H a=none->Q (.ref a) (upd H a (Af a (met ks).length))
theorem uv{X:Cx}:eL X (.builtin "len") (fun xs H Q=>∃a n,xs=[V.ref a]/\H a=some (Af a n)/\Q (.int n) H):=by
 intro pins s σ H xs us Q I r h;obtain⟨a,n,rfl,e,q⟩:=h;obtain⟨u,rfl,rx⟩:=vals1 r;cases rx;obtain⟨⟨o,es,ep,t,ho,hex,hd,hbb,hf,rfl⟩,_⟩:=I.hok a _ e;refine call_len_set ho hex hd hf (by have :es.size<4096:=hbb;omega) ?_;exact⟨.int es.size,H,I.tok _,⟨_,rfl⟩,q⟩
end Q
namespace L2
open PySem PySem.Spec PyProof.Rows
section
variable {X:Cx}
noncomputable def Bz(K:ae):R2:=fun x y H Q=>∃a b ys,x=.ref a/\y=.ref b/\SqT K H a []/\SqT K H b ys/\Q (.ref b) H
theorem op_cat0:OpR X (eN .Add) (Bz X.K):=by
 intro pins s σ H x y v u Q I rx ry h;obtain⟨a,b,ys,rfl,rfl,ha,hb,q⟩:=h;cases rx;cases ry;obtain⟨its,r1,p1,_⟩:=I.tuple ha;obtain⟨its2,r2,p2,_⟩:=I.tuple hb;cases r1;obtain⟨⟨cls,dd,data,sl⟩,ho,hc,n,hd⟩:=id p1;obtain⟨⟨cls2,dd2,data2,sl2⟩,ho2,hc2,n2,hd2⟩:=id p2;simp only at hc hd hc2 hd2;subst hc hd hc2 hd2;exact concat_meets ⟨_,ho,rfl⟩ ⟨_,ho2,rfl⟩ zA HQ lB kW (kE _ _) (tuple_addW0 a b _ _ n n2 dd dd2 sl sl2 rfl) ⟨ho,ho2,.ref b,H,I,rfl,q⟩
noncomputable def rRepS:R2:=fun x y H Q=>∃(z:Str)(n:Int),x=.str z/\y=.int n/\2<=n/\n<=1000/\1<=z.length/\z.length<=1000/\Q (.str ⟨(iq n.toNat z.cps).foldl (·++·) #[]⟩) H
noncomputable def rJoin(K:ae):V->List V->Hp->VK->Prop:=fun x vs H Q=>∃(sep:Str)(p:Addr)(ys:List Str),x=.str sep/\vs=[.ref p]/\SqL K H p (ys.map V.str)/\sep.length<=16/\(ys.map (·.length)).sum+ys.length<=1048576/\Q (.str (Txt.join sep ys)) H
end
end L2
set_option maxHeartbeats 1000000
namespace HT
open PySem PySem.Spec PyProof.Rows
section
variable {prog:Program}{w:World}{K:Type}[DecidableEq K]{knd:HeapKind prog w K}{A:Around}{s:Shared}{E:Value->Shared->Prop}
theorem setDef{d a:Addr}{xs:List (K×Addr×Value)}{k:K}{v:Value}{Q:Value->Shared->Prop}(hu:knd.room A)(hkey:knd.is s.heap k a)(hm:s.heap.DictOfH knd d xs)
  (h1:∀u,(atKey xs k).map (·.2)=some u->Q u {s with toks:=s.toks+knd.draws k})
  (h2:atKey xs k=none->∀h',h'.DictOfH knd d (storedH xs k a v)->dg d s.heap h'->Q v {s with heap:=h',toks:=s.toks+knd.draws k})
  (hsz:xs.length<=sizeLine):wpAny (model prog w) A (Eh d (.ref a) v) Q E s:=by
 obtain⟨o,es,ep,ho,hc,hd,he,his,hn⟩:=hm;unfold Eh;refine bh ?_;refine aa (knd.pyHash hu hkey ?_);refine aa (wpAny_dictFind_heap (s:={s with toks:=s.toks+knd.draws k}) hu hkey ho hd he his hn ?_ ?_)
 ·intro hno
  have hnot:k∉xs.map (·.1):=not_mem_keys_of_get hno;refine aa (fV (aa (wpAny_updateDictKeys (hz:=by have e:=size_of_entries he;omega) (s:={s with toks:=s.toks+knd.draws k}) ho hd (ai (h2 (mC hno) _ ⟨_,_,ep+1,bu _ ho (Obj.isFreed_of_dict (Ib hd _)),
   hc.mapDictKeys _,Ib hd _,?_,?_,?_⟩ (bN ..))))))
  ·rw[storedH_new (mC hno)]
   simp[he,entryOfKey]
  ·rw[storedH_new (mC hno)]
   intro x hx;rcases dW.mp hx with hx|hx
   ·exact knd.keeps (his x hx) ho hd (bN ..)
   ·rw[aO.mp hx]
    exact knd.keeps hkey ho hd (bN ..)
  ·rw[storedH_new (mC hno),de,dA]
   refine⟨hn,by simp,fun x hx y hy e=>?_⟩;have :y=k:=by simpa using hy
   exact hnot (by rw[<-this,<-e];exact hx)
 ·intro j p hj
  refine aa (wpAny_dictEntries (s:={s with toks:=s.toks+knd.draws k}) ho hd ?_);rw[entry_at he j,hj];exact aa (fV (ai (h1 _ (by rw[atKey_of_get hn hj];rfl))))
variable(knd) in
theorem wU(d a:Addr)(hd:(d==dR)=false)(dflt:Value):
  MeetsIn prog w (Builtin.«dict.setdefault» ⟨[.ref d,.ref a,dflt],[]⟩) (fun A R s=>knd.room A.in1/\∃k xs,knd.is s.heap k a/\s.heap.DictOfH knd d xs/\xs.length<=sizeLine/\
   (∀u,(atKey xs k).map (·.2)=some u->R (.ok (.ret u)) {s with toks:=s.toks+knd.draws k})/\
   (atKey xs k=none->∀h',h'.DictOfH knd d (storedH xs k a dflt)->dg d s.heap h'->R (.ok (.ret dflt)) {s with heap:=h',toks:=s.toks+knd.draws k})):=
 .of_wp fun A R s ⟨hu,k,xs,hkey,hm,hz,h1,h2⟩=>by
  unfold Builtin.«dict.setdefault»;refine aa ?_;unfold Builtin.Dict.keyAndDefault;refine aa (wpAny_notOrdered_dict hm.typeIs ?_);show wpAny _ _ (pure (d,bp a,some dflt)) _ _ s;refine ai ?_;show wpAny _ _ (if(d==dR)=true then _ else(Eh d (.ref a) dflt>>=_)) _ _ s;rw[if_neg (by rw[hd];exact aq)];exact aa (setDef hu hkey hm (fun v hv=>ai ⟨v,rfl,h1 v hv⟩) (fun hn h' hm' hs'=>ai ⟨dflt,rfl,h2 hn h' hm' hs'⟩) hz)
end
end HT
namespace L2
open PySem PySem.Spec PyProof.Rows
section
variable {X:Cx}{pins:List (Addr×Obj)}{σ:St}{H:Hp}{s:Shared}{a b:Addr}{v:V}{r:Value}{A:Around}{E:Value->Shared->Prop}{kvs:List (List Key×V)}{k:List Key}
theorem Hl{Q:Value->Shared->Prop}(hu:A.units+1<cLine)(I:Inv X pins σ H s)(e:H a=some (.dT kvs))(eb:H b=some (.tup (k.map kV)))(rv:RelV v r)(hl:kvs.length<sizeLine)
  (h1:∀x w' s',dX kvs k=some x->Inv X pins σ H s'->RelV x w'->Q w' s')(h2:dX kvs k=none->∀s',Inv X pins σ (upd H a (.dT (putK kvs k v))) s'->Q r s'):
  wpAny (model X.prog X.w) A (call (.builtin "dict.setdefault") [.ref a,.ref b,r]) Q E s:=by
 obtain⟨z,hd,xs,rel,dd⟩:=Hh I.hok e;have hz:xs.length<=sizeLine:=by rw[<-kG rel];exact z
 have hl':(putK kvs k v).length<=sizeLine:=by have :=lP kvs k v;omega
 have rk:=rel.val k;refine call_meetsIn tL dd.typeIs PySem.F.entry_dict_setdefault (PySem.F.args_dict_setdefault_3 _ _ _) (HT.wU (nG (bR X.prog X.w)) a b hd r) ⟨tupleKind_room_in1 hu,k,xs,GQ I.hok eb,dd,hz,fun u hu'=>?_,fun hn h' dd' hs=>?_⟩
 ·rw[hu']at rk
  cases hv:dX kvs k with
  |none=>rw[hv]at rk;exact absurd rk (by intro z;cases z)
  |some x=>
   rw[hv]at rk;obtain⟨w',hw,rw'⟩:=pR.some_of rk;cases hw;exact h1 x _ _ hv (I.tok _) rw'
 ·rw[hn]at rk
  refine h2 (by
   cases hv:dX kvs k with
   |none=>rfl
   |some x=>rw[hv]at rk;exact absurd rk (by intro z;cases z)) _ ?_
  obtain⟨q,es,ep,hq,g2,g3,g4,_,g5⟩:=dd';refine B7 I (by rw[e];exact True.intro) hs ⟨q,hq⟩ ⟨hl',hd,_,(rel.put k eb rv).keeps fun c ys ec=>?_,q,es,ep,hq,g2,g3,g4,g5⟩;rw[aL (ne_of ec e (fun z=>nomatch z))];exact ec
end
section
variable {X:Cx}
theorem yv:∀{ns:List Int}{its:List Value},bM (ns.map V.int) its->(∀v∈its,∃a t,v=fK a t)/\numsOf its=ns
 | [],_,.nil=>⟨fun _ h=>(nomatch h),rfl⟩
 |n::ns,_,.cons r t=>by
  obtain⟨tk,rfl⟩:=r;obtain⟨h1,h2⟩:=yv t;refine⟨fun v hv=>?_,by rw[numsOf,h2]⟩;rcases aC.mp hv with rfl|hv
  ·exact⟨_,_,rfl⟩
  ·exact h1 v hv
theorem ints_rep{ns:List Int}{its:List Value}(r:bM (ns.map V.int) its):∃xs:Array (Int×Tok),its.toArray=intItems xs/\preSum (numAt xs) xs.size=ns.sum:=by
 obtain⟨h1,h2⟩:=yv r;obtain⟨xs,e⟩:=AllInts.items (vs:=its.toArray) fun v hv=>h1 v (by simpa using hv);refine⟨xs,e,?_⟩;rw[preSum_eq,fE (by simp),<-nums_intItems,<-e,h2]
theorem Hv(hc:X.calm=true):eL X (.builtin "sum") (fun xs H Q=>∃(p:Addr)(ns:List Int),xs=[.ref p]/\SqL X.K H p (ns.map V.int)/\Q (.int ns.sum) H):=by
 intro pins s σ H xs us Q I rv h;obtain⟨p,ns,rfl,hq,q⟩:=h;obtain⟨u,rfl,ru⟩:=rv.one;cases ru;obtain⟨its,r,pl,hz⟩:=I.list hq;obtain⟨ys,e1,e2⟩:=ints_rep r;have pl':=pl.isList;rw[e1]at pl';refine sum_intListG (I.ok.hd hc) pl' fun h' tk t' hk=>?_;rw[e2];exact⟨.int ns.sum,H,I.kept (t':=tk) hk,⟨_,rfl⟩,q⟩
theorem DA{prog:Program}{w:World}{K:Type}[DecidableEq K]{knd:HeapKind prog w K}{A:Around}{E:Value->Shared->Prop}{s:Shared}{d:Addr}{xs:List (K×Addr×Value)}{Q:Value->Shared->Prop}(hd:(d==dR)=false)(hm:s.heap.DictOfH knd d xs)(hfit:(xs.length:Int)<2^63)
  (h:Q (.int xs.length (s.toks+1)) {s with toks:=s.toks+1+1}):wpAny (model prog w) A (call (.builtin "len") [.ref d]) Q E s:=by
 have ml:MeetsIn prog w (Builtin.«dict.__len__» ⟨[.ref d],[]⟩) (fun _ R s=>∃xs,s.heap.DictOfH knd d xs/\R (.ok (.ret (.int xs.length s.toks))) {s with toks:=s.toks+1}):=
  .of_wp fun A R s ⟨xs,hm,h⟩=>by
   obtain⟨o,es,ep,ho,hc,hdat,he,_⟩:=hm;show wpAny _ _ (dictSize d>>=_) _ _ s;unfold dictSize;refine aa (aa (wpAny_dictEntries ho hdat (ai ?_)));show wpAny _ _ (Builtin.Dict.pendingCount d>>=_) _ _ s;refine aa (wpAny_pendingCount_other hd ?_);refine wpAny_ret_mkInt ?_;have :es.size=xs.length:=size_of_entries he;rw[Nat.add_zero,this];exact h
 refine kF kind_len plain_len entry_len (args_len1 _) ?_;unfold Builtin.«len»;refine aa (m:=oneArg "len" _) (ai ?_);refine aa (m:=callSpecial? (.ref d) (aQ "__len__")) (d9 (name:=aQ "__len__") hm.typeIs F.slot_dict_len
  (call_meetsIn F.slot_dict_len hm.typeIs F.entry_dict_len (F.args_dict_len_1 _) ml ⟨xs,hm,?_⟩))
 show wpAny _ _ _ _ _ {s with toks:=s.toks+1};refine aa (bh (ai ?_));refine aa (fT ?_);show wpAny _ _ (if((xs.length:Nat):Int)<0 then _ else _) _ _ _;rw[if_neg (by omega)];show wpAny _ _ (if((xs.length:Nat):Int)≥ 2^63 then _ else _) _ _ _;rw[if_neg (by omega)];exact aa (wpAny_mkInt (ai ⟨_,rfl,h⟩))
theorem zg:eL X (.builtin "len") (fun xs H Q=>∃a kvs,xs=[V.ref a]/\H a=some (.dT kvs)/\Q (.int kvs.length) H):=by
 intro pins s σ H xs us Q I r h;obtain⟨a,kvs,rfl,e,q⟩:=h;obtain⟨u,rfl,rx⟩:=vals1 r;cases rx;obtain⟨z,hd,ys,rel,dd⟩:=Hh I.hok e;refine DA hd dd (by rw[<-kG rel];rw[j4]at z;omega) ?_;rw[<-kG rel];exact⟨.int kvs.length,H,I.tok _,⟨_,rfl⟩,q⟩
theorem key_seq{pins:List (Addr×Obj)}{σ:St}{H:Hp}{s:Shared}{b:Addr}{ks:List Key}(I:Inv X pins σ H s)(h:SqT X.K H b (ks.map kV)):(nG (bR X.prog X.w)).is s.heap ks b:=by
 obtain⟨its,r,⟨o,h1,h2,n,h3⟩,_⟩:=I.tuple h;exact⟨o,its.toArray,n,h1,h2,h3,by simpa using pG r⟩
noncomputable def rIxD(K:ae):R2:=fun x y H Q=>∃a b kvs k v,x=.ref a/\y=.ref b/\H a=some (.dT kvs)/\SqT K H b (k.map kV)/\dX kvs k=some v/\Q v H
theorem ix_dict(hu:X.A.units+1<cLine):IxR X (rIxD X.K):=by
 intro value slice pins s σ H x y v u Q I rx ry h hs;obtain⟨a,b,kvs,k,z,rfl,rfl,e,eb,hv,q⟩:=h;cases rx;cases ry;obtain⟨_,hd,xs,rel,dd⟩:=Hh I.hok e;have hT:s.TypeIs (.ref a) "dict":=dd.typeIs;unfold HN;refine aa ?_;rw[getitemInPython_of_ne hT.not_modules];refine aa (wpAny_specialOf hT PySem.F.slot_dict_getitem.lookup ?_);have fin:wpAny (model X.prog X.w) X.A (subscripted slice false (.ref a) (.ref b)) (fun r s₃=>wpAny (model X.prog X.w) X.A (letTemporaryGo value (.ref a) r>>=fun _=>pure r) (EP X pins σ Q) X.xe s₃) X.xe s:=by
  rw[hs];obtain⟨w',hw,rw'⟩:=pR.some_of (v:=z) (o:=(atKey xs k).map (·.2)) (by rw[<-hv];exact rel.val k);obtain⟨p,hp,hp2⟩:=lC.mp hw;refine wpAny_operating (cL (wpAny_getItem_heap (Q:=EP X pins σ Q) (tupleKind_room_in1 hu) (key_seq I eb) dd hp ?_) (fun r s₃ h₃=>aa (wpAny_letTemporaryGo (ai h₃))) fun _ _ x=>x);rw[hp2];exact⟨z,H,I.tok _,rw',q⟩
 first
  |exact ai (aa fin)
  |exact aa (ai (aa fin))
  |exact aa fin
noncomputable def Bx:V->List V->Hp->VK->Prop:=fun x xs H Q=>∃a b kvs k v,x=.ref a/\xs=[.ref b,v]/\H a=some (.dT kvs)/\H b=some (.tup (k.map kV))/\kvs.length<sizeLine/\
 (∀z,dX kvs k=some z->Q z H)/\(dX kvs k=none->Q v (upd H a (.dT (putK kvs k v))))
theorem Dt(hu:X.A.units+1<cLine):MtR X "dict.setdefault" Bx:=by
 intro pins s σ H x xs v us Q I rx rv h;obtain⟨a,b,kvs,k,y,rfl,rfl,e,eb,hl,q1,q2⟩:=h;cases rx;obtain⟨u,w',rfl,r1,r2⟩:=vals2 rv;cases r1;exact Hl hu I e eb r2 hl (fun z w1 s' hz I' rz=>⟨z,H,I',rz,q1 z hz⟩) fun hn s' I'=>⟨y,_,I',r2,q2 hn⟩
end
section
variable {X:Cx}
noncomputable def isRef:V->Bool
 |.ref _=>true
 |_=>false
noncomputable def rInD(K:ae)(neg:Bool):R2:=fun x y H Q=>∃p xs ds d,y=.ref p/\SqL K H p xs/\xs.all isRef=true/\Rep K H d x/\gE K H ds xs/\fF ds<=30/\
 Q (.bl (if neg then !(ds.any fun d'=>eqD d' d)else ds.any fun d'=>eqD d' d)) H
open Classical in
open Classical in
end
section
variable {X:Cx}{e:Expr}{te:TE}{pos p2 p3 p4:Pos}{cd:Nat}
noncomputable def tRev(K:ae)(te:TE):TE:=fun σ H Q=>te σ H fun x H1=>∃a xs,x=.ref a/\SqL K H1 a xs/\∀p,H1 p=none->Q (.ref p) (upd H1 p (.lst xs.reverse))
end
end L2
namespace Q
open PySem PySem.Spec PySem.W PyProof.Rows L2
noncomputable def ltI(ns:List Int)(i j:Nat):Bool:=decide (ns.getD i 0<ns.getD j 0)
noncomputable def Aw(ns:List Int):List Nat:=if ns.length<2 then az ns.length else(run (ltI ns) (dz ns.length)).toList
noncomputable def sortI(ns:List Int):List V:=(Aw ns).map fun i=>(ns.map V.int).getD i .non
theorem EK{ns:List Int}(nd:ns.Nodup):Tot (ltI ns) ns.length where
 tri:=fun i j hi hj h=>by
  have hne:ns.getD i 0≠ns.getD j 0:=fun e=>by
   rw[aj,aj,ag hi,ag hj]at e;exact h ((fk nd).mp e)
  unfold ltI;by_cases a:ns.getD i 0<ns.getD j 0
  ·rw[decide_eq_true a,decide_eq_false (by omega)];rfl
  ·rw[decide_eq_false a,decide_eq_true (by omega)];rfl
 tr:=fun i j k hi hj hk a b=>by
  unfold ltI at a b⊢;have a:=of_decide_eq_true a;have b:=of_decide_eq_true b;exact decide_eq_true (by omega)
theorem yt{ns:List Int}(nd:ns.Nodup):(Aw ns).length=ns.length:=by
 unfold Aw;split
 ·simp
 ·rw[bX,(fO (EK nd) (by omega)).1.size]
theorem outI{ns:List Int}{vs:List Value}(nd:ns.Nodup)(r:bM (ns.map V.int) vs):bM (sortI ns) (fP (ltI ns) vs):=by
 have hlen:=r.length;rw[ao]at hlen;have e:vs.length=ns.length:=by omega
 unfold fP sortI Aw;rw[e];by_cases c:ns.length<2
 ·rw[if_pos c,if_pos c]
  have e2:(az ns.length).map (fun i=>(ns.map V.int).getD i V.non)=ns.map V.int:=by
   apply cU
   ·simp
   ·intro i h1 h2
    have h3:i<ns.length:=by simpa using h2
    simp[h3]
  rw[e2];exact r
 ·rw[if_neg c,if_neg c]
  have P:=(fO (EK nd) (by omega)).1;have all:∀l:List Nat,(∀i∈l,i<ns.length)->bM (l.map fun i=>(ns.map V.int).getD i V.non) (l.map fun i=>vs.getD i bI):=by
   intro l
   induction l with
   |nil=>exact fun _=>.nil
   |cons i l ih=>
    intro h;have hi:i<(ns.map V.int).length:=by rw[ao];exact h i (.head _)
    obtain⟨u,hu,ru⟩:=r.get (ag hi);refine .cons ?_ (ih fun j hj=>h j (.tail _ hj));show L2.RelV ((ns.map V.int).getD i V.non) (vs.getD i bI);rw[aj,ag hi,aj,hu];exact ru
  refine all _ fun i hi=>?_;have m:i∈(az ns.length).toArray:=P.perm.mem_iff.mp (i4.mp hi);simpa using m
theorem int_at{ns:List Int}{vs:List Value}(r:bV vs ns){i:Nat}(hi:i<ns.length):∃t,vs.getD i .none=.int (ns.getD i 0) t:=by
 induction r generalizing i with
 |nil=>exact absurd hi (fS _)
 |cons y t h ih=>
  cases i with
  |zero=>exact⟨t,rfl⟩
  |succ i=>exact ih (by simpa using hi)
theorem GW{ns:List Int}{vs:List Value}(r:bV vs ns):vs.length=ns.length:=by
 induction r with
 |nil=>rfl
 |cons y t h ih=>simp[ih]
theorem vG{prog:Program}{w:World}{A:Around}{ns:List Int}{vs:List Value}{h0:Heap}(r:bV vs ns)(h2:2<=vs.length):D9 prog w A (ltI ns) vs h0:=by
 intro s1 _;refine⟨oneType',fun Q' E' q=>?_,fun i j C hi hj _ q=>?_⟩
 ·match vs,r,h2 with
  |v1::v2::rest,r,_=>
   rw[keyKind_ints r];exact ai q
 ·rw[GW r]at hi hj
  obtain⟨t,e1⟩:=int_at r hi;obtain⟨u,e2⟩:=int_at r hj;unfold kas_ask;rw[e1,e2,keyLt'_oneType];exact oneLt_int q
noncomputable def Fv(K:ae):List V->Hp->VK->Prop:=fun xs H Q=>∃p ns,xs=[V.ref p]/\SqL K H p (ns.map V.int)/\ns.length<64/\ns.Nodup/\∀l,H l=none->Q (.ref l) (upd H l (.lst (sortI ns)))
theorem xl{X:Cx}:eL X (.builtin "sorted") (Fv X.K):=by
 intro pins s σ H xs us Q I r h;obtain⟨p,ns,rfl,hq,h64,nd,q⟩:=h;obtain⟨u,rfl,rx⟩:=vals1 r;cases rx;obtain⟨its,r',pl,hz⟩:=I.list hq;have hlen:=r'.length;rw[ao]at hlen;have hv:its.length=ns.length:=by omega
 refine pA (lt:=ltI ns) (vs:=its) (by rw[hv];exact EK nd) pl.isList (by omega) (fun h2=>vG (intsAre_of r') h2) ?_;obtain⟨c,hc⟩:=sortedAll_at s.heap its (fP (ltI ns) its).toArray;have hz2:(sortI ns).length<=sizeLine:=by
  unfold sortI;rw[ao,yt nd];exact eY h64
 exact⟨.ref (s.heap.objs.size+1),_,I.laid (t':=s.toks) (fun b o e=>HP e) (cZ _) (show dh X.prog X.w _ _ _ (.lst (sortI ns))from⟨hz2,_,c,outI nd r',hc⟩),rfl,q _ (I.hok.fresh (cZ _))⟩
end Q
namespace L2
open PySem PySem.Spec PyProof.Rows
section
variable {X:Cx}
noncomputable def nats(n:Nat):List V:=(az n).map fun i:Nat=>V.int (i:Int)
theorem zV:∀(n:Nat)(acc:Array Value),ItemsOf (fun i v=>∃t,v=fK (0+i*1) t) acc n->bM (nats n) acc.toList:=by
 intro n acc h;have key:∀(l:List Value)(k:Nat),(∀(j:Nat) v,l[j]? =some v->∃t,v=fK ((k+j:Nat):Int) t)->bM ((List.range' k l.length).map fun i:Nat=>V.int (i:Int)) l:=by
  intro l
  induction l with
  |nil=>exact fun _ _=>.nil
  |cons v l ih=>
   intro k hk;obtain⟨t,e⟩:=hk 0 v rfl;refine .cons ⟨t,by rw[e];simp⟩ ?_;refine ih (k+1) fun j w hw=>?_;obtain⟨t',e'⟩:=hk (j+1) w (by simpa using hw);exact⟨t',by rw[e'];congr 2;omega⟩
 have hl:acc.toList.length=n:=by rw[bX];exact h.1
 have :=key acc.toList 0 fun j v hv=>by
  obtain⟨t,e⟩:=h.2 j v (by rw[<-iD];exact hv);exact⟨t,by rw[e];congr 1;omega⟩
 rw[hl,<-List.range_eq_range']at this;exact this
noncomputable def tLRng(ta:TA):TE:=fun σ H Q=>ta σ H fun vs H1=>∃n:Nat,vs=[.int n]/\n<=1000/\∀p,H1 p=none->Q (.ref p) (upd H1 p (.lst (nats n)))
theorem pe_lrng{a:Expr}{ta:TA}{p p' pos pos':Pos}(hc:X.calm=true)(hg:Gl X "range")(hm:X.mg "range"=none)(hg':Gl X "list")(hm':X.mg "list"=none)(ha:PA X [a] ta)(hs:aK [a] X.env=[(false,eval a X.env)]:=by rfl):
  PE X (.Call (.Name "list" p) [.Call (.Name "range" p') [a] [] pos'] [] pos) (tLRng ta):=by
 intro pins s σ H Q I h;refine Call_ (ji I hg' hm' j7 (cA (pV ?_) rfl rfl));refine Call_ (ji I hg hm boot_range (cA (thn (ha pos' pins s σ H _ I h) fun us s1 ⟨vs,H1,I1,r1,q1⟩=>?_) hs rfl));obtain⟨n,e,hn,q⟩:=q1;subst e;cases r1 with
 |cons r rr=>
  cases rr;obtain⟨t,rfl⟩:=r;refine call_range_1 ?_;refine ai ?_;have hsz:rg 0 (n:Int) 1=(n:Int):=by rw[rangeSize_one];split <;>omega
  refine call_list_range (n:=n) (I1.ok.hd hc) (IsRange.new ..) (small_one (by decide) (by decide) (by omega) (by omega)) hsz (by omega) fun h' tk acc' c' hk hS hit=>?_;have hv:=zV n acc' hit;refine⟨.ref _,_,I1.laid (t':=tk) (o:=.lst (nats n)) (fun b o e=>hk b o (af _ e)) ?_ ⟨?_,acc'.toList,c',hv,hS⟩,rfl,q _ (I1.hok.fresh ?_)⟩
  ·simp[Heap.push]
  ·unfold nats;rw[ao,cJ,j4];omega
  ·simp[Heap.push]
end
section
variable {X:Cx}
noncomputable def leP(a b c d:Int):Bool:=decide (a<c\/a=c/\b<=d)
noncomputable def rLeP(K:ae):R2:=fun x y H Q=>∃p q a b c d,x=.ref p/\y=.ref q/\SqT K H p [.int a,.int b]/\SqT K H q [.int c,.int d]/\Q (.bl (leP a b c d)) H
noncomputable def rIndex:V->List V->Hp->VK->Prop:=fun x vs H Q=>∃(l:Addr)(ns:List Int)(k:Int),x=.ref l/\vs=[.int k]/\H l=some (.lst (ns.map V.int))/\k∈ns/\ns.length<=60/\Q (.int (ns.idxOf k:Nat)) H
end
end L2
namespace Q
open PySem PySem.Spec PySem.W PyProof.Rows L2
noncomputable def plt(x y:Int×Int):Bool:=decide (x.1<y.1\/x.1=y.1/\x.2<y.2)
noncomputable def ltP(ps:List (Int×Int))(i j:Nat):Bool:=plt (ps.getD i (0,0)) (ps.getD j (0,0))
noncomputable def ordP(ps:List (Int×Int)):List Nat:=if ps.length<2 then az ps.length else(run (ltP ps) (dz ps.length)).toList
noncomputable def sortP{α:Type}(d:α)(ps:List (Int×Int))(ys:List α):List α:=(ordP ps).map fun i=>ys.getD i d
noncomputable def HI(H:Hp)(ys:List V)(ps:List (Int×Int)):Prop:=Paired (fun v k=>∃a,v=V.ref a/\H a=some (.tup [.int k.1,.int k.2])) ys ps
noncomputable def rSortP(K:ae):List V->Hp->VK->Prop:=fun xs H Q=>∃p ys ps,xs=[V.ref p]/\SqL K H p ys/\ps.length<64/\ps.Nodup/\HI H ys ps/\∀l,H l=none->Q (.ref l) (upd H l (.lst (sortP .non ps ys)))
end Q
namespace D8
open PySem PySem.Spec PySem.W PyProof.Rows L2
noncomputable abbrev four:List (Int×Int):=[(0,0),(0,1),(1,0),(1,1)]
noncomputable def Prs(H:Hp)(as:List Addr)(ps:List (Int×Int)):Prop:=as.length=ps.length/\∀(i:Nat) a q,as[i]? =some a->ps[i]? =some q->H a=some (.tup [.int q.1,.int q.2])
noncomputable def rSetP(K:ae):List V->Hp->VK->Prop:=fun xs H Q=>∃p as ps,xs=[V.ref p]/\SqL K H p (as.map V.ref)/\Prs H as ps/\(∀q∈ps,q∈four)/\∀a (ks:List (Int×Int)),H a=none->ks.Nodup->(∀r,r∈ks↔r∈ps)->Q (.ref a) (upd H a (_root_.Q.Af a ks.length))
end D8
namespace L2
open PySem PySem.Spec PyProof.Rows
section
variable {X:Cx}
noncomputable def CDivB(_ j:Int):Prop:=0<j/\j.natAbs.log2<9000
noncomputable def rDivB:R2:=rI CDivB fun i j=>.int (i/j)
noncomputable def rInsert:V->List V->Hp->VK->Prop:=fun x vs H Q=>∃l xs k y,x=.ref l/\vs=[.int k,y]/\H l=some (.lst xs)/\xs.length<sizeLine/\0<=k/\k<=xs.length/\Q .non (upd H l (.lst (xs.take k.toNat++y::xs.drop k.toNat)))
end
section
variable {X:Cx}
noncomputable def rSplit:V->List V->Hp->VK->Prop:=fun x vs H Q=>∃z y:Str,x=.str z/\vs=[.str y]/\(y.length==0)=false/\z.length+2<=sizeLine/\∀p,H p=none->Q (.ref p) (upd H p (.lst ((Txt.split z y).map V.str)))
end
noncomputable def Itz(K:ae)(a b:Addr):It:=
 ⟨fun i H=>∃xs ys x y,SqL K H a xs/\SqL K H b ys/\xs[i]? =some x/\ys[i]? =some y,
  fun i H v H'=>∃p x y,H p=none/\H'=upd H p (.tup [x,y])/\v=.ref p/\(∀xs,SqL K H a xs->xs[i]? =some x)/\∀ys,SqL K H b ys->ys[i]? =some y,
  fun i H=>∃xs ys,SqL K H a xs/\SqL K H b ys/\(xs.length<=i\/ys.length<=i)⟩
section
variable {X:Cx}{es:List Expr}{kk:Nat}{pp:Pos}
noncomputable def iZip(K:ae)(t:TA):TI:=fun σ H R=>t σ H fun vs H1=>∃a b,vs=[.ref a,.ref b]/\(∃xs,SqL K H1 a xs)/\(∃ys,SqL K H1 b ys)/\R (Itz K a b) H1
end
noncomputable def DkIn(P:Program)(w:World)(K:ae)(a:Addr)(kvs:List (Key×V)):Prop:=
 (a==dR)=false/\∃vs,KV kvs vs/\∀h,K.In h->h.DictOf (bR P w) a vs
section
variable {X:Cx}{dic:Addr->Option (List (Key×V))}
noncomputable def rInG(dic:Addr->Option (List (Key×V))):R2:=fun x y H Q=>∃a kvs k,y=.ref a/\dic a=some kvs/\x=kV k/\Q (.bl (dX kvs k).isSome) H
noncomputable def rIxG(dic:Addr->Option (List (Key×V))):R2:=fun x y H Q=>∃a kvs k v,x=.ref a/\dic a=some kvs/\y=kV k/\dX kvs k=some v/\Q v H
end
noncomputable def fText(pre post:Str)(i:Int):Str:=Str.empty++pre++(toString i:Str)++post
noncomputable def tFst(pre post:Str)(t:TE):TE:=fun σ H Q=>(Str.empty++pre).length<=sizeLine/\t σ H fun x H1=>∃i,x=.int i/\i.natAbs.log2<1920/\(fText pre post i).length<=sizeLine/\Q (.str (fText pre post i)) H1
end L2
namespace PySem
section
variable {prog:Program}{w:World}{A:Around}{E:Value->Shared->Prop}{s:Shared}
theorem F9{j t:Addr}{k:Nat}{xs:Array Value}{v:Value}{Q:Value->Shared->Prop}(hj:s.heap.IsTupleIter j t k)(ht:s.heap.IsTuple t xs)(hv:xs[k]? =some v)
  (q:∀h',h'.IsTupleIter j t (k+1)->dg j s.heap h'->Q v {s with heap:=h'}):wpAny (model prog w) A (fq (.ref j)) Q E s:=by
 obtain⟨o,e1,e2,e3⟩:=id hj;obtain⟨p,f1,_,n,f3⟩:=ht;unfold fq;refine aa (d9 (name:=aQ "__next__") hj.typeIs gC (cK gC hj.typeIs zP ?_ (zF _)));show wpAny _ _ (field (.ref j) 0>>=_) _ _ s;refine aa (gF e1 e3 (x:=.ref t) rfl ?_);show wpAny _ _ (if(bp t==bI)=true then _ else _) _ _ s;rw[if_neg (fun z:(bp t==bI)=true=>absurd z aq)];show wpAny _ _ (field (.ref j) 1>>=_) _ _ s;refine aa (gF e1 e3 (x:=.int k 0) rfl ?_);show wpAny _ _ (jx (.ref t)>>=_) _ _ s;refine aa (dY f1 f3 ?_);simp only[aR,hv];refine aa (qI e1 e3 (by simp) (ai ⟨v,rfl,ai (q _ ?_ (bN ..))⟩));exact⟨_,bu _ e1 (iQ (eK e3 _)),(Obj.cls_mapFields ..).trans e2,by rw[eK e3];simp[rawInt]⟩
theorem BI{j t:Addr}{k:Nat}{xs:Array Value}{Q:Value->Shared->Prop}(hh:A.handled=none)(hj:s.heap.IsTupleIter j t k)(ht:s.heap.IsTuple t xs)(hv:xs[k]? =none)
  (q:∀h' e,Heap.ExtBut j s.heap h'->(∃o,h'.get? e=some o/\o.cls=.type "StopIteration")->E (.ref e) {s with heap:=h'}):wpAny (model prog w) A (fq (.ref j)) Q E s:=by
 obtain⟨o,e1,e2,e3⟩:=id hj;obtain⟨p,f1,_,n,f3⟩:=ht;unfold fq;refine aa (d9 (name:=aQ "__next__") hj.typeIs gC (cK gC hj.typeIs zP ?_ (zF _)));show wpAny _ _ (field (.ref j) 0>>=_) _ _ s;refine aa (gF e1 e3 (x:=.ref t) rfl ?_);show wpAny _ _ (if(bp t==bI)=true then _ else _) _ _ s;rw[if_neg (fun z:(bp t==bI)=true=>absurd z aq)];show wpAny _ _ (field (.ref j) 1>>=_) _ _ s;refine aa (gF e1 e3 (x:=.int k 0) rfl ?_);show wpAny _ _ (jx (.ref t)>>=_) _ _ s;refine aa (dY f1 f3 ?_);simp only[aR,hv];refine aa (fV (aa (qI e1 e3 (by simp) ?_)));show wpAny _ _ (newExc (.type "StopIteration") []>>=_) _ _ _;refine aa ?_;simp only[newExc,newTuple];refine aa (bU ?_ (by size_fits));refine aa (m:=qM _ _) (my (a:=bI) (by first |rfl| (simp only[qM];rfl)) ?_);refine bU ?_ (by size_fits);simp only[Ef];refine aa (wpAny_handled ?_);first |rw[show A.in1.handled=none from hh] |rw[hh]
 refine aa (ai (wpAny_throw ?_));exact q _ _ (((bN ..).extBut.push _).push _) ⟨_,au _ rfl,rfl⟩
end
end PySem
namespace L2
open PySem PySem.Spec PyProof.Rows
noncomputable def Itzt(K:ae)(a b:Addr):It:=
 ⟨fun i H=>∃xs ys x y,SqT K H a xs/\SqL K H b ys/\xs[i]? =some x/\ys[i]? =some y,
  fun i H v H'=>∃p x y,H p=none/\H'=upd H p (.tup [x,y])/\v=.ref p/\(∀xs,SqT K H a xs->xs[i]? =some x)/\∀ys,SqL K H b ys->ys[i]? =some y,
  fun i H=>∃xs,SqT K H a xs/\xs.length<=i⟩
theorem tup_ne{h:Heap}{a c:Addr}{its:Array Value}{o:Obj}(hl:h.IsTuple a its)(hc:h.get? c=some o)(hk:o.cls≠.type "tuple"):a≠c:=by
 obtain⟨o',e,k,_⟩:=hl;rintro rfl;rw[e]at hc;cases hc;exact hk k
section
variable {X:Cx}{es:List Expr}{kk:Nat}{pp:Pos}
noncomputable def iZipT(K:ae)(t:TA):TI:=fun σ H R=>t σ H fun vs H1=>∃a b,vs=[.ref a,.ref b]/\(∃xs,SqT K H1 a xs)/\(∃ys,SqL K H1 b ys)/\R (Itzt K a b) H1
end
end L2
namespace PySem
open Sem (wp)
local macro_rules | `(term| «the numeral») => return Lean.mkIdent (cb (cb (cb (Lean.Name.num (cb (cb (cb (cb (cb zO "_private") "PySem") "Builtin") "Int") "W0All") 0) "PySem") "Builtin") "readNumeral")
local macro_rules | `(term| «a value») => return Lean.mkIdent (cb (cb (cb (cb (Lean.Name.num (cb (cb (cb (cb (cb zO "_private") "PySem") "Builtin") "Int") "W0All") 0) "PySem") "Builtin") "Numeral") "value")
end PySem
namespace L2
open PySem PySem.Spec PyProof.Rows
inductive Fig:Str->Int->Prop
 |one {a:Nat} (h:a<10):Fig ⟨#[48+a]⟩ (a:Nat)
 |two {a b:Nat} (ha:a<10) (hb:b<10):Fig ⟨#[48+a,48+b]⟩ (10*a+b:Nat)
section
variable {X:Cx}{dic:Addr->Option (List (Key×V))}
noncomputable def upS(z:Str):Str:=⟨placed z fun _ c=>Unicode.upperOf c⟩
noncomputable def rUpper:V->List V->Hp->VK->Prop:=fun x vs H Q=>∃z:Str,x=.str z/\vs=[]/\(upS z).length<=100/\Q (.str (upS z)) H
noncomputable def rNiG(dic:Addr->Option (List (Key×V))):R2:=fun x y H Q=>∃a kvs k,y=.ref a/\dic a=some kvs/\x=kV k/\Q (.bl (!(dX kvs k).isSome)) H
end
end L2
namespace Q
open PySem PySem.Spec PySem.W PyProof.Rows L2
noncomputable def llt:List Int->List Int->Bool
 | [],[]=>false
 | [],_::_=>true
 |_::_,[]=>false
 |a::x,b::y=>decide (a<b)||(decide (a=b)&&llt x y)
theorem uY:∀{x y z:List Int},llt x y=true->llt y z=true->llt x z=true
 | [],[],_,h,_=>nomatch h
 | [],_::_,[],_,h=>nomatch h
 | [],_::_,_::_,_,_=>rfl
 |_::_,[],_,h,_=>nomatch h
 |_::_,_::_,[],_,h=>nomatch h
 |a::x,b::y,c::z,h,k=>by
  simp only[llt,cD,ah,decide_eq_true_eq]at h k⊢;rcases h with h|⟨rfl,h⟩
  ·rcases k with k|⟨rfl,k⟩
   ·exact .inl (by omega)
   ·exact .inl h
  ·rcases k with k|⟨rfl,k⟩
   ·exact .inl k
   ·exact .inr ⟨rfl,uY h k⟩
theorem qS:∀{x y:List Int},x≠y->llt x y= !llt y x
 | [],[],h=>absurd rfl h
 | [],_::_,_=>rfl
 |_::_,[],_=>rfl
 |a::x,b::y,h=>by
  by_cases e:a=b
  ·subst e
   have :=qS (x:=x) (y:=y) fun z=>h (by rw[z])
   simp[llt,this]
  ·by_cases c:a<b
   ·have :¬b<a:=by omega
    simp[llt,c,this,e,bz e]
   ·have :b<a:=by omega
    simp[llt,c,this,e,bz e]
noncomputable def ltL(ps:List (List Int))(i j:Nat):Bool:=llt (ps.getD i []) (ps.getD j [])
noncomputable def ordL(ps:List (List Int)):List Nat:=if ps.length<2 then az ps.length else(run (ltL ps) (dz ps.length)).toList
noncomputable def iw{α:Type}(d:α)(ps:List (List Int))(ys:List α):List α:=(ordL ps).map fun i=>ys.getD i d
theorem neL{ps:List (List Int)}(nd:ps.Nodup){i j:Nat}(hi:i<ps.length)(hj:j<ps.length)(h:i≠j):ps.getD i []≠ps.getD j []:=fun e=>by
 rw[aj,aj,ag hi,ag hj]at e;exact h ((fk nd).mp e)
theorem totL{ps:List (List Int)}(nd:ps.Nodup):Tot (ltL ps) ps.length where
 tri:=fun i j hi hj h=>qS (neL nd hi hj h)
 tr:=fun i j k _ _ _ a b=>uY a b
theorem uQ{ps:List (List Int)}(nd:ps.Nodup):(ordL ps).Perm (az ps.length):=by
 unfold ordL;split
 ·exact d4 _
 ·have P:=(fO (totL nd) (by omega)).1
  have :=gc.mp P.perm
  simpa using this
theorem uP{ps:List (List Int)}{ys:List V}{vs:List Value}(nd:ps.Nodup)(hl:ps.length=ys.length)(r:bM ys vs):bM (iw .non ps ys) (fP (ltL ps) vs):=by
 have hlen:=r.length;have e:vs.length=ps.length:=by omega
 unfold fP iw ordL;rw[e];by_cases c:ps.length<2
 ·rw[if_pos c,if_pos c]
  have e2:(az ps.length).map (fun i=>ys.getD i V.non)=ys:=by
   rw[hl];apply cU
   ·simp
   ·intro i h1 h2
    simp[h2]
  rw[e2];exact r
 ·rw[if_neg c,if_neg c]
  have P:=(fO (totL nd) (by omega)).1;have all:∀l:List Nat,(∀i∈l,i<ps.length)->bM (l.map fun i=>ys.getD i V.non) (l.map fun i=>vs.getD i bI):=by
   intro l
   induction l with
   |nil=>exact fun _=>.nil
   |cons i l ih=>
    intro h;have hi:i<ys.length:=by have :=h i (.head _);omega
    obtain⟨u,hu,ru⟩:=r.get (ag hi);refine .cons ?_ (ih fun j hj=>h j (.tail _ hj));show L2.RelV (ys.getD i V.non) (vs.getD i bI);rw[aj,ag hi,aj,hu];exact ru
  refine all _ fun i hi=>?_;have m:i∈(az ps.length).toArray:=P.perm.mem_iff.mp (i4.mp hi);simpa using m
noncomputable def pS(h:Heap)(vs:List Value)(ps:List (List Int)):Prop:=Paired (fun v k=>∃a o its n,v=.ref a/\h.get? a=some o/\o.cls=.type "tuple"/\o.data=.seq its n/\bV its.toList k) vs ps
theorem jF{h:Heap}{vs:List Value}{ps:List (List Int)}(r:pS h vs ps){i:Nat}(hi:i<vs.length):∃a o its n,vs.getD i .none=.ref a/\h.get? a=some o/\o.data=.seq its n/\bV its.toList (ps.getD i []):=by
 unfold pS at r
 induction r generalizing i with
 |nil=>exact absurd hi (fS _)
 |cons y t ih=>
  cases i with
  |zero=>
   obtain⟨a,o,its,n,e1,e2,e3,e4,e5⟩:=y;exact⟨a,o,its,n,e1,e2,e4,e5⟩
  |succ i=>exact ih (by simpa using hi)
theorem GX{h h1:Heap}(kp:∀b o,h.get? b=some o->h1.get? b=some o){vs:List Value}{ps:List (List Int)}(r:pS h vs ps)(hp:∀k∈ps,k≠[]):∃fs,KatTups h1 vs fs/\fs.length=vs.length/\∀v∈fs,∃x t,v=fK x t:=by
 unfold pS at r
 induction r with
 |nil=>exact⟨[],.nil,rfl,fun v hv=>nomatch hv⟩
 | @cons v k vs ps y t ih=>
  obtain⟨fs,a1,a2,a3⟩:=ih fun k hk=>hp k (aN _ hk);obtain⟨a,o,its,n,rfl,e2,e3,e4,e5⟩:=y;have hk:=hp k aS;obtain⟨l⟩:=its;cases l with
  |nil=>
   cases e5;exact absurd rfl hk
  |cons u l=>
   cases e5 with
   |cons x t h=>
    refine⟨_::fs,.cons (kp _ _ e2) e3 e4 rfl a1,by simp[a2],fun v hv=>?_⟩;rcases aC.mp hv with rfl|hv
    ·exact⟨_,_,rfl⟩
    ·exact a3 v hv
theorem GF{prog:Program}{w:World}{A:Around}{b fin:Bool}{C:Bool->Shared->Prop}{s:Shared}{xs ys:List Value}{x y:List Int}(i:Nat)(hx:bV xs x)(hy:bV ys y)(hl:x.length=y.length)(h:x≠y)(q:C (llt x y) s):KatLex prog w A b fin C (xs.zip ys) (i+1) s:=by
 induction hx generalizing ys y i with
 |nil=>cases hy with
  |nil=>exact absurd rfl h
  |cons=>simp at hl
 |cons a t hx ih=>cases hy with
  |nil=>simp at hl
  |cons c u hy=>
   refine kat_cons (jw ?_);by_cases e:a=c
   ·subst e
    rw[show(a==a)=true by simp];refine kat_yes (ih (i+1) hy (by simpa using hl) (fun z=>h (by rw[z])) ?_);simp[llt]at q;exact q
   ·rw[show(a==c)=false by simpa using e]
    refine kat_no ?_;rw[show(b&&(i+1==0))=false by simp];refine kat_one _ _ (lt_int ?_);simp[llt,e]at q;exact q
theorem xA{prog:Program}{w:World}{A:Around}{ps:List (List Int)}{vs:List Value}{h0:Heap}{m:Nat}(nd:ps.Nodup)(hl:vs.length=ps.length)(r:pS h0 vs ps)(h2:2<=vs.length)(hm:∀k∈ps,k.length=m):D9 prog w A (ltL ps) vs h0:=by
 have hm0:m≠0:=fun z=>by
  have e:∀i,i<ps.length->ps.getD i []=[]:=fun i hi=>by
   rw[aj,ag hi];exact bW.mp ((hm _ (bq hi)).trans z)
  exact neL nd (i:=0) (j:=1) (by omega) (by omega) (by decide) ((e 0 (by omega)).trans (e 1 (by omega)).symm)
 intro s1 kp;refine⟨tuples' true,fun Q' E' q=>?_,fun i j C hi hj hij q=>?_⟩
 ·obtain⟨fs,a1,a2,a3⟩:=GX kp r fun k hk z=>hm0 (by rw[<-hm k hk,z];rfl)
  refine kat_kind (T:=.type "int") a1 (by omega) (fun v hv=>?_) rfl q;obtain⟨x,t,rfl⟩:=a3 v hv;exact Looks.of_pure rfl
 ·obtain⟨a,o,its,n,e1,e2,e3,e4⟩:=jF r hi
  obtain⟨b,o',its',n',f1,f2,f3,f4⟩:=jF r hj;have hne:=neL nd (hl▸hi) (hl▸hj) hij;have l1:(ps.getD i []).length=m:=by rw[aj,ag (hl▸hi)];exact hm _ (bq _)
  have l2:(ps.getD j []).length=m:=by rw[aj,ag (hl▸hj)];exact hm _ (bq _)
  unfold kas_ask;unfold ltL at q;rw[e1,f1];generalize ps.getD i []=x at *;generalize ps.getD j []=y at *;refine kat_lt (kp _ _ e2) e3 (kp _ _ f2) f3 ?_;generalize its.toList=xs at *;generalize its'.toList=ys at *;cases e4 with
  |nil=>exact absurd l1.symm hm0
  | @cons c t xs x hx=>
   cases f4 with
   |nil=>exact absurd l2.symm hm0
   | @cons d u ys y hy=>
    refine kat_cons (jw ?_);by_cases e:c=d
    ·subst e
     rw[show(c==c)=true by simp];refine kat_yes (GF 0 hx hy (by simp at l1 l2;omega) (fun z=>hne (by rw[z])) ?_);simp[llt]at q;exact q
    ·rw[show(c==d)=false by simpa using e]
     refine kat_no (oneLt_int ?_);simp[llt,e]at q;exact q
noncomputable def IntKeys(H:Hp)(ys:List V)(ps:List (List Int)):Prop:=Paired (fun v k=>∃a,v=V.ref a/\H a=some (.tup (k.map V.int))) ys ps
theorem yP{H:Hp}{ys:List V}{ps:List (List Int)}(h:IntKeys H ys ps):ps.length=ys.length:=by
 unfold IntKeys at h
 induction h with
 |nil=>rfl
 |cons _ _ ih=>simp[ih]
theorem qU{P:Program}{w:World}{H:Hp}{h:Heap}(ok:HOk P w H h){ys:List V}{ps:List (List Int)}{vs:List Value}(k:IntKeys H ys ps):bM ys vs->pS h vs ps:=by
 unfold IntKeys at k
 induction k generalizing vs with
 |nil=>intro z;cases z;exact .nil
 |cons y t ih=>
  intro z;cases z with
  |cons r q=>
   obtain⟨a,rfl,e⟩:=y;cases r;obtain⟨_,its,rv,o,e1,e2,n,e3⟩:=ok a _ e;exact .cons ⟨a,o,its.toArray,n,rfl,e1,e2,e3,by simpa using intsAre_of rv⟩ (ih q)
noncomputable def Fu(K:ae):List V->Hp->VK->Prop:=fun xs H Q=>∃p ys ps m,xs=[V.ref p]/\SqL K H p ys/\ps.length<64/\ps.Nodup/\(∀k∈ps,k.length=m)/\IntKeys H ys ps/\∀l,H l=none->Q (.ref l) (upd H l (.lst (iw .non ps ys)))
theorem xk{X:Cx}:eL X (.builtin "sorted") (Fu X.K):=by
 intro pins s σ H xs us Q I r h;obtain⟨p,ys,ps,m,rfl,hq,h64,nd,hm,hk,q⟩:=h;obtain⟨u,rfl,rx⟩:=vals1 r;cases rx;obtain⟨its,r',pl,hz⟩:=I.list hq;have hl:ps.length=ys.length:=yP hk;have hlen:=r'.length;have hv:its.length=ps.length:=by omega
 refine pA (lt:=ltL ps) (vs:=its) (by rw[hv];exact totL nd) pl.isList (by omega) (fun h2=>xA nd hv (qU I.hok hk r') h2 hm) ?_;obtain⟨c,hc⟩:=sortedAll_at s.heap its (fP (ltL ps) its).toArray;have hz2:(iw V.non ps ys).length<=sizeLine:=by
  unfold iw;rw[ao,(uQ nd).length_eq,cJ];omega
 exact⟨.ref (s.heap.objs.size+1),_,I.laid (t':=s.toks) (fun b o e=>HP e) (cZ _) (show dh X.prog X.w _ _ _ (.lst (iw .non ps ys))from⟨hz2,_,c,uP nd hl r',hc⟩),rfl,q _ (I.hok.fresh (cZ _))⟩
theorem yK:∀x:List Int,llt x x=false
 | []=>rfl
 |a::x=>by simp[llt,yK x]
theorem BQ{prog:Program}{w:World}{A:Around}{E:Value->Shared->Prop}{s:Shared}{p q:Addr}{us vs:List Value}{a b:List Int}{P:dI->Shared->Prop}(hx:IsTup s.heap p us.toArray)(hy:IsTup s.heap q vs.toArray)
  (ha:bV us a)(hb:bV vs b)(hl:a.length=b.length)
  (h:P (.done (.ret (.bool (llt a b)))) s):wpAny (model prog w) A (Builtin.«tuple.__lt__» ⟨[.ref p,.ref q],[]⟩) P E s:=by
 have hTb:=hy.typeIs;show wpAny _ _ (uy (.ref q) (.type "tuple")>>=_) _ _ s;refine aa (jv hTb isSubtype_tuple_tuple ?_);simp only[eB,aI,if_false];refine aa (tR hx ?_);refine aa (tR hy ?_);refine aa ?_;show wpAny _ _ (forIn (us.zip vs) _ _) _ _ s;refine wpAny_forIn_list _ (fun rest r s'=>r.1=none/\s'=s/\∃us' vs' a' b',rest=List.zip us' vs'/\us'.length=vs'.length/\bV us' a'/\bV vs' b'/\llt a b=llt a' b') _ ?_ ?_ _ _ ⟨rfl,rfl,us,vs,a,b,rfl,by rw[ha.length,hb.length,hl],ha,hb,rfl⟩
 ·rintro x rest ⟨r,_⟩ s' ⟨hr,rfl,us',vs',a',b',e,hl',ia,ib,hll⟩
  obtain rfl:r=none:=hr;cases ia with
  |nil=>cases e
  |cons m t ia=>
   cases ib with
   |nil=>cases hl'
   |cons n u ib=>
    rw[j8]at e;cases e;dsimp only;refine aa (jw ?_);by_cases c:m=n
    ·rw[show(m==n)=true by simpa using c]
     simp only[eB,aI,if_false];refine ai ⟨rfl,rfl,_,_,_,_,rfl,by simpa using hl',ia,ib,?_⟩;rw[hll];simp[llt,c]
    ·rw[show(m==n)=false by simpa using c]
     simp only[Bool.not_false,if_true];have e2:llt a b=decide (m<n):=by rw[hll];simp[llt,c]
     rw[e2]at h;refine aa (fV (aa (show wpAny _ _ (cY .Lt (fK m t) (fK n u)) _ _ _ from lt_int (aa (ai (ai ?_))))));exact ai h
 ·rintro⟨r,_⟩ s' ⟨hr,rfl,us',vs',a',b',e,hl',ia,ib,hll⟩
  obtain rfl:r=none:=hr;dsimp only;have e2:llt a b=false:=by
   rw[hll];cases ia with
   |nil=>cases ib with
    |nil=>rfl
    |cons n u ib=>cases hl'
   |cons m t ia=>cases ib with
    |nil=>cases hl'
    |cons n u ib=>rw[j8]at e;cases e
  rw[e2]at h;have hz:us.toArray.size=vs.toArray.size:=by rw[ay,ay,ha.length,hb.length,hl]
  have e3:eF .Lt us.toArray.size vs.toArray.size=.bool false:=by rw[hz];simp[eF]
  rw[e3];exact ai h
theorem gt_tree{prog:Program}{w:World}{A:Around}{E:Value->Shared->Prop}{s:Shared}{p q:Addr}{us vs:List Value}{a b:List Int}{P:dI->Shared->Prop}(hx:IsTup s.heap p us.toArray)(hy:IsTup s.heap q vs.toArray)
  (ha:bV us a)(hb:bV vs b)(hl:a.length=b.length)
  (h:P (.done (.ret (.bool (llt b a)))) s):wpAny (model prog w) A (Builtin.«tuple.__gt__» ⟨[.ref p,.ref q],[]⟩) P E s:=by
 have hTb:=hy.typeIs;show wpAny _ _ (uy (.ref q) (.type "tuple")>>=_) _ _ s;refine aa (jv hTb isSubtype_tuple_tuple ?_);simp only[eB,aI,if_false];refine aa (tR hx ?_);refine aa (tR hy ?_);refine aa ?_;show wpAny _ _ (forIn (us.zip vs) _ _) _ _ s;refine wpAny_forIn_list _ (fun rest r s'=>r.1=none/\s'=s/\∃us' vs' a' b',rest=List.zip us' vs'/\us'.length=vs'.length/\bV us' a'/\bV vs' b'/\llt b a=llt b' a') _ ?_ ?_ _ _ ⟨rfl,rfl,us,vs,a,b,rfl,by rw[ha.length,hb.length,hl],ha,hb,rfl⟩
 ·rintro x rest ⟨r,_⟩ s' ⟨hr,rfl,us',vs',a',b',e,hl',ia,ib,hll⟩
  obtain rfl:r=none:=hr;cases ia with
  |nil=>cases e
  |cons m t ia=>
   cases ib with
   |nil=>cases hl'
   |cons n u ib=>
    rw[j8]at e;cases e;dsimp only;refine aa (jw ?_);by_cases c:m=n
    ·rw[show(m==n)=true by simpa using c]
     simp only[eB,aI,if_false];refine ai ⟨rfl,rfl,_,_,_,_,rfl,by simpa using hl',ia,ib,?_⟩;rw[hll];simp[llt,c]
    ·rw[show(m==n)=false by simpa using c]
     simp only[Bool.not_false,if_true];have e2:llt b a=decide (n<m):=by rw[hll];simp[llt,bz c]
     rw[e2]at h;refine aa (fV (aa (show wpAny _ _ (cY .Gt (fK m t) (fK n u)) _ _ _ from PyProof.Rows.gt_int (aa (ai (ai ?_))))));exact ai h
 ·rintro⟨r,_⟩ s' ⟨hr,rfl,us',vs',a',b',e,hl',ia,ib,hll⟩
  obtain rfl:r=none:=hr;dsimp only;have e2:llt b a=false:=by
   rw[hll];cases ia with
   |nil=>cases ib with
    |nil=>rfl
    |cons n u ib=>cases hl'
   |cons m t ia=>cases ib with
    |nil=>cases hl'
    |cons n u ib=>rw[j8]at e;cases e
  rw[e2]at h;have hz:us.toArray.size=vs.toArray.size:=by rw[ay,ay,ha.length,hb.length,hl]
  have e3:eF .Gt us.toArray.size vs.toArray.size=.bool false:=by rw[hz];simp[eF]
  rw[e3];exact ai h
section
variable {prog:Program}{w:World}{A:Around}{I:Addr}{fp wr:List Addr}{G:Array nM->Array nM->Prop}{P:Nat->Value->Prop}{St:Nat->Shared->Prop}{R:Result->Shared->Prop}
theorem Dv(W:WalksS prog w A.in1 I fp wr G 2 P St){S:Addr}(hSf:S∉fp){v0 v1:Value}(h0:∀v,P 0 v->v=v0)(h1:∀v,P 1 v->v=v1){s:Shared}{c:Nat}{bt:Bool}(hst:St 0 s)
  (hS:s.heap.get? S=some {cls:=.type "list",dict:=none,data:=.seq #[] c,slots:= #[]})
  (hcmp:∀(s':Shared)(Q:Value->Shared->Prop)(E:Value->Shared->Prop),Moved (S::wr) G s s'->Q (.bool bt) s'->wpAny (model prog w) A.in1 (zH .Lt v1 v0) Q E s')
  (hR:∀s',Moved (S::wr) G s s'->R (.ok (.ret (if bt=true then v1 else v0))) s'):fC (model prog w) A (.builtin "min.loop" ⟨[.ref I,.none,.ref S],[]⟩) R s:=by
 have hSw:S∉wr:=fun h=>hSf (W.sub _ h);have up:∀b∈wr,b∈S::wr:=fun b hb=>aN _ hb;have nm:(toString "min"++toString ".loop":String)="min.loop":=by decide
 have ns:∀{b:Addr},b∉S::wr->S≠b:=fun hb h=>hb (by rw[h];exact aS)
 --the last turn
 have last:∀(s1:Shared)(x:Value)(d:Nat),St 2 s1->s1.heap.get? S=some {cls:=.type "list",dict:=none,data:=.seq #[x,x] d,slots:= #[]}->Moved (S::wr) G s s1->x=(if bt=true then v1 else v0)->
   fC (model prog w) A (.builtin "min.loop" ⟨[.ref I,.none,.ref S],[]⟩) R s1:=by
  intro s1 x d st g mv ex;refine cW xQ ?_;rw[bY fA _];show wpAny _ A.in1 (jx (.ref S)>>=_) _ _ s1;refine aa (dY g rfl ?_);show wpAny _ A.in1 (tryCatch (pyNext (.ref I)) _>>=_) _ _ s1;refine aa (fG (W.done s1 _ _ st fun s' hm=>?_));have g':=hm.heap S _ hSw g;show wpAny _ A.in1 (updateSeq S (fun _=> #[])>>=_) _ _ _;refine aa (ip g' rfl (aa (fT (ai ?_))));rw[ex];exact hR _ (nL W.gtrans mv ((hm.mono up).then_heap (tk:=s'.toks) (aw _) fun b o hb e=>(aB _ _ (ns hb)).trans e))
 --the second
 have second:∀(s1:Shared)(d:Nat),St 1 s1->s1.heap.get? S=some {cls:=.type "list",dict:=none,data:=.seq #[v0,v0] d,slots:= #[]}->Moved (S::wr) G s s1->
   fC (model prog w) A (.builtin "min.loop" ⟨[.ref I,.none,.ref S],[]⟩) R s1:=by
  intro s1 d st g mv;refine cW xQ ?_;rw[bY fA _];show wpAny _ A.in1 (jx (.ref S)>>=_) _ _ s1;refine aa (dY g rfl ?_);show wpAny _ A.in1 (tryCatch (pyNext (.ref I)) _>>=_) _ _ s1;refine aa (fG (W.item 1 s1 _ _ (by decide) st fun v s' hP st' hm=>?_));obtain rfl:=h1 v hP;have g':=hm.heap S _ hSw g;have mv':=nL W.gtrans mv (hm.mono up);show wpAny _ A.in1 (tryCatch (holding [v,v] (zH .Lt v v0>>=_)) _>>=_) _ _ _;refine aa (fG (bh (aa (hcmp _ _ _ mv' ?_))));refine aa (bh (cO ?_));refine aa (fT (ai ?_));cases hb:bt with
  |true=>
   simp only[if_true];refine aa (ip g' rfl (aa (fT ?_)));rw[nm];refine ai ⟨dE fA _,last _ v _ (W.frame _ s' _ s'.toks st' (aw _) fun b hbf o e=>?_) (bu _ g' rfl) (mv'.then_heap (aw _) fun b o hb e=>(aB _ _ (ns hb)).trans e) (by rw[hb];rfl)⟩;exact(aB _ _ (fun h:S=b=>hSf (by rw[h];exact hbf))).trans e
  |false=>
   simp only[aI,if_false];refine aa (fT ?_);rw[nm];exact ai ⟨dE fA _,last _ v0 _ st' g' mv' (by rw[hb];rfl)⟩
 refine cW xQ ?_;rw[bY fA _];show wpAny _ A.in1 (jx (.ref S)>>=_) _ _ s;refine aa (dY hS rfl ?_);show wpAny _ A.in1 (tryCatch (pyNext (.ref I)) _>>=_) _ _ s;refine aa (fG (W.item 0 s _ _ (by decide) hst fun v s' hP st' hm=>?_));obtain rfl:=h0 v hP;have g':=hm.heap S _ hSw hS;show wpAny _ A.in1 (updateSeq S (fun _=> #[v,v])>>=_) _ _ _;refine aa (ip g' rfl ?_);rw[nm];refine ai ⟨dE fA _,second _ _ (W.frame _ s' _ s'.toks st' (aw _) fun b hbf o e=>?_) (bu _ g' rfl) ((hm.mono up).then_heap (aw _) fun b o hb e=>(aB _ _ (ns hb)).trans e)⟩;exact(aB _ _ (fun h:S=b=>hSf (by rw[h];exact hbf))).trans e
theorem Dx(W:WalksS prog w A.in1 I fp wr G 2 P St){S:Addr}(hSf:S∉fp){v0 v1:Value}(h0:∀v,P 0 v->v=v0)(h1:∀v,P 1 v->v=v1){s:Shared}{c:Nat}{bt:Bool}(hst:St 0 s)
  (hS:s.heap.get? S=some {cls:=.type "list",dict:=none,data:=.seq #[] c,slots:= #[]})
  (hcmp:∀(s':Shared)(Q:Value->Shared->Prop)(E:Value->Shared->Prop),Moved (S::wr) G s s'->Q (.bool bt) s'->wpAny (model prog w) A.in1 (zH .Gt v1 v0) Q E s')
  (hR:∀s',Moved (S::wr) G s s'->R (.ok (.ret (if bt=true then v1 else v0))) s'):fC (model prog w) A (.builtin "max.loop" ⟨[.ref I,.none,.ref S],[]⟩) R s:=by
 have hSw:S∉wr:=fun h=>hSf (W.sub _ h);have up:∀b∈wr,b∈S::wr:=fun b hb=>aN _ hb;have nm:(toString "max"++toString ".loop":String)="max.loop":=by decide
 have ns:∀{b:Addr},b∉S::wr->S≠b:=fun hb h=>hb (by rw[h];exact aS)
 --the last turn
 have last:∀(s1:Shared)(x:Value)(d:Nat),St 2 s1->s1.heap.get? S=some {cls:=.type "list",dict:=none,data:=.seq #[x,x] d,slots:= #[]}->Moved (S::wr) G s s1->x=(if bt=true then v1 else v0)->
   fC (model prog w) A (.builtin "max.loop" ⟨[.ref I,.none,.ref S],[]⟩) R s1:=by
  intro s1 x d st g mv ex;refine cW xR ?_;rw[bY fB _];show wpAny _ A.in1 (jx (.ref S)>>=_) _ _ s1;refine aa (dY g rfl ?_);show wpAny _ A.in1 (tryCatch (pyNext (.ref I)) _>>=_) _ _ s1;refine aa (fG (W.done s1 _ _ st fun s' hm=>?_));have g':=hm.heap S _ hSw g;show wpAny _ A.in1 (updateSeq S (fun _=> #[])>>=_) _ _ _;refine aa (ip g' rfl (aa (fT (ai ?_))));rw[ex];exact hR _ (nL W.gtrans mv ((hm.mono up).then_heap (tk:=s'.toks) (aw _) fun b o hb e=>(aB _ _ (ns hb)).trans e))
 --the second
 have second:∀(s1:Shared)(d:Nat),St 1 s1->s1.heap.get? S=some {cls:=.type "list",dict:=none,data:=.seq #[v0,v0] d,slots:= #[]}->Moved (S::wr) G s s1->
   fC (model prog w) A (.builtin "max.loop" ⟨[.ref I,.none,.ref S],[]⟩) R s1:=by
  intro s1 d st g mv;refine cW xR ?_;rw[bY fB _];show wpAny _ A.in1 (jx (.ref S)>>=_) _ _ s1;refine aa (dY g rfl ?_);show wpAny _ A.in1 (tryCatch (pyNext (.ref I)) _>>=_) _ _ s1;refine aa (fG (W.item 1 s1 _ _ (by decide) st fun v s' hP st' hm=>?_));obtain rfl:=h1 v hP;have g':=hm.heap S _ hSw g;have mv':=nL W.gtrans mv (hm.mono up);show wpAny _ A.in1 (tryCatch (holding [v,v] (zH .Gt v v0>>=_)) _>>=_) _ _ _;refine aa (fG (bh (aa (hcmp _ _ _ mv' ?_))));refine aa (bh (cO ?_));refine aa (fT (ai ?_));cases hb:bt with
  |true=>
   simp only[if_true];refine aa (ip g' rfl (aa (fT ?_)));rw[nm];refine ai ⟨dE fB _,last _ v _ (W.frame _ s' _ s'.toks st' (aw _) fun b hbf o e=>?_) (bu _ g' rfl) (mv'.then_heap (aw _) fun b o hb e=>(aB _ _ (ns hb)).trans e) (by rw[hb];rfl)⟩;exact(aB _ _ (fun h:S=b=>hSf (by rw[h];exact hbf))).trans e
  |false=>
   simp only[aI,if_false];refine aa (fT ?_);rw[nm];exact ai ⟨dE fB _,last _ v0 _ st' g' mv' (by rw[hb];rfl)⟩
 refine cW xR ?_;rw[bY fB _];show wpAny _ A.in1 (jx (.ref S)>>=_) _ _ s;refine aa (dY hS rfl ?_);show wpAny _ A.in1 (tryCatch (pyNext (.ref I)) _>>=_) _ _ s;refine aa (fG (W.item 0 s _ _ (by decide) hst fun v s' hP st' hm=>?_));obtain rfl:=h0 v hP;have g':=hm.heap S _ hSw hS;show wpAny _ A.in1 (updateSeq S (fun _=> #[v,v])>>=_) _ _ _;refine aa (ip g' rfl ?_);rw[nm];refine ai ⟨dE fB _,second _ _ (W.frame _ s' _ s'.toks st' (aw _) fun b hbf o e=>?_) (bu _ g' rfl) ((hm.mono up).then_heap (aw _) fun b o hb e=>(aB _ _ (ns hb)).trans e)⟩;exact(aB _ _ (fun h:S=b=>hSf (by rw[h];exact hbf))).trans e
theorem pO{E:Value->Shared->Prop}{s:Shared}{p q:Addr}{us vs:List Value}{a b:List Int}{Q:Value->Shared->Prop}(hh:A.handled=none)(hu:A.units+1<cLine)(hx:IsTup s.heap p us.toArray)(hy:IsTup s.heap q vs.toArray)(ha:bV us a)(hb:bV vs b)(hl:a.length=b.length)
  (h:∀h' tk,(∀c o,s.heap.get? c=some o->h'.get? c=some o)->Q (if llt b a=true then .ref q else .ref p) {s with heap:=h',toks:=tk}):
  wpAny (model prog w) A (call (.builtin "min") [.ref p,.ref q]) Q E s:=by
 have hname:(toString "min"++toString ".loop":String)="min.loop":=by decide
 have hT:(s.heap.push {cls:=.type "tuple",data:=.seq #[.ref p,.ref q]}).IsTuple s.heap.objs.size #[.ref p,.ref q]:=⟨_,au _ rfl,rfl,0,rfl⟩;have hsz:(s.heap.push {cls:=.type "tuple",data:=.seq #[.ref p,.ref q]}).objs.size=s.heap.objs.size+1:=bS ..;refine call_function_tree F.kind_min F.plain_min F.entry_min (F.args_min2 _ _) ?_;show wpAny _ A.in1 (eW "min" ["key","default"] 0 ⟨[],[]⟩>>=_) _ _ s;refine aa (my (show eW "min" ["key","default"] 0 ⟨[],[]⟩=pure [none,none]from rfl) ?_);show wpAny _ A.in1 (newTuple [.ref p,.ref q]>>=_) _ _ s;refine aa (bU ?_);refine aa (fW hT ?_);refine aa (bU ?_);rw[hname];have hz2:∀o o':Obj,((s.heap.push o).push o').objs.size=s.heap.objs.size+2:=fun o o'=>by rw[bS,bS]
 refine ai ⟨dE fA _,Dv (v0:=.ref p) (v1:=.ref q) (bt:=llt b a) ((Walks.tuple (A:=A.in1) hh _ s.heap.objs.size (by rw[hsz];exact aD (bZ _)) #[.ref p,.ref q]).toS) ?_ (fun v e=>by simpa using e.symm) (fun v e=>by simpa using e.symm) ⟨⟨_,af _ (au _ rfl),rfl,rfl⟩,(hT.push _).push _⟩ (au _ rfl) ?_ ?_⟩
 ·intro hm
  simp only[hz2,hsz]at hm;rcases aC.mp hm with e|hm
  ·exact absurd e (cV (bZ _))
  ·exact absurd (aO.mp hm) (cV (bo (bZ _)))
 ·intro s' Q' E' mv q'
  have old:∀c o,s.heap.get? c=some o->s'.heap.get? c=some o:=fun c o e=>by
   have hlt:=av e;refine mv.heap c o (fun hm=>?_) (af _ (af _ (af _ e)));rcases aC.mp hm with e|hm
   ·rw[e]at hlt;simp only[hz2]at hlt;exact absurd hlt (gX.mpr (dq _ _))
   ·rw[aO.mp hm,hsz]at hlt;exact absurd hlt (gX.mpr (dq _ _))
  have hx':IsTup s'.heap p us.toArray:=hx.keeps old;have hy':IsTup s'.heap q vs.toArray:=hy.keeps old;exact kU (op:=.Lt) hy'.typeIs hx'.typeIs nR (cK nR hy'.typeIs F.entry_tuple_lt (BQ hy' hx' hb ha hl.symm ⟨_,rfl,(fun e=>nomatch e),q'⟩) (F.args_tuple_lt_2 _ _)) hu
 ·intro s' mv
  have old:∀c o,s.heap.get? c=some o->s'.heap.get? c=some o:=fun c o e=>by
   have hlt:=av e;refine mv.heap c o (fun hm=>?_) (af _ (af _ (af _ e)));rcases aC.mp hm with e|hm
   ·rw[e]at hlt;simp only[hz2]at hlt;exact absurd hlt (gX.mpr (dq _ _))
   ·rw[aO.mp hm,hsz]at hlt;exact absurd hlt (gX.mpr (dq _ _))
  obtain⟨h',g',d',tk',os'⟩:=s';obtain rfl:g'=s.gens:=mv.gens;obtain rfl:d'=s.drawn:=mv.drawn;obtain rfl:os'=s.os:=mv.os;exact h h' tk' old
theorem DV{E:Value->Shared->Prop}{s:Shared}{p q:Addr}{us vs:List Value}{a b:List Int}{Q:Value->Shared->Prop}(hh:A.handled=none)(hu:A.units+1<cLine)(hx:IsTup s.heap p us.toArray)(hy:IsTup s.heap q vs.toArray)(ha:bV us a)(hb:bV vs b)(hl:a.length=b.length)
  (h:∀h' tk,(∀c o,s.heap.get? c=some o->h'.get? c=some o)->Q (if llt a b=true then .ref q else .ref p) {s with heap:=h',toks:=tk}):
  wpAny (model prog w) A (call (.builtin "max") [.ref p,.ref q]) Q E s:=by
 have hname:(toString "max"++toString ".loop":String)="max.loop":=by decide
 have hT:(s.heap.push {cls:=.type "tuple",data:=.seq #[.ref p,.ref q]}).IsTuple s.heap.objs.size #[.ref p,.ref q]:=⟨_,au _ rfl,rfl,0,rfl⟩;have hsz:(s.heap.push {cls:=.type "tuple",data:=.seq #[.ref p,.ref q]}).objs.size=s.heap.objs.size+1:=bS ..;refine call_function_tree F.kind_max F.plain_max F.entry_max (F.args_max2 _ _) ?_;show wpAny _ A.in1 (eW "max" ["key","default"] 0 ⟨[],[]⟩>>=_) _ _ s;refine aa (my (show eW "max" ["key","default"] 0 ⟨[],[]⟩=pure [none,none]from rfl) ?_);show wpAny _ A.in1 (newTuple [.ref p,.ref q]>>=_) _ _ s;refine aa (bU ?_);refine aa (fW hT ?_);refine aa (bU ?_);rw[hname];have hz2:∀o o':Obj,((s.heap.push o).push o').objs.size=s.heap.objs.size+2:=fun o o'=>by rw[bS,bS]
 refine ai ⟨dE fB _,Dx (v0:=.ref p) (v1:=.ref q) (bt:=llt a b) ((Walks.tuple (A:=A.in1) hh _ s.heap.objs.size (by rw[hsz];exact aD (bZ _)) #[.ref p,.ref q]).toS) ?_ (fun v e=>by simpa using e.symm) (fun v e=>by simpa using e.symm) ⟨⟨_,af _ (au _ rfl),rfl,rfl⟩,(hT.push _).push _⟩ (au _ rfl) ?_ ?_⟩
 ·intro hm
  simp only[hz2,hsz]at hm;rcases aC.mp hm with e|hm
  ·exact absurd e (cV (bZ _))
  ·exact absurd (aO.mp hm) (cV (bo (bZ _)))
 ·intro s' Q' E' mv q'
  have old:∀c o,s.heap.get? c=some o->s'.heap.get? c=some o:=fun c o e=>by
   have hlt:=av e;refine mv.heap c o (fun hm=>?_) (af _ (af _ (af _ e)));rcases aC.mp hm with e|hm
   ·rw[e]at hlt;simp only[hz2]at hlt;exact absurd hlt (gX.mpr (dq _ _))
   ·rw[aO.mp hm,hsz]at hlt;exact absurd hlt (gX.mpr (dq _ _))
  have hx':IsTup s'.heap p us.toArray:=hx.keeps old;have hy':IsTup s'.heap q vs.toArray:=hy.keeps old;exact kU (op:=.Gt) hy'.typeIs hx'.typeIs F.slot_tuple_gt (cK F.slot_tuple_gt hy'.typeIs F.entry_tuple_gt (gt_tree hy' hx' hb ha hl.symm ⟨_,rfl,(fun e=>nomatch e),q'⟩) (F.args_tuple_gt_2 _ _)) hu
 ·intro s' mv
  have old:∀c o,s.heap.get? c=some o->s'.heap.get? c=some o:=fun c o e=>by
   have hlt:=av e;refine mv.heap c o (fun hm=>?_) (af _ (af _ (af _ e)));rcases aC.mp hm with e|hm
   ·rw[e]at hlt;simp only[hz2]at hlt;exact absurd hlt (gX.mpr (dq _ _))
   ·rw[aO.mp hm,hsz]at hlt;exact absurd hlt (gX.mpr (dq _ _))
  obtain⟨h',g',d',tk',os'⟩:=s';obtain rfl:g'=s.gens:=mv.gens;obtain rfl:d'=s.drawn:=mv.drawn;obtain rfl:os'=s.os:=mv.os;exact h h' tk' old
end
noncomputable def rMinL(K:ae):List V->Hp->VK->Prop:=fun xs H Q=>∃(p q:Addr)(a b:List Int),xs=[V.ref p,V.ref q]/\SqT K H p (a.map V.int)/\SqT K H q (b.map V.int)/\a.length=b.length/\Q (if llt b a=true then .ref q else .ref p) H
noncomputable def rMaxL(K:ae):List V->Hp->VK->Prop:=fun xs H Q=>∃(p q:Addr)(a b:List Int),xs=[V.ref p,V.ref q]/\SqT K H p (a.map V.int)/\SqT K H q (b.map V.int)/\a.length=b.length/\Q (if llt a b=true then .ref q else .ref p) H
theorem DT{X:Cx}(hc:X.calm=true)(hu:X.A.units+1<cLine):eL X (.builtin "min") (rMinL X.K):=by
 intro pins s σ H xs us Q I r h;obtain⟨p,q,a,b,rfl,h1,h2,hl,hq⟩:=h;obtain⟨u,w',rfl,r1,r2⟩:=vals2 r;cases r1;cases r2;obtain⟨its,ra,pl,_⟩:=I.tuple h1;obtain⟨its',rb,pl',_⟩:=I.tuple h2;refine _root_.Q.pO (I.ok.hd hc) hu pl pl' (intsAre_of ra) (intsAre_of rb) hl fun h' tk k=>⟨_,H,I.kept k,?_,hq⟩;split <;>rfl
theorem DU{X:Cx}(hc:X.calm=true)(hu:X.A.units+1<cLine):eL X (.builtin "max") (rMaxL X.K):=by
 intro pins s σ H xs us Q I r h;obtain⟨p,q,a,b,rfl,h1,h2,hl,hq⟩:=h;obtain⟨u,w',rfl,r1,r2⟩:=vals2 r;cases r1;cases r2;obtain⟨its,ra,pl,_⟩:=I.tuple h1;obtain⟨its',rb,pl',_⟩:=I.tuple h2;refine _root_.Q.DV (I.ok.hd hc) hu pl pl' (intsAre_of ra) (intsAre_of rb) hl fun h' tk k=>⟨_,H,I.kept k,?_,hq⟩;split <;>rfl
noncomputable def mF(k:List Int×List Int):List Int:=k.1++k.2
theorem BR:∀{a c:List Int}(b d:List Int),a.length=c.length->llt (a++b) (c++d)=(llt a c||(decide (a=c)&&llt b d))
 | [],[],b,d,_=>by simp[llt]
 |x::a,y::c,b,d,h=>by
  have ih:=BR (a:=a) (c:=c) b d (by simpa using h);simp only[tS,llt,ih];by_cases e1:x=y
  ·subst e1;simp
  ·simp[e1]
noncomputable def P2(h:Heap)(v:Value)(k:List Int×List Int):Prop:=∃a o its n x y rest us ws,v=.ref a/\h.get? a=some o/\o.cls=.type "tuple"/\o.data=.seq its n/\its.toList=.ref x::.ref y::rest/\IsTup h x (us:List Value).toArray/\IsTup h y (ws:List Value).toArray/\bV us k.1/\bV ws k.2
noncomputable def P2s(h:Heap)(vs:List Value)(ps:List (List Int×List Int)):Prop:=Paired (P2 h) vs ps
theorem p2_at{h:Heap}{vs:List Value}{ps:List (List Int×List Int)}(r:P2s h vs ps){i:Nat}(hi:i<vs.length):P2 h (vs.getD i .none) (ps.getD i ([],[])):=by
 unfold P2s at r
 induction r generalizing i with
 |nil=>exact absurd hi (fS _)
 |cons y t ih=>
  cases i with
  |zero=>exact y
  |succ i=>exact ih (by simpa using hi)
theorem p2_kat{h h1:Heap}(kp:∀b o,h.get? b=some o->h1.get? b=some o){vs:List Value}{ps:List (List Int×List Int)}(r:P2s h vs ps):∃fs,KatTups h1 vs fs/\fs.length=vs.length/\∀v∈fs,∃x o,v=bp x/\h1.get? x=some o/\o.cls=.type "tuple":=by
 unfold P2s at r
 induction r with
 |nil=>exact⟨[],.nil,rfl,fun v hv=>nomatch hv⟩
 | @cons v k vs ps y t ih=>
  obtain⟨fs,a1,a2,a3⟩:=ih;obtain⟨a,o,its,n,x,y,rest,us,ws,rfl,e2,e3,e4,e5,⟨ox,hx,cx,_⟩,_⟩:=y;refine⟨.ref x::fs,.cons (kp _ _ e2) e3 e4 (by rw[<-iD,e5];rfl) a1,by simp[a2],fun v hv=>?_⟩;rcases aC.mp hv with rfl|hv
  ·exact⟨x,ox,rfl,kp _ _ hx,cx⟩
  ·exact a3 v hv
section
variable {prog:Program}{w:World}{A:Around}{E:Value->Shared->Prop}{s:Shared}
theorem AR{us:List Value}{k:List Int}(r:bV us k):ItemsAre (bR prog w) (k.map .inl) us:=by
 induction r with
 |nil=>exact .nil
 |cons n t r ih=>exact .cons (lL _ _ _ _) ih
theorem Bk{h:Heap}{x:Addr}{us:List Value}{k:List Int}(t:IsTup h x us.toArray)(r:bV us k):IsTupleKey (bR prog w) h (k.map .inl) x:=by
 obtain⟨o,ho,hc,n,hd⟩:=t;exact⟨o,us.toArray,n,ho,hc,hd,AR r⟩
theorem inl_inj{a c:List Int}:decide (a.map (eT:Int->Key)=c.map eT)=decide (a=c):=by
 refine decide_eq_decide.mpr ⟨fun h=>?_,fun h=>by rw[h]⟩
 induction a generalizing c with
 |nil=>cases c with
  |nil=>rfl
  |cons=>cases h
 |cons x a ih=>cases c with
  |nil=>cases h
  |cons y c=>
   simp only[bB,List.cons.injEq,eT.injEq]at h;rw[h.1,ih h.2]
theorem B4{x y:Addr}{us ws:List Value}{a c:List Int}{Q:Bool->Shared->Prop}(hu:A.units<cLine)(hx:IsTup s.heap x us.toArray)(hy:IsTup s.heap y ws.toArray)(ha:bV us a)(hc:bV ws c)(h:Q (decide (a=c)) s):wpAny (model prog w) A (eqBool (.ref x) (.ref y)) Q E s:=by
 rw[<-inl_inj]at h;exact wpAny_eqBool_tuple (knd:=bR prog w) hu (Bk hx ha) (Bk hy hc) h
theorem BP{x y:Addr}{us ws:List Value}{a c:List Int}{Q:Bool->Shared->Prop}(hu:A.units<cLine)(hx:IsTup s.heap x us.toArray)(hy:IsTup s.heap y ws.toArray)(ha:bV us a)(hc:bV ws c)(hl:a.length=c.length)(h:Q (llt a c) s):wpAny (model prog w) A (oneLt' false (.ref x) (.ref y)) Q E s:=
 kat_one _ _ (kU (op:=.Lt) hx.typeIs hy.typeIs nR (cK nR hx.typeIs F.entry_tuple_lt (BQ hx hy ha hc hl ⟨_,rfl,(fun e=>nomatch e),h⟩) (F.args_tuple_lt_2 _ _)) hu)
end
theorem zf{ps:List (List Int×List Int)}(i:Nat):(ps.map mF).getD i []=mF (ps.getD i ([],[])):=by
 rw[aj,aj,aF];cases ps[i]? <;>rfl
theorem asks_p2{prog:Program}{w:World}{A:Around}{ps:List (List Int×List Int)}{vs:List Value}{h0:Heap}{m:Nat}(hu:A.units<cLine)(nd:(ps.map mF).Nodup)(hl:vs.length=ps.length)(r:P2s h0 vs ps)(h2:2<=vs.length)(hm:∀k∈ps,k.1.length=m/\k.2.length=m):D9 prog w A (ltL (ps.map mF)) vs h0:=by
 intro s1 kp;refine⟨tuples' false,fun Q' E' q=>?_,fun i j C hi hj hij q=>?_⟩
 ·obtain⟨fs,a1,a2,a3⟩:=p2_kat kp r
  refine kat_kind (T:=.type "tuple") a1 (by omega) (fun v hv=>?_) rfl q;obtain⟨x,o,rfl,e1,e2⟩:=a3 v hv;intro A Q E s k q;exact xE ⟨o,k _ _ e1,e2⟩ q
 ·obtain⟨a,o,its,n,x,y,rest,us,ws,e1,e2,e3,e4,e5,e6,e7,e8,e9⟩:=p2_at r hi
  obtain⟨a',o',its',n',x',y',rest',us',ws',f1,f2,f3,f4,f5,f6,f7,f8,f9⟩:=p2_at r hj;have hne:=neL nd (i:=i) (j:=j) (by rw[ao];omega) (by rw[ao];omega) hij;have l1:(ps.getD i ([],[])).1.length=m/\(ps.getD i ([],[])).2.length=m:=by rw[aj,ag (hl▸hi)];exact hm _ (bq _)
  have l2:(ps.getD j ([],[])).1.length=m/\(ps.getD j ([],[])).2.length=m:=by rw[aj,ag (hl▸hj)];exact hm _ (bq _)
  unfold kas_ask;unfold ltL at q;rw[zf,zf]at q hne;rw[e1,f1];generalize ps.getD i ([],[])=k at *;generalize ps.getD j ([],[])=k' at *;obtain⟨b,c⟩:=k;obtain⟨b',c'⟩:=k';unfold mF at q hne;rw[BR _ _ (l1.1.trans l2.1.symm)]at q;refine kat_lt (kp _ _ e2) e4 (kp _ _ f2) f4 ?_;rw[e5,f5];refine kat_cons (B4 hu (e6.keeps kp) (f6.keeps kp) e8 f8 ?_);by_cases e:b=b'
  ·subst e
   rw[show decide (b=b)=true by simp];have hc:c≠c':=fun z=>hne (by rw[z]);refine kat_yes (kat_cons (B4 hu (e7.keeps kp) (f7.keeps kp) e9 f9 ?_));dsimp only;rw[show decide (c=c')=false by simpa using hc];refine kat_no (BP hu (e7.keeps kp) (f7.keeps kp) e9 f9 (l1.2.trans l2.2.symm) ?_);simp[yK]at q;exact q
  ·rw[show decide (b=b')=false by simpa using e]
   refine kat_no (BP hu (e6.keeps kp) (f6.keeps kp) e8 f8 (l1.1.trans l2.1.symm) ?_);simp[e]at q;exact q
noncomputable def kC(H:Hp)(ys:List V)(ps:List (List Int×List Int)):Prop:=Paired (fun v k=>∃a x y rest,v=V.ref a/\H a=some (.tup (.ref x::.ref y::rest))/\H x=some (.tup (k.1.map V.int))/\H y=some (.tup (k.2.map V.int))) ys ps
theorem vQ{H:Hp}{ys:List V}{ps:List (List Int×List Int)}(h:kC H ys ps):ps.length=ys.length:=by
 unfold kC at h
 induction h with
 |nil=>rfl
 |cons _ _ ih=>simp[ih]
theorem p2_of{P:Program}{w:World}{H:Hp}{h:Heap}(ok:HOk P w H h){ys:List V}{ps:List (List Int×List Int)}{vs:List Value}(k:kC H ys ps):bM ys vs->P2s h vs ps:=by
 unfold kC at k
 induction k generalizing vs with
 |nil=>intro z;cases z;exact .nil
 |cons y t ih=>
  intro z;cases z with
  |cons r q=>
   obtain⟨a,x,z,rest,rfl,e,ex,ez⟩:=y;cases r;obtain⟨_,its,rv,o,e1,e2,n,e3⟩:=ok a _ e;obtain⟨_,ux,rx,tx⟩:=ok x _ ex;obtain⟨_,uz,rz,tz⟩:=ok z _ ez;cases rv with
   |cons r1 rv=>cases rv with
    |cons r2 rv=>
     cases r1;cases r2;exact .cons ⟨a,o,_,n,x,z,_,ux,uz,rfl,e1,e2,e3,rfl,tx,tz,intsAre_of rx,intsAre_of rz⟩ (ih q)
noncomputable def Ft(K:ae):List V->Hp->VK->Prop:=fun xs H Q=>∃(p:Addr)(ys:List V)(ps:List (List Int×List Int))(m:Nat),xs=[V.ref p]/\SqL K H p ys/\ps.length<64/\(ps.map mF).Nodup/\(∀k∈ps,k.1.length=m/\k.2.length=m)/\kC H ys ps/\∀l,H l=none->Q (.ref l) (upd H l (.lst (iw .non (ps.map mF) ys)))
theorem xj{X:Cx}(hu:X.A.units+2<cLine):eL X (.builtin "sorted") (Ft X.K):=by
 intro pins s σ H xs us Q I r h;obtain⟨p,ys,ps,m,rfl,hq,h64,nd,hm,hk,q⟩:=h;obtain⟨u,rfl,rx⟩:=vals1 r;cases rx;obtain⟨its,r',pl,hz⟩:=I.list hq;have hl0:ps.length=ys.length:=vQ hk;have hl:(ps.map mF).length=ys.length:=by rw[ao];exact hl0
 have hlen:=r'.length;have hv:its.length=(ps.map mF).length:=by omega
 refine pA (lt:=ltL (ps.map mF)) (vs:=its) (by rw[hv];exact totL nd) pl.isList (by omega) (fun h2=>asks_p2 hu nd (by omega) (p2_of I.hok hk r') h2 hm) ?_;obtain⟨c,hc⟩:=sortedAll_at s.heap its (fP (ltL (ps.map mF)) its).toArray;have hz2:(iw V.non (ps.map mF) ys).length<=sizeLine:=by
  unfold iw;rw[ao,(uQ nd).length_eq,cJ];omega
 exact⟨.ref (s.heap.objs.size+1),_,I.laid (t':=s.toks) (fun b o e=>HP e) (cZ _) (show dh X.prog X.w _ _ _ (.lst (iw .non (ps.map mF) ys))from⟨hz2,_,c,uP nd hl r',hc⟩),rfl,q _ (I.hok.fresh (cZ _))⟩
end Q
namespace PySem
noncomputable abbrev eT1(h:Heap)(t:Addr):Heap:=h.push {cls:=.type "tuple_iterator",data:=.fields #[.ref t,.int 0 0]}
noncomputable abbrev eT2(h:Heap)(t:Addr):Heap:=(eT1 h t).push {cls:=.type "enumerate",data:=.fields #[.none,.bool false,.ref h.objs.size,rawInt 0,.none,.none]}
theorem yH(t:Addr)(xs:Array Value)(n:Nat)(dct:Option Addr)(sl:Array (Option Value)):
  Meets (Builtin.«enumerate.__new__» ⟨[.type "enumerate",.ref t],[]⟩) (fun _ R s=>s.heap.get? t=some {cls:=.type "tuple",dict:=dct,data:=.seq xs n,slots:=sl}/\R (.ok (.ret (.ref (eT1 s.heap t).objs.size))) {s with heap:=eT2 s.heap t}):=
 .of_wp fun prog w A R s h=>by
  obtain⟨hp,g,d,tk,os⟩:=s;obtain⟨h0,h⟩:=h;have hsub:=sub_enumerate;have e1:Heap.IsTuple (Shared.heap ⟨hp,g,d,tk,os⟩) t xs:=⟨_,h0,rfl,n,rfl⟩
  wp_walk using kg h0
  refine wpAny_stack_any fun st=>ai ?_;split
  ·rename_i cc _ _ _ _ _
   generalize(cc==gS "enumerate")=bb;cases bb<;>(wp_walk using kg h0,fW e1;exact⟨_,rfl,h⟩)
  ·wp_walk using kg h0,fW e1
   exact⟨_,rfl,h⟩
section
variable {prog:Program}{w:World}{A:Around}{E:Value->Shared->Prop}{s:Shared}
theorem A7{t:Addr}{xs:Array Value}{Q:Value->Shared->Prop}(ht:s.heap.IsTuple t xs)
  (q:∀h',IsEnum h' (s.heap.objs.size+1) s.heap.objs.size 0 .none->h'.IsTupleIter s.heap.objs.size t 0->(∀c o,s.heap.get? c=some o->h'.get? c=some o)->Q (.ref (s.heap.objs.size+1)) {s with heap:=h'}):
  wpAny (model prog w) A (call (.type "enumerate") [.ref t]) Q E s:=by
 obtain⟨⟨c,dct,dt,sl⟩,e1,e2,n,e3⟩:=ht;obtain rfl:c=gS "tuple":=e2;obtain rfl:dt=Data.seq xs n:=e3;have z1:(eT1 s.heap t).objs.size=s.heap.objs.size+1:=bS ..;have g2:(eT2 s.heap t).get? (eT1 s.heap t).objs.size=some _:=au _ rfl;have g1:(eT2 s.heap t).get? s.heap.objs.size=some _:=af _ (au _ rfl);refine callType_new F.called_enumerate (by decide) (F.typeCall_enumerate_1 _) (F.newCall_enumerate_1 _) (fun obj=>F.args_object_init_2 obj _) F.entry_enumerate_new (yH t xs n dct sl) ⟨e1,?_⟩;show _/\_;rw[z1]at g2⊢;exact⟨⟨_,g2,rfl⟩,q _ g2 ⟨_,g1,rfl,rfl⟩ fun c o x=>af _ (af _ x)⟩
end
theorem drawsT{prog:Program}{w:World}{A:Around}(hh:A.handled=none)(j t:Addr)(hne:t≠j)(xs:Array Value):
  Draws prog w A j [j,t] xs.size (fun i v=>xs[i]? =some v) (fun i h=>h.IsTupleIter j t i/\h.IsTuple t xs) where
 live:=fun _ _ st=>by obtain⟨⟨o,ho,_⟩,_⟩:=st;exact⟨o,ho⟩
 frame:=fun _ _ _ st hk=>by
  obtain⟨⟨o,ho,r⟩,⟨o',ho',r'⟩⟩:=st;exact⟨⟨o,hk j (by simp) o ho,r⟩,⟨o',hk t (by simp) o' ho',r'⟩⟩
 item:=fun i s Q E hi st hQ=>F9 st.1 st.2 (v:=xs[i]) (by simp[hi]) fun h' hj hs=>hQ _ h' s.toks (by simp[hi]) ⟨hj,st.2.extBut hs.extBut hne⟩ hs
 done:=fun s Q E st hE=>BI hh st.1 st.2 (by simp) hE
end PySem
namespace L2
open PySem PySem.Spec PyProof.Rows
noncomputable def Itet(K:ae)(a:Addr):It:=
 ⟨fun i H=>∃xs x,SqT K H a xs/\xs[i]? =some x,fun i H v H'=>∃p x,H p=none/\H'=upd H p (.tup [.int i,x])/\v=.ref p/\∀xs,SqT K H a xs->xs[i]? =some x,fun i H=>∃xs,SqT K H a xs/\xs.length<=i⟩
theorem zY{P:Program}{w:World}{K:ae}{es:List Expr}{kk:Nat}{pp:Pos}(a it e:Addr)(hne:e≠it):Turn P w K (.Tuple es kk pp) (Itet K a) [e,it] e (fun i h=>(∃old,IsEnum h e it i old)/\h.IsTupleIter it a i) where
 mem:=by simp
 obj:=fun i h st b hb=>by
  obtain⟨⟨old,he⟩,o,e1,c,d⟩:=st;have hb':b=e\/b=it:=by simpa using hb
  rcases hb' with rfl|rfl
  ·exact⟨_,he,fun v z=>by cases z⟩
  ·exact⟨o,e1,fun v z=>by rw[d]at z;cases z⟩
 keep:=fun i h h' st k=>by
  obtain⟨⟨old,he⟩,o,ho,r⟩:=st;exact⟨⟨old,k e (by simp) _ he⟩,o,k it (by simp) o ho,r⟩
 item:=by
  intro X hP hw hK hc i pins s σ H E I hf st hg;subst hP hw hK;obtain⟨xs,x,hq,hx⟩:=hg;obtain⟨its,rv,pl,hz⟩:=I.tuple hq;have pl:s.heap.IsTuple a its.toArray:=pl;obtain⟨u,hu,ru⟩:=rv.get hx;obtain⟨⟨old,he⟩,hl⟩:=st;obtain⟨f0,f1,f2,f3,f4,f5⟩:=hf e (by simp);obtain⟨g0,g1,g2,g3,g4,g5⟩:=hf it (by simp);have hilt:i<its.toArray.size:=by
   have :=(aM.mp hu).1
   simpa using this
  have hit:it<s.heap.objs.size:=by obtain⟨o,q,_⟩:=hl;exact av q
  have haI:a≠it:=by
   obtain⟨o',q',qc',_⟩:=id hl;exact tup_ne pl q' (by rw[qc'];decide+kernel)
  have haE:e≠a:=bz (tup_ne pl he (by show gS "enumerate"≠gS "tuple";decide+kernel));have D:=drawsT (prog:=X.prog) (w:=X.w) (A:=X.A.in1) (I.ok.hd hc) it a haI its.toArray;refine wpAny_pyNext_enum_itemD D he ⟨hl,pl⟩ hilt hne (by simp[hne,haE]) fun y h' tk hy ho hst ht hsz kp=>?_;have eyu:y=u:=by
   have :its[i]? =some y:=by simpa using hy
   rw[hu]at this;exact(aY this).symm
  subst eyu;have hp:H s.heap.objs.size=none:=I.hok.fresh (aw _);have nE:∀b v,H b=some v->b≠e:=fun b v q z=>by rw[z,f0]at q;cases q
  have nI:∀b v,H b=some v->b≠it:=fun b v q z=>by rw[z,g0]at q;cases q
  have kp':∀c o,c∉[e,it]->s.heap.get? c=some o->h'.get? c=some o:=fun c o hc q=>kp c o (fun z=>hc (by simp[z])) (fun z=>hc (by simp[z])) q;have I1:Inv X pins σ (upd H s.heap.objs.size (.tup [.int i,x])) {s with heap:=h',toks:=tk+1}:=by
   refine I.step (g':=s.gens) (d':=s.drawn) (ch:=[e,it]) (fun b hb=>?_) (fun b o _ _ hc' q _=>kp' b o hc' q)
    (fun b o _ _ hc' q _=>⟨o.slots,kp' b o hc' q⟩) (fun b o _ q n=>by rw[aL (aD (av q))];exact n)
    (fun b o hc' q=>⟨o,kp' b o hc' q⟩) (fun b ys q=>by rw[aL (bx q hp)];exact q) (fun b o v q=>by rw[aL (bx q hp)];exact q)
    (fun b ps q=>⟨#[],by rw[aL (bx q hp),q];simp⟩) (fun m hm=>?_) (fun b v q=>?_) I.bare
   ·have hb':b=e\/b=it:=by simpa using hb
    rcases hb' with rfl|rfl
    ·exact⟨f3,f1,f4,f5⟩
    ·exact⟨g3,g1,g4,g5⟩
   ·obtain⟨o,es',ep,q,r⟩:=hm
    exact⟨o,es',ep,kp _ o (bz f1) (bz g1) q,r⟩
   ·by_cases hb:b=s.heap.objs.size
    ·subst hb
     rw[ax]at q;cases q;exact⟨by show 2<=sizeLine;decide,[.int i tk,y],.cons ⟨tk,rfl⟩ (.cons ru .nil),⟨_,ht,rfl,_,rfl⟩⟩
    ·rw[aL hb]at q
     refine(I.hok b v q).pv (fun c o hc' q'=>kp c o ?_ ?_ q') (fun c q'=>by rw[aL (bx q' hp)];exact q') fun c ys q'=>by rw[aL (bx q' hp)];exact q'
     ·rcases hc' with z|z
      ·rw[z];exact nE b v q
      ·exact nE c _ z
     ·rcases hc' with z|z
      ·rw[z];exact nI b v q
      ·exact nI c _ z
  have fe:(upd H s.heap.objs.size (.tup [.int i,x])) e=none:=by rw[aL (aD (av he))];exact f0
  refine⟨_,rfl,wpAny_letOwnedTupleGo_enum (s:={s with heap:=h',toks:=tk+1}) ho fun h'' he'' hs''=>?_⟩;have I2:Inv X pins σ (upd H s.heap.objs.size (.tup [.int i,x])) {s with heap:=h'',toks:=tk+1}:=I1.turned (t':=tk+1) (fun b o hb q=>hs''.extBut b o hb q) fe f1 f3 f4 f5;refine⟨.ref s.heap.objs.size,_,I2,rfl,⟨_,x,hp,rfl,rfl,fun ys hy'=>by rw[I.pq hy' hq];exact hx⟩,⟨⟨y,?_⟩,hst.1.extBut hs''.extBut (bz hne)⟩,fun b hb=>?_⟩
  ·have :((i:Int)+1)=((i+1:Nat):Int):=by push_cast;rfl
   rw[<-this];exact he''
  ·have hb':b=e\/b=it:=by simpa using hb
   rcases hb' with rfl|rfl
   ·exact fe
   ·rw[aL (aD hit)];exact g0
 done:=by
  intro X hP hw hK hc i pins s σ H E I hf st hg;subst hP hw hK;obtain⟨xs,hq,hx⟩:=hg;obtain⟨its,rv,pl,hz⟩:=I.tuple hq;have pl:s.heap.IsTuple a its.toArray:=pl;obtain⟨⟨old,he⟩,hl⟩:=st;obtain⟨g0,g1,g2,g3,g4,g5⟩:=hf it (by simp);have hT:s.TypeIs (.ref e) "enumerate":=⟨_,he,rfl⟩;have hlen:=rv.length;unfold pyNext;refine aa (hZ (d9 (name:=aQ "__next__") hT F.slot_enumerate_next (cK F.slot_enumerate_next hT F.entry_enumerate_next ?_ (F.args_enumerate_next_1 _))));show wpAny _ _ (field (.ref e) 2>>=_) _ _ _;refine aa (gF he rfl (x:=.ref it) rfl ?_);refine aa (BI (A:=X.A.in1) (I.ok.hd hc) hl pl (by simp;omega) fun h' z he' hx'=>?_);obtain⟨o,ho,hcl⟩:=hx';refine aa (jv (T:="StopIteration") (b:=true) ⟨o,ho,hcl⟩ isSubtype_stop ?_);exact ai ⟨rfl,I.turned (t':=s.toks) (fun b o hb q=>he' b o hb q) g0 g1 g3 g4 g5⟩
 self:=fun _ _ _ _ _ st h=>by
  obtain⟨⟨old,he⟩,_⟩:=st;exact wpAny_pyIter_enum he h
section
variable {X:Cx}{es:List Expr}{kk:Nat}{pp:Pos}
noncomputable def G1(K:ae)(t:TA):TI:=fun σ H R=>t σ H fun vs H1=>∃a,vs=[.ref a]/\(∃xs,SqT K H1 a xs)/\R (Itet K a) H1
theorem FJ{l:Expr}{t:TA}{p pos:Pos}(hg:Gl X "enumerate")(hm:X.mg "enumerate"=none)(ha:PA X [l] t)(hs:aK [l] X.env=[(false,eval l X.env)]:=by rfl):
  PI X (.Tuple es kk pp) (.Call (.Name "enumerate" p) [l] [] pos) (G1 X.K t):=by
 intro pins s σ H R I h;refine Call_ (ji I hg hm boot_enumerate (cA (thn (ha pos pins s σ H _ I h) fun us s1 ⟨vs,H1,I1,r1,q1⟩=>?_) hs rfl));obtain⟨a,rfl,⟨xs,hq⟩,q⟩:=q1;obtain⟨u,rfl,ru⟩:=r1.one;cases ru;obtain⟨its,rv,pl,hz⟩:=I1.tuple hq;have pl:s1.heap.IsTuple a its.toArray:=pl;refine A7 pl fun h' he hl' kp=>?_;refine wpAny_pyIter_enum (s:={s1 with heap:=h'}) he ?_;have I2:Inv X pins σ H1 {s1 with heap:=h',toks:=s1.toks}:=I1.kept kp;refine⟨_,[s1.heap.objs.size+1,s1.heap.objs.size],_,_,H1,rfl,I2,zY a s1.heap.objs.size (s1.heap.objs.size+1) (Nat.succ_ne_self _),⟨⟨_,he⟩,hl'⟩,fun b hb=>?_,q⟩;have hbs:s1.heap.objs.size<=b:=by
  simp only[aC,dj,or_false]at hb;rcases hb with rfl|rfl
  ·exact cZ _
  ·exact aw _
 exact I1.wZ hbs (I1.hok.fresh hbs)
end
end L2
namespace Q
open PySem
noncomputable def pQ(xs:Array Nat):Prop:=xs.toList.Pairwise (·<·)
structure Parts(xs:Array Nat)(j p:Nat):Prop where
 le:p<=xs.size
 lo:∀i x,i<p->xs[i]? =some x->x<j
 hi:∀i x,p<=i->xs[i]? =some x->j<=x
theorem qP{xs:Array Nat}(h:pQ xs){i k x y:Nat}(hik:i<k)(hx:xs[i]? =some x)(hy:xs[k]? =some y):x<y:=by
 have hx':xs.toList[i]? =some x:=by simpa using hx
 have hy':xs.toList[k]? =some y:=by simpa using hy
 obtain⟨h1,e1⟩:=aM.mp hx';obtain⟨h2,e2⟩:=aM.mp hy';have :=kH.mp h i k h1 h2 hik;rw[e1,e2]at this;exact this
theorem sG{xs:Array Nat}(h:pQ xs)(j:Nat):∀(fuel lo hi:Nat),hi-lo<=fuel->lo<=hi->hi<=xs.size->(∀i x,i<lo->xs[i]? =some x->x<j)->(∀i x,hi<=i->xs[i]? =some x->j<=x)->Parts xs j (xM xs j fuel lo hi)
 | 0,lo,hi,hf,hl,hs,a,b=>by
  have e:lo=hi:=by omega
  subst e;exact⟨hs,a,b⟩
 |fuel+1,lo,hi,hf,hl,hs,a,b=>by
  unfold xM;by_cases c:lo<hi
  ·rw[if_pos c]
   have hm:(lo+hi)/2<xs.size:=by omega
   have em:xs[(lo+hi)/2]? =some xs[(lo+hi)/2]:=by simp[hm]
   have eg:xs.getD ((lo+hi)/2) j=xs[(lo+hi)/2]:=by simp[hm]
   simp only[eg];by_cases d:xs[(lo+hi)/2]<j
   ·rw[if_pos d]
    refine sG h j fuel _ hi (by omega) (by omega) hs (fun i x hi' e=>?_) b;by_cases k:i=(lo+hi)/2
    ·subst k
     rw[em]at e;cases e;exact d
    ·exact fJ (qP h (by omega) e em) d
   ·rw[if_neg d]
    refine sG h j fuel lo _ (by omega) (by omega) (by omega) a fun i x hi' e=>?_;by_cases k:i=(lo+hi)/2
    ·subst k
     rw[em]at e;cases e;omega
    ·have :=qP h (by omega:(lo+hi)/2<i) em e
     omega
  ·rw[if_neg c]
   have e:lo=hi:=by omega
   subst e;exact⟨hs,a,b⟩
theorem jK{xs:Array Nat}(h:pQ xs)(j:Nat):Parts xs j (cu xs j):=
 sG h j xs.size 0 xs.size (by omega) (bA _) (aw _) (fun i x hi _=>absurd hi (fS _)) fun i x hi e=>by
  have :=(ck.mp e).1
  omega
theorem yQ{α:Type}(xs:Array α)(p:Nat)(x:α):(o9 xs p x).toList=xs.toList.take p++x::xs.toList.drop p:=by
 unfold o9;simp;exact fE (by simp)
theorem yg{xs:Array Nat}{j:Nat}(h:pQ xs)(hj:∀i:Nat,xs[i]? ≠some j):pQ (o9 xs (cu xs j) j):=by
 have P:=jK h j;unfold pQ;rw[yQ];have sub:=h;unfold pQ at sub;rw[List.pairwise_append];refine⟨sub.sublist (qX _ _),List.pairwise_cons.mpr ⟨fun y hy=>?_,sub.sublist (List.drop_sublist _ _)⟩,fun x hx y hy=>?_⟩
 ·obtain⟨i,hi⟩:=bH.mp hy
  rw[kb]at hi;have e:xs[cu xs j+i]? =some y:=by simpa using hi
  have :=P.hi _ _ (dq _ _) e
  have ne:y≠j:=fun z=>hj _ (z▸e);omega
 ·obtain⟨i,hi⟩:=bH.mp hx
  have hip:i<cu xs j:=by
   have :=(aM.mp hi).1
   rw[dk]at this;omega
  rw[lq hip]at hi;have e:xs[i]? =some x:=by simpa using hi
  have lx:=P.lo _ _ hip e;rcases aC.mp hy with rfl|hy
  ·exact lx
  ·obtain⟨k,hk⟩:=bH.mp hy
   rw[kb]at hk;have e2:xs[cu xs j+k]? =some y:=by simpa using hk
   have :=P.hi _ _ (dq _ _) e2
   omega
theorem A9{xs:Array Nat}(h:pQ xs){i x:Nat}(e:xs[i]? =some x):cu xs (x+1)=i+1:=by
 have P:=jK h (x+1);have hi:=(ck.mp e).1;apply xP
 ·apply gA
  intro c;have hs:i+1<xs.size:=aW c P.le;have e2:xs[i+1]? =some xs[i+1]:=by simp[hs]
  have a:=P.lo _ _ c e2;have b:=qP h (bZ i) e e2;omega
 ·apply gA
  intro c;have :=P.hi i x (by omega) e;omega
theorem A8{xs:Array Nat}(h:pQ xs):cu xs 0=0:=by
 have P:=jK h 0;apply xP _ (bA _);apply gA;intro c;have hs:0<xs.size:=aW c P.le;have :=P.lo 0 xs[0] c (by simp[hs]);omega
theorem D4{xs:Array Nat}(h:pQ xs){i x:Nat}(e:xs[i]? =some x):cu xs x=i:=by
 have P:=jK h x;apply xP
 ·apply gA
  intro c;exact eD _ (P.lo i x c e)
 ·apply gA
  intro c;have hs:cu xs x<xs.size:=fJ c (ck.mp e).1;have e2:xs[cu xs x]? =some xs[cu xs x]:=by simp[hs]
  have a:=P.hi _ _ (aw _) e2;have b:=qP h c e2 e;omega
theorem Aj(n:Nat):pQ (Array.range n):=by
 unfold pQ;rw[Array.toList_range];exact Cu
structure jt(t:bG):Prop where
 up:pQ t.place
 no:t.dummies= #[]
theorem slot_no{t:bG}(T:jt t)(j:Nat):t.slot j≠.dummy:=by
 unfold bG.slot;simp only[T.no];split
 ·simp
 ·split
  ·rename_i h
   exact absurd h (by simp[xU])
  ·simp
theorem CZ{t:bG}(T:jt t){j:Nat}(h:t.slot j=.empty):∀i:Nat,t.place[i]? ≠some j:=fun i e=>by
 have :=D4 T.up e
 unfold bG.slot at h;simp only[this,e,beq_self_eq_true,if_true]at h;cases h
theorem uw(t:bG)(p:bG.Probe):(t.advance p).dummy=p.dummy:=by
 unfold bG.advance;split <;>rfl
theorem rR{t:bG}(T:jt t){f:Nat->Int}{h:Int}{j:Nat}{d:Option Nat}:∀(fuel:Nat)(p:bG.Probe),p.dummy=none->mD t f h fuel p=some (.empty j d)->t.slot j=.empty/\d=none
 | 0,p,_,e=>by simp[mD]at e
 |fuel+1,p,hp,e=>by
  unfold mD at e;cases hs:t.slot p.j with
  |empty=>
   rw[hs]at e;simp only[jq,bG.Met.empty.injEq]at e;exact⟨by rw[<-e.1];exact hs,by rw[<-e.2];exact hp⟩
  |dummy=>exact absurd hs (slot_no T _)
  |live i=>
   rw[hs]at e;simp only at e;split at e
   ·cases e
   ·exact rR T fuel _ (by rw[uw];exact hp) e
theorem uj{t:bG}(T:jt t){h:Int}{j:Nat}{b:Bool}(e:t.freeSlot h=some (j,b)):(∀i:Nat,t.place[i]? ≠some j)/\b=false:=by
 unfold bG.freeSlot at e;split at e
 ·rename_i j' d hm
  unfold bG.probe at hm;obtain⟨h1,h2⟩:=rR T _ _ (by rfl) hm;subst h2;simp only[qW,Er,jq,Prod.mk.injEq]at e;obtain⟨rfl,rfl⟩:=e;exact⟨CZ T h1,rfl⟩
 ·cases e
theorem iR(t:bG)(n:Nat):jt (t.standIn n):=⟨Aj n,rfl⟩
theorem FC{t:bG}(T:jt t){j:Nat}(hj:∀i:Nat,t.place[i]? ≠some j):jt (t.put j).1:=by
 refine⟨yg T.up hj,?_⟩;show(if xU t.dummies j=true then _ else t.dummies)= #[];rw[T.no];simp[xU]
theorem rW{t:bG}(T:jt t)(n:Nat):jt (t.orStandIn n):=by
 unfold Cq;split
 ·exact T
 ·exact iR t n
theorem yN{t:bG}(T:jt t)(es:Array (Int×Value))(h:Int)(x:Value):jt (layNew t es h x).2.1/\(layNew t es h x).2.2.1=false:=by
 unfold layNew;split
 ·rename_i j b e
  obtain⟨h1,h2⟩:=uj T e;subst h2;exact⟨rW (FC T h1) _,rfl⟩
 ·exact⟨iR t _,rfl⟩
theorem u4{mask finger moves:Nat}{led plain:Bool}{hashes:Array Int}{t:bG}{order:Array Nat}(h:bG.laid mask finger moves led plain hashes=some (t,order)):jt t/\t.led=led/\t.plain=plain:=by
 unfold bG.laid at h;cases e:bG.layClean mask hashes with
 |none=>rw[e]at h;cases h
 |some owner=>
  rw[e]at h;have h':some (({mask,place:=(((az (mask+1)).filterMap fun j=>(owner.getD j none).map (j,·)).map (·.1)).toArray,dummies:= #[],finger,led,moves,plain}:bG),(((az (mask+1)).filterMap fun j=>(owner.getD j none).map (j,·)).map (·.2)).toArray)=some (t,order):=h;have h2:=(Prod.mk.inj (aY h')).1;subst h2;refine⟨⟨?_,rfl⟩,rfl,rfl⟩;show((((az (mask+1)).filterMap fun j=>(owner.getD j none).map (j,·)).map (·.1)).toArray).toList.Pairwise (·<·);rw[pd,kX,List.pairwise_filterMap];refine Cu.imp fun{a b} hab x hx y hy=>?_;cases ha:owner.getD a none with
  |none=>rw[ha]at hx;cases hx
  |some u=>
   cases hb:owner.getD b none with
   |none=>rw[hb]at hy;cases hy
   |some v=>
    rw[ha]at hx;rw[hb]at hy;cases hx;cases hy;exact hab
theorem ue(t:bG)(es:Array (Int×Value))(wanted:Nat):jt (nJ t es wanted).2.1:=by
 unfold nJ;split
 ·rename_i t' order e
  simp only;split
  ·unfold HV at e
   exact(u4 e).1
  ·exact iR t _
 ·exact iR t _
theorem put_led(t:bG)(j:Nat):(t.put j).1.led=t.led:=rfl
theorem ui(t:bG)(n:Nat):(t.orStandIn n).led=t.led:=by
 unfold Cq;split <;>rfl
theorem AM(t:bG)(es:Array (Int×Value))(h:Int)(x:Value):(layNew t es h x).2.1.led=t.led:=by
 unfold layNew;split
 ·exact(ui _ _).trans (put_led _ _)
 ·rfl
theorem wt(t:bG)(es:Array (Int×Value))(wanted:Nat):(nJ t es wanted).2.1.led=t.led:=by
 unfold nJ;split
 ·rename_i t' order e
  simp only;split
  ·unfold HV at e
   exact(u4 e).2.1
  ·rfl
 ·rfl
section
variable {prog:Program}{w:World}{K:Type}[DecidableEq K]{knd:KeyKind prog w K}{A:Around}{E:Value->Shared->Prop}{s:Shared}
noncomputable def oY(knd:KeyKind prog w K)(h:Heap)(a:Addr)(S:K->Bool)(n:Nat)(led:Bool):Prop:=
 ∃o es ep t,h.get? a=some o/\o.ExactSet/\o.data=.set es ep t/\ElemsOf knd es.toList/\(∀k,S k=true↔∃e∈es.toList,knd.is k e.2=true)/\es.size<fH/\t.fits es.size=true/\es.size=n/\jt t/\t.led=led
theorem oY.of{h:Heap}{a:Addr}{S:K->Bool}{n:Nat}{led:Bool}(x:oY knd h a S n led):h.SetOf knd a S n:=by
 obtain⟨o,es,ep,t,e1,e2,e3,e4,e5,e6,e7,e8,_⟩:=x;exact⟨o,es,ep,t,e1,e2,e3,e4,e5,e6,e7,e8⟩
theorem rM{h:Heap}{a:Addr}{o:Obj}{es:Array (Int×Value)}{ep:Nat}{t:bG}(ho:h.get? a=some o)(hx:o.ExactSet)(hd:o.data=.set es ep t){es':Array (Int×Value)}{t':bG}{S':K->Bool}(hl:ElemsOf knd es'.toList)(hm:∀k,S' k=true↔∃e∈es'.toList,knd.is k e.2=true)(hb:es'.size<fH)(hf:t'.fits es'.size=true)(ht:jt t'):
  oY knd (h.update a (Obj.putSet es' t')) a S' es'.size t'.led:=by
 have g:=(SetOf_store (knd:=knd) ho hx hd hl hm hb hf).1;exact⟨_,es',ep+1,t',g,hx,rfl,hl,hm,hb,hf,rfl,ht,rfl⟩
theorem zw{g:Bool->Sem Unit}(hg:∀(b:Bool)(s₁:Shared)(Q':Unit->Shared->Prop),Q' () s₁->wpAny (model prog w) A (g b) Q' E s₁){a:Addr}{o:Obj}{es:Array (Int×Value)}{ep:Nat}{t:bG}(ho:s.heap.get? a=some o)(hx:o.ExactSet)(hd:o.data=.set es ep t)
  {es1:Array (Int×Value)}{t2:bG}{S':K->Bool}(hl:ElemsOf knd es1.toList)(hm:∀k',S' k'=true↔∃e∈es1.toList,knd.is k' e.2=true)(hb:es1.size<fH)(hf:t2.fits es1.size=true)(ht:jt t2){wasDummy:Bool}{R:Option Bool->Shared->Prop}
  (h:∀h',dg a s.heap h'->oY knd h' a S' es1.size t2.led->R (some true) {s with heap:=h'}):
  wpAny (model prog w) A (do
    storeSet a es1 t2
    if(!wasDummy&&t2.tooFull)=true then do
      g (nJ t2 es1 (eU es1.size)).2.2
      storeSet a (nJ t2 es1 (eU es1.size)).1 (nJ t2 es1 (eU es1.size)).2.1
      pure (some true)
     else pure (some true)) R E s:=by
 refine aa (wpAny_storeSet_of ho hd ?_ (mB hb));have ho1:=(SetOf_store (knd:=knd) ho hx hd hl hm hb hf).1;have x1:=rM (knd:=knd) ho hx hd hl hm hb hf ht;have sb:=bN s.heap a (Obj.putSet es1 t2);split
 ·have hp:=relayAll_perm t2 es1 (eU es1.size)
  have hr:=relayAll_fits t2 es1 (eU es1.size);have hT:=ue t2 es1 (eU es1.size);have hL:=wt t2 es1 (eU es1.size);generalize nJ t2 es1 (eU es1.size)=Rl at hp hr hT hL⊢;obtain⟨es2,t3,gave⟩:=Rl;dsimp only at hp hr hT hL⊢;have hz:es2.size=es1.size:=by rw[<-bX,hp.length_eq,bX]
  refine aa (hg _ _ _ (aa (wpAny_storeSet_of ho1 rfl ?_ (mB (by rw[hz];exact hb)))));have x2:=rM (knd:=knd) ho1 hx rfl (hl.perm hp) (fun k'=>(hm k').trans ⟨fun⟨e,he,q⟩=>⟨e,hp.mem_iff.mpr he,q⟩,fun⟨e,he,q⟩=>⟨e,hp.mem_iff.mp he,q⟩⟩) (by rw[hz];exact hb) hr hT;rw[hz,hL]at x2;exact ai (h _ (sb.trans (bN _ a _)) x2)
 ·exact ai (h _ sb x1)
theorem An{t:bG}(T:jt t):jt {t with plain:=false}:=⟨T.up,T.no⟩
theorem addX{a:Addr}{S:K->Bool}{n:Nat}{led:Bool}{k:K}{x:Value}{Q:Bool->Shared->Prop}(hk:knd.is k x=true)(hsc:x.scannable=true)(hS:oY knd s.heap a S n led)(hroom:n+1<fH)
  (h:∀h',dg a s.heap h'->oY knd h' a (fun k'=>S k'||decide (k'=k)) (if S k then n else n+1) led->Q (!S k) {s with heap:=h'}):
  wpAny (model prog w) A (setAddHashed a x (knd.hash k)) Q E s:=by
 obtain⟨o,es,ep,t,ho,hx,hd,hl,hm,hb,hf,hn,ht,he⟩:=hS;have hb1:es.size+1<fH:=by rw[hn];exact hroom
 unfold setAddHashed setAddHashedIn;refine bh (aa (dF ho hd hf ?_));dsimp only;rw[byScan_of hsc hb hl];simp only[↓reduceIte];unfold setAddByScan;refine aa ?_;refine aa (fV (aa (wpAny_setScan_of hk ho hd hf hl ?_)));cases hr:List.findIdx? (fun e=>knd.is k e.2) es.toList with
 |some j=>
  dsimp only;obtain⟨hj,hp,_⟩:=List.findIdx?_eq_some_iff_getElem.mp hr;have hSk:S k=true:=(hm k).mpr ⟨es.toList[j],bq hj,hp⟩;refine ai (ai ?_);have :=h s.heap (dg.refl a s.heap) ⟨o,es,ep,t,ho,hx,hd,hl,fun k'=>by
   rw[cD,decide_eq_true_eq,<-hm k'];exact⟨fun q=>q.elim id (fun e=>e▸hSk),.inl⟩,hb,hf,by rw[hSk];exact hn,ht,he⟩
  rw[hSk]at this;exact this
 |none=>
  dsimp only;have hSk:S k=false:=by
   cases q:S k with
   |false=>rfl
   |true=>
    obtain⟨e,m1,m2⟩:=(hm k).mp q;have :=List.findIdx?_eq_none_iff.mp hr e m1;rw[m2]at this;cases this
  have hw:∀(b:Bool){s₁:Shared}{Q':Unit->Shared->Prop},Q' () s₁->wpAny (model prog w) A (match b with |true=>rule "set.scan.the-table-gave-way" |false=>pure ()) Q' E s₁:=fun b s₁ Q' q=>by cases b<;>first |exact ai q|exact fV q
  have hp:=layNew_perm t es (knd.hash k) x;have hfit:=layNew_fits t es (knd.hash k) x;have hT:=(yN ht es (knd.hash k) x).1;have hL:=AM t es (knd.hash k) x;generalize layNew t es (knd.hash k) x=L at hp hfit hT hL⊢;obtain⟨es1,t1,wd,gave⟩:=L;dsimp only at hp hfit hT hL⊢;rw[Array.toList_push]at hp;have l1:ElemsOf knd es1.toList:=(hl.push hk hsc).perm hp;have m1:∀k',(S k'||decide (k'=k))=true↔∃e∈es1.toList,knd.is k' e.2=true:=mem_push_iff hk hm hp;have z1:es1.size=n+1:=by rw[<-bX,hp.length_eq,di,bX,hn];rfl
  have b1:es1.size<fH:=by rw[z1];exact hroom
  refine aa (hw _ ?_);have fin:∀h',dg a s.heap h'->oY knd h' a (fun k'=>S k'||decide (k'=k)) es1.size led->Q true {s with heap:=h'}:=fun h' sb x=>by
   have :=h h' sb
   rw[hSk]at this;rw[z1]at x;exact this x
  split
  ·refine aa ?_
   rw[hashByValue_scannable 8 hsc];refine ai (zw ?_ ho hx hd l1 m1 b1 ?_ ?_ ?_)
   ·intro b s₁ Q' q;cases b<;>first |exact ai q|exact fV q
   ·split
    ·exact hfit
    ·exact bG.fits_plain_off hfit
   ·split
    ·exact hT
    ·exact An hT
   ·intro h' sb x
    refine ai (fin h' sb ?_);split at x
    ·rw[hL,he]at x;exact x
    ·have e2:({t1 with plain:=false}:bG).led=led:=hL.trans he
     rw[e2]at x;exact x
  ·refine aa (ai ?_)
   simp only[↓reduceIte];refine zw ?_ ho hx hd l1 m1 b1 hfit hT ?_
   ·intro b s₁ Q' q;cases b<;>first |exact ai q|exact fV q
   ·intro h' sb x
    rw[hL,he]at x;exact ai (fin h' sb x)
end
end Q
set_option maxHeartbeats 3200000
namespace Q
open PySem PySem.Spec PySem.W PyProof.Rows L2
section
variable {prog:Program}{w:World}{A:Around}{R:Result->Shared->Prop}{I:Addr}{fp wr:List Addr}{G:Array nM->Array nM->Prop}{n:Nat}{P:Nat->Value->Prop}{St:Nat->Shared->Prop}
theorem uJ{led:Bool}(W:WalksS prog w A.in1 I fp wr G n P St)(S:Addr)(hSf:S∉fp)(ks:List Key)(hn:ks.length=n)(hv:∀i v,P i v->∃k,ks[i]? =some k/\RelV (kV k) v)(hb:n+1<fH):
  ∀(m i:Nat)(s:Shared),n-i=m->i<=n->St i s->oY (bR prog w) s.heap S (has (met (ks.take i))) (met (ks.take i)).length led->
   (∀s',Moved (S::wr) G s s'->oY (bR prog w) s'.heap S (has (met ks)) (met ks).length led->R (.ok (.ret .none)) s')->
   fC (model prog w) A (.builtin "set.update.loop" ⟨[.ref S,.ref I],[]⟩) R s
 | 0,i,s,hm,hi,st,hS,hR=>by
  obtain rfl:i=n:=by omega
  rw[<-hn,fj]at hS;refine cW ll ?_;rw[bY fM _];show wpAny _ A.in1 (pyNext (.ref I)>>=_) _ _ s;refine aa (W.done s _ _ st fun s' mv=>?_);obtain⟨o,es,ep,t,ho,rest⟩:=hS;exact ai (hR s' (mv.mono fun b hb=>aN _ hb) ⟨o,es,ep,t,mv.heap S _ (fun z=>hSf (W.sub _ z)) ho,rest⟩)
 |m+1,i,s,hm,hi,st,hS,hR=>by
  have hlt:i<n:=by omega
  refine cW ll ?_;rw[bY fM _];show wpAny _ A.in1 (pyNext (.ref I)>>=_) _ _ s;refine aa (W.item i s _ _ hlt st fun v s' hP st' mv=>?_);obtain⟨k,hk,rv⟩:=hv i v hP;have hS1:oY (bR prog w) s'.heap S (has (met (ks.take i))) (met (ks.take i)).length led:=by
   obtain⟨o,es,ep,t,ho,rest⟩:=hS;exact⟨o,es,ep,t,mv.heap S _ (fun z=>hSf (W.sub _ z)) ho,rest⟩
  have hsc:v.scannable=true:=by
   cases k with
   |inl j=>obtain⟨t,rfl⟩:=rv;rfl
   |inr x=>obtain⟨t,rfl⟩:=rv;rfl
  show wpAny _ A.in1 (holding [v] (setAdd S v)>>=_) _ _ s';refine aa (bh ?_);unfold setAdd;refine bh (aa ((bR prog w).pyHash (k:=k) (BU rv) ?_));have hle:=Gq (ks.take i);rw[dk]at hle;refine addX (knd:=bR prog w) (led:=led) (s:={s' with toks:=s'.toks+1}) (BU rv) hsc hS1 (by omega) fun h' hsb hS2=>?_;have et:ks.take (i+1)=ks.take i++[k]:=by rw[dU,hk];rfl
  have hS3:oY (bR prog w) h' S (has (met (ks.take (i+1)))) (met (ks.take (i+1))).length led:=by
   rw[et,Gn];obtain⟨o,es,ep,t,ho,hex,hd,hel,hmem,hbb,hf,hnn,htt⟩:=hS2;refine⟨o,es,ep,t,ho,hex,hd,hel,fun j=>?_,hbb,hf,by rw[ow];exact hnn,htt⟩;rw[<-hmem j,iT,yF,cD,iT,decide_eq_true_eq]
  refine ai ⟨dE fM _,uJ W S hSf ks hn hv hb m (i+1) _ (by omega) hlt (W.frame _ s' _ _ st' (cZ _) fun b hq o e=>?_) hS3 fun s'' mv2 hS4=>?_⟩
  ·rw[hsb.2 b (fun z:b=S=>hSf (by rw[<-z];exact hq))]
   exact e
  ·refine hR s'' (nL W.gtrans ((mv.mono fun b hb=>aN _ hb).then_heap (cZ _) fun b o hq e=>?_) mv2) hS4
   rw[hsb.2 b (fun z:b=S=>hq (by rw[z];exact aS))];exact e
end
section
variable {prog:Program}{w:World}{A:Around}{E:Value->Shared->Prop}{s:Shared}
theorem DP(a:Value){Q₁:Value->Shared->Prop}(h:Q₁ (.ref s.heap.objs.size) {s with heap:=s.heap.push (pE (!w.params.followText "set-order"))}):fC (model prog w) A (.call (.builtin "set.__new__") ⟨[.type "set",a],[]⟩) (wants Q₁ E) s:=by
 refine Bj ?_;show wpAny _ A.in1 (do zB "set.__new__" ⟨[.type "set",a],[]⟩;again (.builtin "set.__new__" ⟨[.type "set",a],[]⟩)) _ _ s;refine aa (my (F.newCall_set_1 a) (ai ⟨dE F.plain_set_new _,cW F.entry_set_new ?_⟩));rw[bY F.plain_set_new _];unfold Builtin.«set.__new__» Builtin.Frozenset.newClass;have hsub:=sub_set_self;obtain⟨hp,g,d,tk,os⟩:=s;dsimp only;wp_walk;refine dy (ai ?_);dsimp only;simp only[newObj];exact aa (wpAny_alloc (ai (ai h)))
theorem uK{l:Addr}{items:Array Value}{ks:List Key}{Q:Value->Shared->Prop}(hh:A.handled=none)(hl:s.heap.IsList l items)(hk:ks.length=items.size)
  (hv:∀(i:Nat)(v:Value),items[i]? =some v->∃k,ks[i]? =some k/\RelV (kV k) v)(hb:items.size+1<fH)
  (h:∀(h':Heap)(tk:Nat),oY (bR prog w) h' s.heap.objs.size (has (met ks)) (met ks).length (!w.params.followText "set-order")->(∀b o,b<s.heap.objs.size->s.heap.get? b=some o->h'.get? b=some o)->Q (.ref s.heap.objs.size) {s with heap:=h',toks:=tk}):
  wpAny (model prog w) A (call (.type "set") [.ref l]) Q E s:=by
 have c0:=F.called_set;obtain⟨c,tl,hmro⟩:=c0.mro;have f1:=c0.made;have f2:=c0.sub;have f3:=c0.notType;have f4:=c0.canCreate;have f5:=F.typeCall_set_1 (.ref l);refine gG (Bj ?_);show wpAny _ _ (callAny (.type "set") _) _ _ _;refine ai ⟨qA _ (by decide+kernel),cW F.entry_type_call ?_⟩;rw[Around.under_plain (weight_type_call_type "set" [.ref l] []) rfl];repeat(any_goals (first |assumption|wp_step))
 refine i3 (DP (.ref l) (E:=E) (Q₁:=fun obj s1=>∃led:Bool,led=(!w.params.followText "set-order")/\obj=.ref s.heap.objs.size/\s1={s with heap:=s.heap.push (pE led)}) ⟨_,rfl,rfl,rfl⟩) fun r s1 hr=>?_;rcases r with e|fl
 ·exact hr
 rcases fl with _|_|_|obj
 ·exact hr.elim
 ·exact hr.elim
 ·exact hr.elim
 obtain⟨led,hled,rfl,rfl⟩:=hr;rw[<-hled]at h;have hS:(s.heap.push (pE led)).get? s.heap.objs.size=some (pE led):=au _ rfl;have hT:Shared.TypeIs {s with heap:=s.heap.push (pE led)} (.ref s.heap.objs.size) "set":=⟨_,hS,rfl⟩;have f6:=c0.init.lookup;have f7:=c0.init.bind (.ref s.heap.objs.size);repeat(any_goals (first |assumption|wp_step))
 refine i3 (gJ (R:=wants (fun r s2=>r=.none/\∃h' tk,s2={s with heap:=h',toks:=tk}/\oY (bR prog w) h' s.heap.objs.size (has (met ks)) (met ks).length led/\
  (∀b o,b<s.heap.objs.size->s.heap.get? b=some o->h'.get? b=some o)) E) c0.init.plain F.entry_set_init (check_set_init_1 hT ?_)) fun r2 s2 hr2=>?_
 ·obtain⟨ol,hol,hcl,nl,hdl⟩:=hl
  obtain⟨oc,od,odt,osl⟩:=ol;obtain rfl:oc=.type "list":=hcl;obtain rfl:odt=.seq items nl:=hdl;have hol':(s.heap.push (pE led)).get? l=some {cls:=.type "list",dict:=od,data:=.seq items nl,slots:=osl}:=af _ hol;have g1:=F.sub_list_set;have g2:=F.sub_list_frozenset;have g3:(gS "list"==gS "dict")=false:=by decide
  have hl1:(s.heap.push (pE led)).IsList l items:=⟨_,hol',rfl,nl,rfl⟩;unfold Builtin.«set.__init__» noKeywords Builtin.Frozenset.updateFrom;generalize hPI:pyIter=PI
  wp_walk
  subst hPI;refine iV hl1 (aa (wpAny_runValue ?_));have hlt:l<s.heap.objs.size:=av hol;have h3:A.in1.in1.in1.handled=none:=by simp[hh]
  have hz:(s.heap.push (pE led)).objs.size=s.heap.objs.size+1:=bS _ _;have hne:l≠(s.heap.push (pE led)).objs.size:=by rw[hz];exact aD (bo hlt)
  have hnf:s.heap.objs.size∉[(s.heap.push (pE led)).objs.size,l]:=by
   rw[hz];intro z;rcases aC.mp z with z|z
   ·exact aD (bZ _) z
   ·exact cV hlt (aO.mp z)
  refine uJ (led:=led) ((HU h3 _ l hne items).toS) s.heap.objs.size hnf ks hk hv hb (items.size-0) 0 _ (by omega) (bA _) ⟨⟨_,au _ rfl,rfl,rfl⟩,hl1.push _⟩ ?_ fun s' mv hS'=>?_
  ·have hg:((s.heap.push (pE led)).push {cls:=.type "list_iterator",data:=.fields #[.ref l,.int 0 0]}).get? s.heap.objs.size=some (pE led):=af _ hS
   exact⟨pE led,#[],0,_,hg,⟨rfl,rfl,rfl⟩,rfl,fun e he=>by simp at he,fun k=>by simp[met,has],by decide,by rfl,rfl,⟨i7,rfl⟩,rfl⟩
  ·obtain⟨h',g',d',tk',os'⟩:=s'
   obtain rfl:g'=s.gens:=mv.gens;obtain rfl:d'=s.drawn:=mv.drawn;obtain rfl:os'=s.os:=mv.os;show wpAny _ _ _ _ _ _;refine ai ?_;show wpAny _ _ (ret bI) _ _ _;refine ai ⟨rfl,h',tk',rfl,hS',fun b o hq e=>mv.heap b o (fun z=>?_) (af _ (af _ e))⟩;rcases aC.mp z with z|z
   ·exact aD hq z
   ·exact aD (bo hq) ((aO.mp z).trans hz)
 ·rcases r2 with e|fl2
  ·exact hr2
  rcases fl2 with _|_|_|v
  ·exact hr2.elim
  ·exact hr2.elim
  ·exact hr2.elim
  obtain⟨rfl,h',tk,rfl,hS',hk'⟩:=hr2;repeat(any_goals (first |assumption|wp_step))
  exact h _ _ hS' hk'
end
theorem DS{X:Cx}(hc:X.calm=true):eL X (.type "set") (rSet X.K):=by
 intro pins s σ H xs us Q I r h;obtain⟨p,ks,rfl,hq,hz,q⟩:=h;obtain⟨u,rfl,rx⟩:=vals1 r;cases rx;obtain⟨its,r',pl,_⟩:=I.list hq;have hlen:=r'.length;rw[ao]at hlen;refine uK (ks:=ks) (I.ok.hd hc) pl.isList (by rw[ay];exact hlen) (fun i v e=>wX r' i v (by simpa using e)) (by rw[ay,<-hlen];unfold fH;omega) fun h' tk hS kp=>?_;refine⟨.ref s.heap.objs.size,_,I.laid (t':=tk) (fun b o e=>kp b o (av e) e) (aw _) (show dh X.prog X.w _ _ _ (Af _ (met ks).length)from ?_),rfl,q _ (I.hok.fresh (aw _))⟩;obtain⟨o,es,ep,t,ho,hex,hd,hel,hmem,hbb,hf,hn⟩:=hS.of;refine⟨⟨o,es,ep,t,ho,hex,hd,hbb,hf,hn⟩,⟨o,ho⟩,fun h1 h2 z k=>?_⟩;obtain⟨o,es,ep,t,ho,rest⟩:=z;exact⟨o,es,ep,t,k o ho,rest⟩
end Q
set_option maxHeartbeats 1000000
namespace Q
open PySem
theorem hO{α:Type}:∀{l:List α}{i:Nat}(h:i<l.length),(l[i]::l.eraseIdx i).Perm l
 |a::l,0,_=>d4 _
 |a::l,i+1,h=>by
  have hi:i<l.length:=by simpa using h
  have ih:=hO hi;show(l[i]::a::l.eraseIdx i).Perm (a::l);exact(tQ _ _ _).trans (ih.cons a)
theorem BF{α:Type}(next :Nat->Nat):∀(fuel k:Nat)(left:List α)(out:Array α),left.length<=fuel->(xG next fuel k left out).toList.Perm (out.toList++left)
 | 0,k,left,out,h=>by
  have e:left=[]:=bW.mp (by omega);subst e;simp[xG]
 |fuel+1,k,left,out,h=>by
  unfold xG;cases left with
  |nil=>simp
  |cons a l=>
   have hi:next k%(a::l).length<(a::l).length:=Nat.mod_lt _ (by simp)
   rw[ag hi];dsimp only;refine(BF next fuel (k+1) _ _ (by rw[xW hi];simp at h⊢;omega)).trans ?_;rw[Array.toList_push,qY];exact List.Perm.append_left _ (hO hi)
theorem mh{α:Type}(next :Nat->Nat)(xs:Array α):(gR next xs).toList.Perm xs.toList:=by
 unfold gR;exact(BF next xs.size 0 xs.toList #[] (by simp)).trans (by simp)
section
variable {M:Model}{A:Around}{E:Value->Shared->Prop}
theorem ub{s:Shared}{src:Source}{n:Nat}{Q:Nat->Shared->Prop}(h:n≠0)(q:∀i d,i<n->Q i {s with drawn:=d}):wpAny M A (choose src n) Q E s:=fun Γ p hΓ=>by
 unfold choose;rw[Sem.wp_choose];exact⟨h,q _ _ (Nat.mod_lt _ (Nat.pos_of_ne_zero h))⟩
theorem vd{α:Type}:∀(n:Nat)(xs:List α)(s:Shared)(Q:List α->Shared->Prop),xs.length<=n->(∀ys d,ys.Perm xs->Q ys {s with drawn:=d})->wpAny M A (drawOrder n xs) Q E s
 | 0,xs,s,Q,h,q=>by
  have e:xs=[]:=bW.mp (by omega);subst e;unfold drawOrder;exact ai (q [] s.drawn (d4 _))
 |n+1,[],s,Q,h,q=>by
  unfold drawOrder;exact ai (q [] s.drawn (d4 _))
 |n+1,a::l,s,Q,h,q=>by
  unfold drawOrder;refine aa (ub (by simp) fun i d hi=>?_);rw[ag hi];dsimp only;refine aa (vd n _ _ _ (by rw[xW hi];simp at h⊢;omega) fun ys d' hy=>ai ?_);exact q _ d' ((hy.cons _).trans (hO hi))
end
end Q
set_option maxHeartbeats 3200000
namespace Q
open PySem PySem.Spec PySem.W PyProof.Rows L2
theorem eZ:Slot "set_iterator" "__next__" "set_iterator.__next__":=
 .of (owner:="set_iterator") (n:="__next__") (by rw[typeLookup_type,builtinLookup_eq_fast];kernel_rfl) (by decide+kernel) (by decide+kernel) (by decide+kernel) (by first |exact .inl (by decide+kernel) |exact .inr (by decide+kernel)) (by rw[Eg];kernel_rfl)
theorem mO:entryFor table "set_iterator.__next__"=some Builtin.«set_iterator.__next__»:=entryFor_of_tree (by kernel_rfl)
theorem oW(a:Value):argsOk "set_iterator.__next__" ⟨[a],[]⟩:=by unfold argsOk;kernel_rfl
theorem qH:entryFor table "set.__iter__"=some Builtin.«frozenset.__iter__»:=entryFor_alias (id':="frozenset.__iter__") (by kernel_rfl) rfl (by decide+kernel) (by kernel_rfl)
noncomputable abbrev siO(S:Addr)(first :Value)(i n ep:Nat):Obj:={cls:=.type "set_iterator",dict:=none,data:=.fields #[first,.int i 0,.ref S,.int n 0,.int ep 0],slots:= #[]}
section
variable {prog:Program}{w:World}{A:Around}{E:Value->Shared->Prop}{s:Shared}
noncomputable def ig(es:Array (Int×Value))(t:bG):Bool:= !t.plain&&es.size>1
theorem nT{a:Addr}{o:Obj}{es:Array (Int×Value)}{ep:Nat}{t:bG}{Q:Bool->Shared->Prop}(ho:s.heap.get? a=some o)(hd:o.data=.set es ep t)(hf:t.fits es.size=true)(h:Q (!w.params.followText "set-order"&&ig es t) s):
  wpAny (model prog w) A (setDrawn a) Q E s:=by
 unfold setDrawn lz;refine aa (dF ho hd hf ?_);dsimp only;refine aa (aa (dy (ai (ai ?_))));exact h
theorem GU{S:Addr}{o:Obj}{es:Array (Int×Value)}{ep:Nat}{t:bG}{Q:Value->Shared->Prop}(ho:s.heap.get? S=some o)(hc:o.cls=.type "set")(hd:o.data=.set es ep t)(hf:t.fits es.size=true)(hsb:es.size<fH)
  (h1:(!w.params.followText "set-order"&&ig es t)=false->Q (.ref s.heap.objs.size) {s with heap:=s.heap.push (siO S (.int 0 0) 0 es.size ep)})
  (h2:(!w.params.followText "set-order"&&ig es t)=true->∀(ps:List Nat)(d:Drawn),ps.Perm (az es.size)->Q (.ref (s.heap.objs.size+1)) {s with drawn:=d,heap:=(s.heap.push {cls:=.type "tuple",data:=.seq (ps.map fun(i:Nat)=>rawInt i).toArray}).push (siO S (.ref s.heap.objs.size) 0 es.size ep)}):
  wpAny (model prog w) A (pyIter (.ref S)) Q E s:=by
 have hT:s.TypeIs (.ref S) "set":=⟨o,ho,hc⟩;refine wpAny_pyIter_slot hT F.slot_set_iter (cK F.slot_set_iter hT qH ?_ (F.args_set_iter_1 _));unfold Builtin.«frozenset.__iter__» Builtin.Frozenset.slot0 Builtin.Frozenset.sizeOf
 wp_walk
 have hfc:(t.place.size != es.size||decide (t.fill>t.mask))=false:=by
  simp only[bG.fits,ah,beq_iff_eq,decide_eq_true_eq]at hf;simp[hf.1,gX.mpr hf.2]
 rw[hd];dsimp only;rw[if_neg (by rw[hfc];decide)];refine ai (ai (ai ?_));refine aa (nT ho hd hf ?_);dsimp only;cases hb:(!w.params.followText "set-order"&&ig es t)with
 |false=>
  rw[if_neg (by decide)];refine aa (ai (aa (wpAny_setEpoch_of ho hd hf ?_)));refine aa (bU (ai ⟨_,rfl,"set_iterator",_,⟨_,au _ rfl,rfl⟩,eZ.lookup,h1 hb⟩))
 |true=>
  rw[if_pos rfl];refine aa (vd _ _ _ _ (by simp) fun ps d hp=>?_);refine aa (bU ?_ (by show(ps.map fun(i:Nat)=>rawInt i).toArray.size<=sizeLine;rw[ay,ao,hp.length_eq,cJ];exact mB hsb));have ho1:(s.heap.push {cls:=.type "tuple",data:=.seq (ps.map fun(i:Nat)=>rawInt i).toArray}).get? S=some o:=af _ ho;refine aa (wpAny_setEpoch_of (s:={s with drawn:=d,heap:=s.heap.push {cls:=.type "tuple",data:=.seq (ps.map fun(i:Nat)=>rawInt i).toArray}}) ho1 hd hf ?_);have hz:(s.heap.push {cls:=.type "tuple",data:=.seq (ps.map fun(i:Nat)=>rawInt i).toArray}).objs.size=s.heap.objs.size+1:=bS ..;refine aa (bU (ai ⟨_,rfl,"set_iterator",_,⟨_,au _ rfl,rfl⟩,eZ.lookup,?_⟩));have :=h2 hb ps d hp;rw[<-hz]at this;exact this
end
section
variable {prog:Program}{w:World}{A:Around}{E:Value->Shared->Prop}{s:Shared}
structure jL(h:Heap)(S:Addr)(es:Array (Int×Value))(ep:Nat)(t:bG):Prop where
 ob:∃o,h.get? S=some o/\o.cls=.type "set"/\o.data=.set es ep t
 fit:t.fits es.size=true
theorem i5{I S:Addr}{first :Value}{i ep:Nat}{es:Array (Int×Value)}{t:bG}{Q:dI->Shared->Prop}(hi:s.heap.get? I=some (siO S first i es.size ep))(hs:jL s.heap S es ep t)
  (h:wpAny (model prog w) A (match first with
   |.int slot _=>do
    match<-setNext S slot.toNat i ep with
    |some (x,next)=>do
     qJ (.ref I) 0 (rawInt next)
     qJ (.ref I) 1 (rawInt ((i:Int)+1))
     ret x
    |none=>do
     qJ (.ref I) 2 .none
     Ef (<-newExc (.type "StopIteration") [])
   |_=>do
    let some places<-jx first |unsupported "internal:set_iterator"
    match places[i]? with
    |some (.int place _)=>do
     let x<-setNextDrawn S place.toNat ep
     qJ (.ref I) 1 (rawInt ((i:Int)+1))
     ret x
    |some _=>unsupported "internal:set_iterator"
    |none=>do
     qJ (.ref I) 0 (rawInt 0)
     qJ (.ref I) 2 .none
     Ef (<-newExc (.type "StopIteration") [])) Q E s):
  wpAny (model prog w) A (Builtin.«set_iterator.__next__» ⟨[.ref I],[]⟩) Q E s:=by
 obtain⟨⟨o,ho,hc,hd⟩,hf⟩:=hs;unfold Builtin.«set_iterator.__next__»;show wpAny _ _ (fieldsOf (.ref I)>>=_) _ _ _;refine aa (wpAny_fieldsOf hi rfl ?_);dsimp only;refine aa (wpAny_setEntries_of ho hd hf ?_);rw[if_neg (by simp)];exact h
theorem nextA{I S:Addr}{k i ep:Nat}{es:Array (Int×Value)}{t:bG}{x:Int×Value}{Q:dI->Shared->Prop}(hw:w.params.followText "set-order"=true)(hi:s.heap.get? I=some (siO S (.int k 0) i es.size ep))(hs:jL s.heap S es ep t)
  (hx:(gR (w.params.setOrder S ep) es)[i]? =some x)(h:∀h',h'.get? I=some (siO S (.int k 0) (i+1) es.size ep)->dg I s.heap h'->Q (.done (.ret x.2)) {s with heap:=h'}):
  wpAny (model prog w) A (Builtin.«set_iterator.__next__» ⟨[.ref I],[]⟩) Q E s:=by
 refine i5 hi hs ?_;obtain⟨⟨o,ho,hc,hd⟩,hf⟩:=hs;dsimp only;refine aa ?_;unfold setNext lz;refine aa (dF ho hd hf ?_);dsimp only;refine aa (aa (dy (ai ?_)));dsimp only;rw[show(model prog w).w.params.followText "set-order"=true from hw];simp only[if_true,bne_self_eq_false,aI,if_false];refine aa ?_;unfold setWalk lz;refine aa (dF ho hd hf ?_);dsimp only;refine aa (aa (dy (ai ?_)));dsimp only;rw[show(model prog w).w.params.followText "set-order"=true from hw];simp only[if_true];refine aa (dy (ai (ai ?_)));rw[show(gR ({program:=(model prog w).prog,params:=(model prog w).w.params:Setting}.params.setOrder S ep) es)[i]? =some x from hx];simp only[i6,aR];refine aa (dw hi (by simp) fun h1 e1 s1=>?_);have e1:h1.get? I=some (siO S (.int k 0) i es.size ep):=e1;refine aa (dw e1 (by simp) fun h2 e2 s2=>?_);have e2:h2.get? I=some (siO S (.int k 0) (i+1) es.size ep):=e2;exact ai (h h2 e2 (s1.trans s2))
theorem nextB{I S:Addr}{k i ep:Nat}{es:Array (Int×Value)}{t:bG}{x:Int×Value}{Q:dI->Shared->Prop}(hw:w.params.followText "set-order"=false)(hdr:ig es t=false)(hled:t.led=true)(hi:s.heap.get? I=some (siO S (.int k 0) i es.size ep))(hs:jL s.heap S es ep t)
  (hk:cu t.place k=i)(hx:es[i]? =some x)(h:∀h' j,t.place[i]? =some j->h'.get? I=some (siO S (.int (j+1:Nat) 0) (i+1) es.size ep)->dg I s.heap h'->Q (.done (.ret x.2)) {s with heap:=h'}):
  wpAny (model prog w) A (Builtin.«set_iterator.__next__» ⟨[.ref I],[]⟩) Q E s:=by
 refine i5 hi hs ?_;obtain⟨⟨o,ho,hc,hd⟩,hf⟩:=hs;dsimp only;refine aa ?_;unfold setNext lz;refine aa (dF ho hd hf ?_);dsimp only;refine aa (aa (dy (ai ?_)));dsimp only;rw[show(model prog w).w.params.followText "set-order"=false from hw];simp only[aI,if_false];have hsz:t.place.size=es.size:=by
  simp only[bG.fits,ah,beq_iff_eq]at hf;exact hf.1
 have hil:i<es.size:=(ck.mp hx).1;have hj:t.place[i]? =some (t.place[i]'(by omega)):=by simp[show i<t.place.size by omega]
 rw[if_neg (fun z=>by have z':ig es t=true:=z;rw[hdr]at z';cases z')];refine aa (show wpAny _ _ (if(!t.led&& !es.isEmpty)=true then unsupported "set:maker-not-led" else pure ()) _ _ _ from ?_);rw[if_neg (by rw[hled];simp)];refine ai (ai ?_);simp only[aR,hk,hx,hj];refine aa (dw hi (by simp) fun h1 e1 s1=>?_);have e1:h1.get? I=some (siO S (.int (t.place[i]'(by omega)+1:Nat) 0) i es.size ep):=e1;refine aa (dw e1 (by simp) fun h2 e2 s2=>?_);have e2:h2.get? I=some (siO S (.int (t.place[i]'(by omega)+1:Nat) 0) (i+1) es.size ep):=e2;exact ai (h h2 _ hj e2 (s1.trans s2))
theorem nextC{I S T:Addr}{i ep p:Nat}{tk:Tok}{es:Array (Int×Value)}{t:bG}{ps:Array Value}{m:Nat}{oT:Obj}{x:Int×Value}{Q:dI->Shared->Prop}(hi:s.heap.get? I=some (siO S (.ref T) i es.size ep))(hs:jL s.heap S es ep t)
  (hT:s.heap.get? T=some oT)(hTd:oT.data=.seq ps m)(hp:ps[i]? =some (.int p tk))(hx:es[p]? =some x)(h:∀h',h'.get? I=some (siO S (.ref T) (i+1) es.size ep)->dg I s.heap h'->Q (.done (.ret x.2)) {s with heap:=h'}):
  wpAny (model prog w) A (Builtin.«set_iterator.__next__» ⟨[.ref I],[]⟩) Q E s:=by
 refine i5 hi hs ?_;obtain⟨⟨o,ho,hc,hd⟩,hf⟩:=hs;dsimp only;refine aa (dY hT hTd ?_);simp only[hp,aR];refine aa ?_;unfold setNextDrawn;refine aa (dF ho hd hf ?_);simp only[bne_self_eq_false,aI,if_false,hx];refine ai ?_;refine aa (dw hi (by simp) fun h2 e2 s2=>?_);have e2:h2.get? I=some (siO S (.ref T) (i+1) es.size ep):=e2;exact ai (h h2 e2 s2)
end
section
variable {prog:Program}{w:World}{A:Around}{E:Value->Shared->Prop}{s:Shared}
theorem ng{α:Type}{Q:α->Shared->Prop}(hh:A.handled=none)(h:∀h' e,(∀c o,s.heap.get? c=some o->h'.get? c=some o)->(∃o,h'.get? e=some o/\o.cls=.type "StopIteration")->E (.ref e) {s with heap:=h'}):
  wpAny (model prog w) A (newExc (.type "StopIteration") []>>=fun x=>Ef x) Q E s:=by
 refine aa ?_;simp only[newExc,newTuple];refine aa (bU ?_ (by size_fits));refine aa (m:=qM _ _) (my (a:=bI) (by first |rfl| (simp only[qM];rfl)) ?_);refine bU ?_ (by size_fits);simp only[Ef];refine aa (wpAny_handled ?_);rw[hh];refine aa (ai (wpAny_throw ?_));exact h _ _ (fun c o e=>af _ (af _ e)) ⟨_,au _ rfl,rfl⟩
noncomputable def Ends(E:Value->Shared->Prop)(I:Addr)(s:Shared):Prop:=∀h' e,(∀c o,c≠I->s.heap.get? c=some o->h'.get? c=some o)->(∃o,h'.get? e=some o/\o.cls=.type "StopIteration")->E (.ref e) {s with heap:=h'}
theorem endA{I S:Addr}{k ep:Nat}{es:Array (Int×Value)}{t:bG}{Q:dI->Shared->Prop}(hh:A.handled=none)(hw:w.params.followText "set-order"=true)(hi:s.heap.get? I=some (siO S (.int k 0) es.size es.size ep))(hs:jL s.heap S es ep t)(h:Ends E I s):
  wpAny (model prog w) A (Builtin.«set_iterator.__next__» ⟨[.ref I],[]⟩) Q E s:=by
 have hx:(gR (w.params.setOrder S ep) es)[es.size]? =none:=by
  have :=(mh (w.params.setOrder S ep) es).length_eq
  simp at this⊢;omega
 refine i5 hi hs ?_;obtain⟨⟨o,ho,hc,hd⟩,hf⟩:=hs;dsimp only;refine aa ?_;unfold setNext lz;refine aa (dF ho hd hf ?_);dsimp only;refine aa (aa (dy (ai ?_)));dsimp only;rw[show(model prog w).w.params.followText "set-order"=true from hw];simp only[if_true,bne_self_eq_false,aI,if_false];refine aa ?_;unfold setWalk lz;refine aa (dF ho hd hf ?_);dsimp only;refine aa (aa (dy (ai ?_)));dsimp only;rw[show(model prog w).w.params.followText "set-order"=true from hw];simp only[if_true];refine aa (dy (ai (ai ?_)));rw[show(gR ({program:=(model prog w).prog,params:=(model prog w).w.params:Setting}.params.setOrder S ep) es)[es.size]? =none from hx];simp only[Option.map_none];refine aa (dw hi (by simp) fun h1 e1 s1=>?_);exact ng (s:={s with heap:=h1}) hh fun h' e kp he=>h h' e (fun c o c1 q=>kp c o (s1.extBut c o c1 q)) he
theorem endB{I S:Addr}{k ep:Nat}{es:Array (Int×Value)}{t:bG}{Q:dI->Shared->Prop}(hh:A.handled=none)(hw:w.params.followText "set-order"=false)(hdr:ig es t=false)(hled:t.led=true)(hi:s.heap.get? I=some (siO S (.int k 0) es.size es.size ep))(hs:jL s.heap S es ep t)
  (hk:cu t.place k=es.size)(h:Ends E I s):wpAny (model prog w) A (Builtin.«set_iterator.__next__» ⟨[.ref I],[]⟩) Q E s:=by
 refine i5 hi hs ?_;obtain⟨⟨o,ho,hc,hd⟩,hf⟩:=hs;dsimp only;refine aa ?_;unfold setNext lz;refine aa (dF ho hd hf ?_);dsimp only;refine aa (aa (dy (ai ?_)));dsimp only;rw[show(model prog w).w.params.followText "set-order"=false from hw];simp only[aI,if_false];rw[if_neg (fun z=>by have z':ig es t=true:=z;rw[hdr]at z';cases z')];refine aa (show wpAny _ _ (if(!t.led&& !es.isEmpty)=true then unsupported "set:maker-not-led" else pure ()) _ _ _ from ?_);rw[if_neg (by rw[hled];simp)];refine ai (ai ?_);have hn:es[es.size]? =none:=by simp
 simp only[aR,hk,hn];refine aa (dw hi (by simp) fun h1 e1 s1=>?_);exact ng (s:={s with heap:=h1}) hh fun h' e kp he=>h h' e (fun c o c1 q=>kp c o (s1.extBut c o c1 q)) he
theorem endC{I S T:Addr}{ep:Nat}{es:Array (Int×Value)}{t:bG}{ps:Array Value}{m:Nat}{oT:Obj}{Q:dI->Shared->Prop}(hh:A.handled=none)(hi:s.heap.get? I=some (siO S (.ref T) es.size es.size ep))(hs:jL s.heap S es ep t)(hT:s.heap.get? T=some oT)(hTd:oT.data=.seq ps m)(hp:ps.size=es.size)(h:Ends E I s):
  wpAny (model prog w) A (Builtin.«set_iterator.__next__» ⟨[.ref I],[]⟩) Q E s:=by
 refine i5 hi hs ?_;dsimp only;refine aa (dY hT hTd ?_);have hn:ps[es.size]? =none:=by simp;omega
 simp only[hn];refine aa (dw hi (by simp) fun h1 e1 s1=>?_);have e1:h1.get? I=some (siO S (.int 0 0) es.size es.size ep):=e1;refine aa (dw e1 (by simp) fun h2 e2 s2=>?_);exact ng (s:={s with heap:=h2}) hh fun h' e kp he=>h h' e (fun c o c1 q=>kp c o (s2.extBut c o c1 (s1.extBut c o c1 q))) he
end
theorem n6:Slot "set_iterator" "__iter__" "set_iterator.__iter__":=
 .of (owner:="set_iterator") (n:="__iter__") (by rw[typeLookup_type,builtinLookup_eq_fast];kernel_rfl) (by decide+kernel) (by decide+kernel) (by decide+kernel) (by first |exact .inl (by decide+kernel) |exact .inr (by decide+kernel)) (by rw[Eg];kernel_rfl)
theorem um:entryFor table "set_iterator.__iter__"=some Builtin.«dict_keyiterator.__iter__»:=
 entryFor_alias (id':="dict_keyiterator.__iter__") (by kernel_rfl) (by first |rfl|decide+kernel) (by decide+kernel) (by kernel_rfl)
theorem xB(a:Value):argsOk "set_iterator.__iter__" ⟨[a],[]⟩:=by unfold argsOk;kernel_rfl
section
variable {prog:Program}{w:World}{A:Around}{E:Value->Shared->Prop}{s:Shared}
theorem we{I:Addr}{Q:Option Value->Shared->Prop}(hT:s.TypeIs (.ref I) "set_iterator")(h:∀(Q':dI->Shared->Prop)(E':Value->Shared->Prop),(∀v h',Q (some v) {s with heap:=h'}->Q' (.done (.ret v)) {s with heap:=h'})->wpAny (model prog w) A.in1 (Builtin.«set_iterator.__next__» ⟨[.ref I],[]⟩) Q' E' s):
  wpAny (model prog w) A (pyNext (.ref I)) Q E s:=by
 unfold pyNext;exact aa (hZ (d9 (name:=aQ "__next__") hT eZ (cK eZ hT mO (h _ _ fun v h' q=>⟨_,rfl,ai q⟩) (oW _))))
theorem wg{I:Addr}{Q:Option Value->Shared->Prop}(hT:s.TypeIs (.ref I) "set_iterator")(h:∀(Q':dI->Shared->Prop)(E':Value->Shared->Prop),(∀h' e,(∀c o,c≠I->s.heap.get? c=some o->h'.get? c=some o)->(∃o,h'.get? e=some o/\o.cls=.type "StopIteration")->E' (.ref e) {s with heap:=h'})->wpAny (model prog w) A.in1 (Builtin.«set_iterator.__next__» ⟨[.ref I],[]⟩) Q' E' s)
  (q:∀h',(∀c o,c≠I->s.heap.get? c=some o->h'.get? c=some o)->Q none {s with heap:=h'}):wpAny (model prog w) A (pyNext (.ref I)) Q E s:=by
 unfold pyNext;refine aa (hZ (d9 (name:=aQ "__next__") hT eZ (cK eZ hT mO (h _ _ fun h' e kp he=>?_) (oW _))));obtain⟨o,e1,e2⟩:=he;exact aa (jv (T:="StopIteration") (b:=true) ⟨o,e1,e2⟩ isSubtype_stop (ai (q _ kp)))
theorem wc{I:Addr}{Q:Value->Shared->Prop}(hT:s.TypeIs (.ref I) "set_iterator")(h:Q (.ref I) s):wpAny (model prog w) A (pyIter (.ref I)) Q E s:=by
 refine wpAny_pyIter_slot hT n6 (cK n6 hT um ?_ (xB _));show wpAny _ _ (ret (.ref I)) _ _ s;exact ai ⟨_,rfl,"set_iterator",_,hT,eZ.lookup,h⟩
end
theorem jL.at{h h':Heap}{S:Addr}{es:Array (Int×Value)}{ep:Nat}{t:bG}(x:jL h S es ep t)(k:∀o,h.get? S=some o->h'.get? S=some o):jL h' S es ep t:=let⟨⟨o,a,b,c⟩,f⟩:=x;⟨⟨o,k o a,b,c⟩,f⟩
variable {prog:Program}{w:World}{A:Around}
theorem walkA(hh:A.handled=none)(hw:w.params.followText "set-order"=true){I S:Addr}(ne:S≠I)(es:Array (Int×Value))(ep:Nat)(t:bG):
  Walks prog w A I [I,S] [I] es.size (fun i v=>((gR (w.params.setOrder S ep) es).toList.map (·.2))[i]? =some v) (fun i h=>jL h S es ep t/\∃k:Nat,h.get? I=some (siO S (.int k 0) i es.size ep)) where
 sub:=fun b hb=>by simp at hb⊢;exact .inl hb
 frame:=fun i h h' ⟨x,k,e⟩ kp=>⟨x.at fun o q=>kp S (by simp) o q,k,kp I (by simp) _ e⟩
 item:=fun i s Q E hi ⟨x,k,e⟩ hQ=>by
  have hl:=(mh (w.params.setOrder S ep) es).length_eq;simp only[bX]at hl;have hx:(gR (w.params.setOrder S ep) es)[i]? =some ((gR (w.params.setOrder S ep) es)[i]'(by omega)):=by simp[show i<(gR (w.params.setOrder S ep) es).size by omega]
  refine we ⟨_,e,rfl⟩ fun Q' E' q=>nextA hw e x hx fun h' e' sb=>q _ h' ?_;exact hQ _ h' s.toks (by simp[hx]) ⟨x.at fun o z=>sb.extBut S o ne z,k,e'⟩ fun b o hb z=>sb.extBut b o (by simpa using hb) z
 done:=fun s Q E ⟨x,k,e⟩ hQ=>wg ⟨_,e,rfl⟩ (fun Q' E' q=>endA (by simp[hh]) hw e x q) fun h' kp=>hQ h' s.toks fun b o hb z=>kp b o (by simpa using hb) z
 self:=fun i s Q E ⟨x,k,e⟩ q=>wc ⟨_,e,rfl⟩ q
theorem walkB(hh:A.handled=none)(hw:w.params.followText "set-order"=false){I S:Addr}(ne:S≠I)(es:Array (Int×Value))(ep:Nat)(t:bG)(hd:ig es t=false)(hl:t.led=true)(hT:jt t):
  Walks prog w A I [I,S] [I] es.size (fun i v=>(es.toList.map (·.2))[i]? =some v) (fun i h=>jL h S es ep t/\∃k:Nat,cu t.place k=i/\h.get? I=some (siO S (.int k 0) i es.size ep)) where
 sub:=fun b hb=>by simp at hb⊢;exact .inl hb
 frame:=fun i h h' ⟨x,k,hk,e⟩ kp=>⟨x.at fun o q=>kp S (by simp) o q,k,hk,kp I (by simp) _ e⟩
 item:=fun i s Q E hi ⟨x,k,hk,e⟩ hQ=>by
  have hx:es[i]? =some es[i]:=by simp[hi]
  refine we ⟨_,e,rfl⟩ fun Q' E' q=>nextB hw hd hl e x hk hx fun h' j hj e' sb=>q _ h' ?_;exact hQ _ h' s.toks (by simp[hx]) ⟨x.at fun o z=>sb.extBut S o ne z,j+1,A9 hT.up hj,e'⟩ fun b o hb z=>sb.extBut b o (by simpa using hb) z
 done:=fun s Q E ⟨x,k,hk,e⟩ hQ=>wg ⟨_,e,rfl⟩ (fun Q' E' q=>endB (by simp[hh]) hw hd hl e x hk q) fun h' kp=>hQ h' s.toks fun b o hb z=>kp b o (by simpa using hb) z
 self:=fun i s Q E ⟨x,k,hk,e⟩ q=>wc ⟨_,e,rfl⟩ q
theorem walkC(hh:A.handled=none){I S T:Addr}(ne:S≠I)(neT:T≠I)(es:Array (Int×Value))(ep:Nat)(t:bG)(ps:List Nat)(hp:ps.Perm (az es.size)):
  Walks prog w A I [I,S,T] [I] es.size (fun i v=>(ps.map fun p=>(es.getD p (0,.none)).2)[i]? =some v) (fun i h=>jL h S es ep t/\h.get? T=some {cls:=.type "tuple",data:=.seq (ps.map fun(i:Nat)=>rawInt i).toArray}/\h.get? I=some (siO S (.ref T) i es.size ep)) where
 sub:=fun b hb=>by simp at hb⊢;exact .inl hb
 frame:=fun i h h' ⟨x,z,e⟩ kp=>⟨x.at fun o q=>kp S (by simp) o q,kp T (by simp) _ z,kp I (by simp) _ e⟩
 item:=fun i s Q E hi ⟨x,z,e⟩ hQ=>by
  have hl:ps.length=es.size:=by rw[hp.length_eq,cJ]
  have hil:i<ps.length:=by omega
  have hm:ps[i]<es.size:=cC.mp (hp.mem_iff.mp (bq hil));have hx:es[ps[i]]? =some es[ps[i]]:=by simp[hm]
  refine we ⟨_,e,rfl⟩ fun Q' E' q=>nextC (p:=ps[i]) (tk:=0) e x z rfl (by simp[hil,rawInt]) hx fun h' e' sb=>q _ h' ?_;exact hQ _ h' s.toks (by simp[hil,hm]) ⟨x.at fun o y=>sb.extBut S o ne y,sb.extBut T _ neT z,e'⟩ fun b o hb y=>sb.extBut b o (by simpa using hb) y
 done:=fun s Q E ⟨x,z,e⟩ hQ=>wg ⟨_,e,rfl⟩ (fun Q' E' q=>endC (by simp[hh]) e x z rfl (by simp[hp.length_eq]) q) fun h' kp=>hQ h' s.toks fun b o hb y=>kp b o (by simpa using hb) y
 self:=fun i s Q E ⟨x,z,e⟩ q=>wc ⟨_,e,rfl⟩ q
end Q
namespace Q
open PySem PySem.Spec PySem.W PyProof.Rows L2
section
variable {prog:Program}{w:World}{A:Around}{E:Value->Shared->Prop}{s:Shared}
theorem ite_yes{α:Type}{M:Model}{b:Bool}{x y:Sem α}{Q:α->Shared->Prop}(hb:b=true)(h:wpAny M A x Q E s):wpAny M A (if b=true then x else y) Q E s:=by rw[if_pos hb];exact h
theorem yR{S:Addr}{Q:Bool->Shared->Prop}(hT:s.TypeIs (.ref S) "set")(h:Q false s):wpAny (model prog w) A (pW (.ref S)) Q E s:=by
 unfold pW;refine aa (wpAny_specialOf hT F.slot_set_len.lookup ?_);generalize hid:("set.__len__":String)=id0
 (fail_if_success (clear hid id0))
 wp_delta
 rw[show splitId id0=some ("set","__len__")from by subst hid;decide+kernel];subst hid;refine aa (jv (b:=true) hT (by rw[Eg];kernel_rfl) ?_);rw[if_neg (by decide)];refine ite_yes (by decide+kernel) (aa (xE hT ?_));exact ai h
noncomputable abbrev iH(acc:Array Value)(c:Nat):Obj:={cls:=.type "list",dict:=none,data:=.seq acc c,slots:= #[]}
theorem touch{L:Addr}{acc:Array Value}{c:Nat}{Q:Unit->Shared->Prop}(hL:s.heap.get? L=some (iH acc c))(hz:acc.size<=5000)(h:∀h' c',h'.get? L=some (iH acc c')->dg L s.heap h'->Q () {s with heap:=h'}):wpAny (model prog w) A (ke (.ref L)) Q E s:=by
 have hz1:acc.size<=sizeLine:=aX hz (by decide);unfold ke;refine aa (fo hL rfl ?_ hz1 (by simp;omega));have e1:∃c1,(s.heap.update L (aT fun x=>x.push bI)).get? L=some (iH (acc.push .none) c1):=⟨_,by rw[bu _ hL rfl];rfl⟩;obtain⟨c1,e1⟩:=e1;refine fo (s:={s with heap:=s.heap.update L (aT fun x=>x.push bI)}) e1 rfl ?_ (by simp;exact aX (by omega:acc.size+1<=5001) (by decide)) (by simp;omega);have e2:∃c2,((s.heap.update L (aT fun x=>x.push bI)).update L (aT fun x=>x.pop)).get? L=some (iH acc c2):=⟨_,by rw[bu _ e1 rfl];simp[aT];rfl⟩;obtain⟨c2,e2⟩:=e2;exact h _ c2 e2 ((bN ..).trans (bN ..))
theorem sk{L I:Addr}{fp wr:List Addr}{n:Nat}{P:Nat->Value->Prop}{St:Nat->Heap->Prop}{res:Value}{c:Nat}{R:Result->Shared->Prop}{Qf:dI->Shared->Prop}(hq:∀c' s',c'.quiet=true/\fC (model prog w) A c' R s'->Qf (.again c') s')(W:Walks prog w A.in1 I fp wr n P St)(hn:n<=sizeLine)(hLf:L∉fp)(hL:s.heap.get? L=some (iH #[] c))(st:St 0 s.heap)
  (h:∀s' acc c',(∀b o,b∉L::wr->s.heap.get? b=some o->s'.heap.get? b=some o)->s'.gens=s.gens->s'.drawn=s.drawn->s'.os=s.os->s'.heap.get? L=some (iH acc c')->ItemsOf P acc n->R (.ok (.ret res)) s'):
  wpAny (model prog w) A.in1 (do
   rule "list.extend.makes-room"
   let __r<-ke (.ref L)
   (fun(__r:Unit)=>again (Code.builtin "list.extend.loop" {pos:=[bp L,bp I,res]})) __r) Qf E s:=by
 refine aa (fV (aa (touch hL (by simp) fun h1 c1 e1 sb=>?_)));have st1:=W.frame 0 s.heap h1 st fun b hb o e=>sb.extBut b o (fun z=>hLf (z▸hb)) e;refine ai (hq _ _ ⟨dE F.plain_extend_loop _,codeAny_extend_loopS W.toS hn _ hLf _ n 0 _ _ _ rfl (bA _) st1 e1 (ItemsOf.nil P) fun s' acc' c' hm hS' hacc=>?_⟩);exact h s' acc' c' (fun b o hb e=>hm.heap b o hb (sb.extBut b o (fun z=>hb (by rw[z];exact aS)) e)) hm.gens hm.drawn hm.os hS' hacc
end
theorem AQ{vs:List Value}{acc:Array Value}(h:ItemsOf (fun i v=>vs[i]? =some v) acc vs.length):acc.toList=vs:=by
 obtain⟨h1,h2⟩:=h;apply cU
 ·simpa using h1
 ·intro i a b
  have :vs[i]? =some acc[i]:=h2 i acc[i] (by simp);rw[ag b]at this;simpa using(aY this).symm
theorem es_map(es:Array (Int×Value)):((az es.size).map fun p=>(es.getD p (0,.none)).2)=es.toList.map (·.2):=by
 apply cU
 ·simp
 ·intro i a b
  have hi:i<es.size:=by simpa using a
  simp[hi]
section
variable {prog:Program}{w:World}{A:Around}{E:Value->Shared->Prop}{s:Shared}
theorem zb{S:Addr}{o:Obj}{es:Array (Int×Value)}{ep:Nat}{t:bG}{Q:List Value->Shared->Prop}(hh:A.handled=none)(ho:s.heap.get? S=some o)(hc:o.cls=.type "set")(hd:o.data=.set es ep t)(hf:t.fits es.size=true)(hsb:es.size<fH)(hT:jt t)(hled:w.params.followText "set-order"=false->t.led=true)
  (hQ:∀(vs:List Value) s',vs.Perm (es.toList.map (·.2))->(∀b o,s.heap.get? b=some o->s'.heap.get? b=some o)->s'.gens=s.gens->s'.os=s.os->s.heap.objs.size<s'.heap.objs.size->Q vs s'):wpAny (model prog w) A (collect (.ref S)) Q E s:=by
 have hSl:S<s.heap.objs.size:=av ho;have hn:es.size<=sizeLine:=mB hsb;unfold collect;refine aa (wpAny_runValue (cW F.entry_proto_collect ?_));rw[bY F.plain_proto_collect _];show wpAny _ A.in1 (newList []>>=fun l=>again (.builtin "list.__iadd__" ⟨[l,.ref S],[]⟩)) _ _ s;refine aa (bU ?_);refine ai ⟨dE F.plain_list_iadd _,cW F.entry_list_iadd ?_⟩;rw[bY F.plain_list_iadd _];have hL:(s.heap.push (iH #[] 0)).get? s.heap.objs.size=some (iH #[] 0):=au _ rfl;have ho1:(s.heap.push (iH #[] 0)).get? S=some o:=af _ ho;have hz:(s.heap.push (iH #[] 0)).objs.size=s.heap.objs.size+1:=bS ..;have hT1:Shared.TypeIs {s with heap:=s.heap.push (iH #[] 0)} (.ref S) "set":=⟨o,ho1,hc⟩;show wpAny _ A.in1 (pX (.ref s.heap.objs.size) (.ref S) (.ref s.heap.objs.size)) _ _ {s with heap:=s.heap.push (iH #[] 0)};unfold pX;refine aa (xE hT1 ?_);rw[if_neg (by simp[Builtin.List.listSameRef];exact cV hSl)];have fin:∀(vs:List Value)(s':Shared)(acc:Array Value)(c':Nat),vs.length=es.size->vs.Perm (es.toList.map (·.2))->(∀b o,s.heap.get? b=some o->s'.heap.get? b=some o)->s'.gens=s.gens->s'.os=s.os->s'.heap.get? s.heap.objs.size=some (iH acc c')->ItemsOf (fun i v=>vs[i]? =some v) acc es.size->
   wpAny (model prog w) A (load s.heap.objs.size>>=fun x=>match x.data with |.seq xs _=>pure xs.toList|_=>unsupported "internal:collect") Q E s':=fun vs s' acc c' hl hp k1 k2 k3 e it=>by
  refine aa (wpAny_load e ?_);rw[<-hl]at it;have :=AQ it;exact ai (by rw[this];exact hQ vs s' hp k1 k2 k3 (av e))
 refine aa (GU ho1 hc hd hf hsb (fun hm=>?_) fun hm ps d hp=>?_)
 ·rw[hz]
  refine aa (bh (yR ⟨o,af _ ho1,hc⟩ ?_));refine ite_yes (by decide+kernel) ?_;have hI:((s.heap.push (iH #[] 0)).push (siO S (.int 0 0) 0 es.size ep)).get? (s.heap.objs.size+1)=some (siO S (.int 0 0) 0 es.size ep):=by rw[<-hz];exact au _ rfl
  have hSA:jL ((s.heap.push (iH #[] 0)).push (siO S (.int 0 0) 0 es.size ep)) S es ep t:=⟨⟨o,af _ ho1,hc,hd⟩,hf⟩;have nfp:s.heap.objs.size∉[s.heap.objs.size+1,S]:=by
   simp only[aC,dj,or_false,not_or];exact⟨aD (bZ _),cV hSl⟩
  have kp:∀(s':Shared),(∀b o,b∉s.heap.objs.size::[s.heap.objs.size+1]->((s.heap.push (iH #[] 0)).push (siO S (.int 0 0) 0 es.size ep)).get? b=some o->s'.heap.get? b=some o)->∀b o,s.heap.get? b=some o->s'.heap.get? b=some o:=fun s' k b o e=>by
   have hb:=av e;refine k b o ?_ (af _ (af _ e));simp only[aC,dj,or_false,not_or];exact⟨aD hb,aD (bo hb)⟩
  cases hw:w.params.followText "set-order" with
  |true=>
   have hl:((gR (w.params.setOrder S ep) es).toList.map (·.2)).length=es.size:=by
    have :=(mh (w.params.setOrder S ep) es).length_eq
    simpa using this
   refine sk (s:={s with heap:=(s.heap.push (iH #[] 0)).push (siO S (.int 0 0) 0 es.size ep)}) (fun c' s' h=>h) (walkA (A:=A.in1) (by simp[hh]) hw (aD (bo hSl)) es ep t) hn nfp (af _ hL) ⟨hSA,0,hI⟩ fun s' acc c' k1 k2 k3 k4 e it=>?_;exact fin _ s' acc c' hl ((mh (w.params.setOrder S ep) es).map _) (kp s' k1) k2 k4 e it
  |false=>
   have hdr:ig es t=false:=by rw[hw]at hm;simpa using hm
   refine sk (s:={s with heap:=(s.heap.push (iH #[] 0)).push (siO S (.int 0 0) 0 es.size ep)}) (fun c' s' h=>h) (walkB (A:=A.in1) (by simp[hh]) hw (aD (bo hSl)) es ep t hdr (hled hw) hT) hn nfp (af _ hL) ⟨hSA,0,A8 hT.up,hI⟩ fun s' acc c' k1 k2 k3 k4 e it=>?_;exact fin _ s' acc c' (by simp) (d4 _) (kp s' k1) k2 k4 e it
 ·rw[hz]
  have hz2:((s.heap.push (iH #[] 0)).push {cls:=.type "tuple",data:=.seq (ps.map fun(i:Nat)=>rawInt i).toArray}).objs.size=s.heap.objs.size+1+1:=by rw[bS,hz]
  have hT2:((s.heap.push (iH #[] 0)).push {cls:=.type "tuple",data:=.seq (ps.map fun(i:Nat)=>rawInt i).toArray}).get? (s.heap.objs.size+1)=some {cls:=.type "tuple",data:=.seq (ps.map fun(i:Nat)=>rawInt i).toArray}:=by rw[<-hz];exact au _ rfl
  have ho2:((s.heap.push (iH #[] 0)).push {cls:=.type "tuple",data:=.seq (ps.map fun(i:Nat)=>rawInt i).toArray}).get? S=some o:=af _ ho1;have hL2:((s.heap.push (iH #[] 0)).push {cls:=.type "tuple",data:=.seq (ps.map fun(i:Nat)=>rawInt i).toArray}).get? s.heap.objs.size=some (iH #[] 0):=af _ hL;have kp2:∀b o,s.heap.get? b=some o->((s.heap.push (iH #[] 0)).push {cls:=.type "tuple",data:=.seq (ps.map fun(i:Nat)=>rawInt i).toArray}).get? b=some o:=fun b o e=>af _ (af _ e);generalize(s.heap.push (iH #[] 0)).push {cls:=.type "tuple",data:=.seq (ps.map fun(i:Nat)=>rawInt i).toArray}=h2 at *;refine aa (bh (yR ⟨o,af _ ho2,hc⟩ ?_));refine ite_yes (by decide+kernel) ?_;have hI:(h2.push (siO S (.ref (s.heap.objs.size+1)) 0 es.size ep)).get? (s.heap.objs.size+1+1)=some (siO S (.ref (s.heap.objs.size+1)) 0 es.size ep):=by rw[<-hz2];exact au _ rfl
  have nfp:s.heap.objs.size∉[s.heap.objs.size+1+1,S,s.heap.objs.size+1]:=by
   simp only[aC,dj,or_false,not_or];exact⟨aD (bo (bZ _)),cV hSl,aD (bZ _)⟩
  have hl:(ps.map fun p=>(es.getD p (0,.none)).2).length=es.size:=by rw[ao,hp.length_eq,cJ]
  refine sk (s:={s with drawn:=d,heap:=h2.push (siO S (.ref (s.heap.objs.size+1)) 0 es.size ep)}) (fun c' s' h=>h) (walkC (A:=A.in1) (by simp[hh]) (aD (bo (bo hSl))) (aD (bZ _)) es ep t ps hp) hn nfp (af _ hL2)
   ⟨⟨⟨o,af _ ho2,hc,hd⟩,hf⟩,af _ hT2,hI⟩ fun s' acc c' k1 k2 k3 k4 e it=>?_
  refine fin _ s' acc c' hl ((hp.map _).trans (by rw[es_map])) (fun b o q=>?_) k2 k4 e it;have hb:=av q;refine k1 b o ?_ (af _ (kp2 b o q));simp only[aC,dj,or_false,not_or];exact⟨aD hb,aD (bo (bo hb))⟩
end
theorem DI{vs xs:List Value}(p:vs.Perm xs):∀{ks:List Int},bV xs ks->∃ms:List Int,ms.Perm ks/\bV vs ms:=by
 induction p with
 |nil=>intro ks h;exact⟨ks,d4 _,h⟩
 |cons x p ih=>
  intro ks h;cases h with
  |cons k t h=>
   obtain⟨ms,a,b⟩:=ih h;exact⟨k::ms,a.cons k,.cons k t b⟩
 |swap x y l=>
  intro ks h;cases h with
  |cons k t h=>cases h with
   |cons k' t' h=>exact⟨k'::k::_,tQ _ _ _,.cons k' t' (.cons k t h)⟩
 |trans p q ih1 ih2=>
  intro ks h;obtain⟨ms,a,b⟩:=ih2 h;obtain⟨ms',a',b'⟩:=ih1 b;exact⟨ms',a'.trans a,b'⟩
section
variable {prog:Program}{w:World}{A:Around}{E:Value->Shared->Prop}{s:Shared}
theorem Ac{S:Addr}{o:Obj}{es:Array (Int×Value)}{ep:Nat}{t:bG}{ks:List Int}{Q:Value->Shared->Prop}(hh:A.handled=none)(ho:s.heap.get? S=some o)(hc:o.cls=.type "set")(hd:o.data=.set es ep t)(hf:t.fits es.size=true)(h64:es.size<64)(hT:jt t)(hled:w.params.followText "set-order"=false->t.led=true)
  (hk:bV (es.toList.map (·.2)) ks)(nd:ks.Nodup)
  (h:∀(ms:List Int)(vs:List Value)(s':Shared)(l:Addr)(c:Nat),ms.Perm ks->bV vs ms->(∀b o,s.heap.get? b=some o->s'.heap.get? b=some o)->s'.gens=s.gens->s'.os=s.os->s.heap.objs.size<=l->s'.heap.get? l=some (seqObj "list" (fP (ltI ms) vs).toArray c)->Q (.ref l) s'):
  wpAny (model prog w) A (call (.builtin "sorted") [.ref S]) Q E s:=by
 refine kF kind_sorted plain_sorted entry_sorted (args_sorted1 _) ?_;unfold Builtin.«sorted»;refine aa (m:=checkCount "sorted" 1 1 _) (ai (aa (zb (by simp[hh]) ho hc hd hf (fJ h64 (by decide)) hT hled fun vs s' hp kp k2 k3 k4=>aa (mG ?_ ?_))))
 ·obtain⟨ms,m1,m2⟩:=DI hp hk
  have hl:vs.length=ms.length:=m2.length;have hv:vs.length<64:=by
   have :=hp.length_eq
   simp at this;omega
  have hg:(s'.heap.push (seqObj "list" vs.toArray 0)).get? s'.heap.objs.size=some (seqObj "list" vs.toArray 0):=au _ rfl;have ndm:ms.Nodup:=m1.nodup_iff.mpr nd;show wpAny _ _ _ _ _ {s' with heap:=s'.heap.push (seqObj "list" vs.toArray 0)};refine aa (bh (cK Ed ⟨_,hg,rfl⟩ Bi (Bn (lt:=ltI ms) (h0:=s'.heap) (by rw[hl];exact EK ndm) hg (fun b o e=>⟨af _ e,aD (av e)⟩) hv (fun h2=>vG m2 h2) ⟨_,rfl,?_⟩) (args_list_sort _)));refine ai ⟨_,rfl,?_⟩;obtain⟨c,hc'⟩:=sortedHeap_at (out:=(fP (ltI ms) vs).toArray) hg;refine h ms vs _ _ c m1 m2 (fun b o e=>?_) k2 k3 (j6 k4) hc';have e':=kp b o e;have hb:=av e';show(sortedHeap (s'.heap.push (seqObj "list" vs.toArray 0)) s'.heap.objs.size vs (fP (ltI ms) vs).toArray).get? b=some o;rw[sortedHeap_old (aD hb) (by rw[Ee];exact bo hb)];exact af _ e'
 ·have :=hp.length_eq
  simp at this;exact aX (by omega:vs.length<=64) (by decide)
end
theorem Gp(ks:List Key):(met ks).Nodup:=by
 unfold met;have g:∀(l acc:List Key),acc.Nodup->(l.foldl more acc).Nodup:=by
  intro l
  induction l with
  |nil=>exact fun _ h=>h
  |cons k l ih=>
   intro acc h;refine ih _ ?_;unfold more;split
   ·exact h
   ·rename_i c
    refine dA.mpr ⟨h,by simp,fun a ha b hb=>?_⟩;rw[aO]at hb;subst hb;intro z;subst z;exact c (iT.mpr ha)
 exact g ks [] j9
theorem uM{α:Type}[DecidableEq α]:∀{m l:List α},m.Nodup->(∀x∈m,x∈l)->l.length=m.length->l.Perm m
 | [],l,_,_,h=>by
  rw[jr]at h;rw[List.eq_nil_of_length_eq_zero h]
 |a::m,l,nd,hs,h=>by
  have ha:a∈l:=hs a aS;have p:=List.perm_cons_erase ha;rw[cS]at nd;have hl:=p.length_eq;rw[bJ]at hl h;have q:=uM (m:=m) (l:=l.erase a) nd.2 (fun x hx=>(Et (fun z:x=a=>nd.1 (by rw[<-z];exact hx))).mpr (hs x (aN _ hx))) (by omega);exact p.trans (q.cons a)
section
variable {prog:Program}{w:World}
theorem BS{k:Int}{v:Value}(h:(bR prog w).is (.inl k) v=true):∃t,v=.int k t:=by
 rw[AG]at h;exact Value.isInt_shape (k:=k) (v:=v) h
theorem qT{l:List (Int×Value)}(h:ElemsOf (bR prog w) l)(hi:∀e∈l,∀k,(bR prog w).is k e.2=true->∃n:Int,k=.inl n):∃ms:List Int,bV (l.map (·.2)) ms:=by
 induction l with
 |nil=>exact⟨[],.nil⟩
 |cons e l ih=>
  obtain⟨ms,r⟩:=ih h.tail fun e' he'=>hi e' (aN _ he');obtain⟨⟨k,hk,_⟩,_⟩:=h.head;obtain⟨n,rfl⟩:=hi e aS k hk;obtain⟨t,e2⟩:=BS hk;refine⟨n::ms,?_⟩;rw[bB,e2];exact .cons n t r
theorem GV:∀{vs:List Value}{ms:List Int},bV vs ms->∀n,n∈ms↔∃v∈vs,(bR prog w).is (.inl n) v=true:=by
 intro vs ms r
 induction r with
 |nil=>simp
 |cons k t r ih=>
  intro n;rw[aC,ih n];constructor
  ·rintro(rfl|⟨v,hv,e⟩)
   ·exact⟨_,aS,lL _ _ _ _⟩
   ·exact⟨v,aN _ hv,e⟩
  ·rintro⟨v,hv,e⟩
   rcases aC.mp hv with rfl|hv
   ·obtain⟨t',e'⟩:=BS e
    cases e';exact .inl rfl
   ·exact .inr ⟨v,hv,e⟩
theorem C2{h:Heap}{a:Addr}{ns:List Int}{led:Bool}(x:oY (bR prog w) h a (has (met (ns.map .inl))) (met (ns.map .inl)).length led):
  ∃o es ep t ms,h.get? a=some o/\o.cls=.type "set"/\o.data=.set es ep t/\t.fits es.size=true/\es.size<=ns.length/\jt t/\t.led=led/\bV (es.toList.map (·.2)) ms/\ms.Nodup/\∀n,n∈ms↔n∈ns:=by
 obtain⟨o,es,ep,t,ho,hx,hd,hl,hm,hb,hf,hn,hT,hL⟩:=x;have hle:=Gq (ns.map (eT:Int->Key));rw[ao]at hle;have inl:∀e∈es.toList,∀k,(bR prog w).is k e.2=true->∃n:Int,n∈ns/\k=.inl n:=fun e he k hk=>by
  have :=kM.mp (iT.mp ((hm k).mpr ⟨e,he,hk⟩))
  obtain⟨n,hn,rfl⟩:=aV.mp this;exact⟨n,hn,rfl⟩
 obtain⟨ms,r⟩:=qT hl fun e he k hk=>let⟨n,_,e⟩:=inl e he k hk;⟨n,e⟩;have mem:∀n,n∈ms↔n∈ns:=fun n=>by
  rw[GV (prog:=prog) (w:=w) r n];constructor
  ·rintro⟨v,hv,e⟩
   obtain⟨e',he',rfl⟩:=aV.mp hv;obtain⟨n',hn',z⟩:=inl e' he' _ e;cases z;exact hn'
  ·intro h
   obtain⟨e,he,hk⟩:=(hm (.inl n)).mp (iT.mpr (kM.mpr (pf h)));exact⟨e.2,pf he,hk⟩
 have len:ms.length=es.size:=by
  have :=r.length
  simp at this;omega
 have p:(ms.map (eT:Int->Key)).Perm (met (ns.map .inl)):=uM (Gp _) (fun x hx=>by
  obtain⟨n,hn,rfl⟩:=aV.mp (kM.mp hx);exact pf ((mem n).mpr hn)) (by rw[ao];omega)
 have nd:(ms.map (eT:Int->Key)).Nodup:=p.nodup_iff.mpr (Gp _);exact⟨o,es,ep,t,ms,ho,hx.1,hd,hf,by omega,hT,hL,r,(kX.mp nd).imp fun h z=>h (congrArg _ z),mem⟩
end
end Q
namespace L2
open PySem PySem.Spec PyProof.Rows Q
section
variable {X:Cx}
theorem Inv.same{pins:List (Addr×Obj)}{σ:List (Option V)}{H:Hp}{s s':Shared}(I:Inv X pins σ H s)(h1:s'.heap=s.heap)(h2:s'.gens=s.gens)(h3:s'.os=s.os):Inv X pins σ H s':=by
 obtain⟨h,g,d,t,o⟩:=s;obtain⟨h',g',d',t',o'⟩:=s';obtain rfl:h'=h:=h1;obtain rfl:g'=g:=h2;obtain rfl:o'=o:=h3;exact⟨I.ok,I.os,I.bare,I.base,I.loc,I.cell,I.free,I.freeC,I.pin,I.hok,I.len⟩
noncomputable def x9(K:ae)(ta:TA):TE:=fun σ H Q=>ta σ H fun vs H1=>∃(p:Addr)(ns:List Int),vs=[V.ref p]/\SqL K H1 p (ns.map V.int)/\ns.length<64/\
 ∀(ms:List Int) l,ms.Nodup->(∀x,x∈ms↔x∈ns)->H1 l=none->Q (.ref l) (upd H1 l (.lst (sortI ms)))
theorem xv:fg "sorted"=some (.builtin "sorted"):=by decide+kernel
theorem DZ:fg "set"=some (.type "set"):=by decide+kernel
theorem Ap{a:Expr}{ta:TA}{p p' pos pos':Pos}(hc:X.calm=true)(hg:Gl X "sorted")(hm:X.mg "sorted"=none)(hg':Gl X "set")(hm':X.mg "set"=none)(ha:PA X [a] ta)(hs:aK [a] X.env=[(false,eval a X.env)]:=by rfl):
  PE X (.Call (.Name "sorted" p) [.Call (.Name "set" p') [a] [] pos'] [] pos) (x9 X.K ta):=by
 intro pins s σ H Q I h;refine Call_ (ji I hg hm xv (gV (pV ?_) rfl rfl));refine Call_ (ji I hg' hm' DZ (cA (thn (ha pos' pins s σ H _ I h) fun us s1 ⟨vs,H1,I1,r1,q1⟩=>?_) hs rfl));obtain⟨pl,ns,e,hq,h64,q⟩:=q1;subst e;obtain⟨u,rfl,rx⟩:=vals1 r1;cases rx;obtain⟨its,r',plist,_⟩:=I1.list hq;have hlen:=r'.length;rw[ao]at hlen;have r2:bM ((ns.map (eT:Int->Key)).map kV) its:=by
  rw[dB];exact r'
 refine uK (ks:=ns.map .inl) (I1.ok.hd hc) plist.isList (by rw[ay,ao];exact hlen) (fun i v e=>wX r2 i v (by simpa using e)) (by rw[ay,<-hlen];unfold fH;omega) fun h' tk hS kp=>?_;obtain⟨o,es,ep,t,ms,ho,hx,hd,hf,hsz,hT,hL,r,nd,mem⟩:=C2 hS;refine ai ?_;refine Ac (s:={s1 with heap:=h',toks:=tk}) (I1.ok.hd hc) ho hx hd hf (by omega) hT (fun z=>by rw[hL,z];rfl) r nd fun ms' vs s' l c hp hv kp' k2 k3 k4 k5=>?_;have nd':ms'.Nodup:=hp.nodup_iff.mpr nd;have hlm:ms'.length=es.size:=by
  have a1:=hp.length_eq;have a2:=r.length;simp at a2;omega
 have kk:∀b o,s1.heap.get? b=some o->s'.heap.get? b=some o:=fun b o e=>kp' b o (kp b o (av e) e);have hlt:s1.heap.objs.size<h'.objs.size:=av ho;have hle:s1.heap.objs.size<=l:=aX (j6 hlt) k4;have hz2:(sortI ms').length<=sizeLine:=by
  unfold sortI;rw[ao,yt nd'];exact eY (by omega)
 exact⟨.ref l,_,(I1.laid (h':=s'.heap) (t':=s1.toks) kk hle (show dh X.prog X.w _ _ _ (.lst (sortI ms'))from⟨hz2,_,c,outI nd' (pk hv),k5⟩)).same rfl k2 k3,rfl,q _ _ nd' (fun x=>(hp.mem_iff).trans (mem x)) (I1.hok.fresh hle)⟩
end
end L2
namespace L2
open PySem PySem.Spec PySem.W PyProof.Rows
section
variable {prog:Program}{w:World}{A:Around}{E:Value->Shared->Prop}{h:Heap}{g:Array nM}{d:Drawn}{t:Nat}{os:OsState}{nm q:Str}{C N:Addr}{bs bm bmB:List Value}{hdct:Bool}{sn:List Str}{sub:List Value}{ab:Bool}{col:Option Bool}{dd:Option Addr}{k0 k1 k2 k3 k5:Option Value}{B newId initId:String}
noncomputable abbrev yA(h:Heap)(C:Addr)(rest:List Value):Heap:=(h.push {cls:=.type "tuple",data:=.seq rest.toArray}).push {cls:=.ref C,data:=.fields #[.ref h.objs.size,.none,.none,.none,.bool false,.none]}
theorem jg{rest:List Value}{b:Addr}{o:Obj}(e:h.get? b=some o):(yA h C rest).get? b=some o:=af _ (af _ e)
theorem wQ{rest:List Value}:(yA h C rest).get? (h.objs.size+1)=some {cls:=.ref C,data:=.fields #[.ref h.objs.size,.none,.none,.none,.bool false,.none]}:=Heap.get?_push_at (by rw[bS]) rfl
theorem rn(F:ExcBaseFacts B newId initId bmB)(T:OwnTail h bmB bm){mN:Str->Option Value}{rest:List Value}{fI:Addr}{oI:Obj}{Q:dI->Shared->Prop}(hC:h.get? C=some (iC nm q C N bs bm hdct sn sub ab col dd k0 k1 k2 k3 k5 newId))
  (hn:h.Ns N mN)(hi:mN "__init__"=some (.ref fI))(hf:h.get? fI=some oI)(hfc:oI.cls=.type "function")(hrest:rest.length<=sizeLine)
  (hq:wpAny (model prog w) A (call (.ref fI) (.ref (h.objs.size+1)::rest)) (fun r s'=>r=.none/\Q (.done (.ret (.ref (h.objs.size+1)))) s') E ⟨yA h C rest,g,d,t,os⟩):
  wpAny (model prog w) A (Builtin.«type.__call__» ⟨.ref C::rest,[]⟩) Q E ⟨h,g,d,t,os⟩:=by
 repeat(first
  |with_reducible refine iW hC ?_
  |with_reducible refine wpAny_madeBy_exc hC ?_
  |wp_step)
 refine codeAny_call_builtin_code (qA _ F.quiet) (wpAny_check_new_subT F T hC ?_);refine codeAny_exc_new_subT F T hC ?_ hrest;show wpAny _ _ _ _ _ (⟨yA h C rest,g,d,t,os⟩:Shared);have c1:=jg (C:=C) (rest:=rest) hC;have n1:(yA h C rest).Ns N mN:=hn.keeps fun b o e=>jg e;have T1:=T.keeps (h':=yA h C rest) fun b o e=>jg e;have cc:(bp C::bm).contains (.ref C)=true:=by simp
 have ea:=wQ (h:=h) (C:=C) (rest:=rest);unfold uy;repeat(first
  |with_reducible refine iW ea ?_
  | (with_reducible refine wpAny_isSubtype_exc c1 ?_;rw[cc])
  |wp_step)
 show wpAny _ _ (typeLookup (.ref C) _) _ _ _;refine wpAny_typeLookup_tail c1 n1 T1 F.mroIs F.init.lookup ?_;rw[hi];refine bh (aa ?_);unfold bindSpecial;refine aa (xE (T:="function") ⟨_,jg hf,hfc⟩ ?_);rw[if_pos (by decide)];refine ai (aa (cL hq (fun r s' z=>?_) fun _ _ z=>z));obtain⟨rfl,z⟩:=z
 wp_walk
 exact z
theorem DX(F:ExcBaseFacts B newId initId bmB)(T:OwnTail h bmB bm){mN:Str->Option Value}{rest:List Value}{fI:Addr}{oI:Obj}{Q:Value->Shared->Prop}(hC:h.get? C=some (iC nm q C N bs bm hdct sn sub ab col dd k0 k1 k2 k3 k5 newId))
  (hn:h.Ns N mN)(hi:mN "__init__"=some (.ref fI))(hf:h.get? fI=some oI)(hfc:oI.cls=.type "function")(hrest:rest.length<=sizeLine)
  (hq:wpAny (model prog w) (A.under (.builtin "type.__call__" ⟨.ref C::rest,[]⟩)) (call (.ref fI) (.ref (h.objs.size+1)::rest)) (fun r s'=>r=.none/\Q (.ref (h.objs.size+1)) s') E ⟨yA h C rest,g,d,t,os⟩):
  wpAny (model prog w) A (call (.ref C) rest) Q E ⟨h,g,d,t,os⟩:=by
 have f1:=tc_lookup;have f2:=tc_bind (.ref C);have hT:(⟨h,g,d,t,os⟩:Shared).TypeIs (.ref C) "type":=⟨_,hC,rfl⟩;refine gG (Bj ?_);show wpAny _ _ (callAny (.ref C) _) _ _ _;repeat(any_goals (first
  |assumption
  |with_reducible refine iW hC ?_
  |wp_step))
 refine⟨rfl,?_⟩;exact codeAny_call_builtin_at (qA _ (by decide+kernel)) entry_typeCall (wpAny_check_type_call_sub hC (rn F T hC hn hi hf hfc hrest hq))
theorem D5(F:ExcBaseFacts B newId initId bmB)(T:OwnTail h bmB bm){rest:List Value}{e x0:Addr}{Q:Value->Shared->Prop}(hC:h.get? C=some (iC nm q C N bs bm hdct sn sub ab col dd k0 k1 k2 k3 k5 newId))
  (he:h.get? e=some {cls:=.ref C,data:=.fields #[.ref x0,.none,.none,.none,.bool false,.none]}) (hrest:rest.length<=sizeLine)
  (hq:∀h':Heap,(∀b o,b≠e->h.get? b=some o->h'.get? b=some o)->(∃b,h'.get? e=some {cls:=.ref C,data:=.fields #[.ref b,.none,.none,.none,.bool false,.none]})->h.objs.size<=h'.objs.size->Q .none ⟨h',g,d,t,os⟩):
  wpAny (model prog w) A (call (.builtin initId) (.ref e::rest)) Q E ⟨h,g,d,t,os⟩:=by
 refine gG (gJ F.init.plain F.initEntry (wpAny_check_init_subT F T hC he rfl ?_))
 wp_walk
 have hlt:=av he;refine hq _ (fun b o hb e1=>?_) ⟨h.objs.size,?_⟩ ?_
 ·rw[aB _ _ (bz hb)]
  exact af _ e1
 ·rw[bu _ (af _ he) rfl]
  rfl
 ·rw[lD,bS]
  exact cZ _
end
set_option maxHeartbeats 1000000
noncomputable def exO(e C:Addr)(d:Option Addr):HO:=.ext fun h=>∃x0,h.get? e=some {cls:=.ref C,dict:=d,data:=.fields #[.ref x0,.none,.none,.none,.bool false,.none]}
noncomputable def xdO(d:Addr)(fs:List (Str×V)):HO:=.ext fun h=>∃mA,h.Ns1 d mA/\(∀f,pR (fs.lookup f) (mA f))/\jy mA (fs.map (·.1))
noncomputable def nv(K:ae)(C f:Addr)(bmB:List Value)(newId:String):Bool:=match K.lookup C with
 |some ⟨.type "type",_,.cls cd,sl⟩=>(match cd.mro,sl.toList with
  |.ref C'::bm,[_,_,_,_,some (.builtin n),_]=>C'==C&&n==newId&& !cd.hasDel&&tailIn K bmB bm&&nsOkIn K cd.ns&&nsIn K cd.ns "__init__"==some (some (.ref f))
  |_,_=>false)
 |_=>false
theorem ns_some{K:ae}{h:Heap}{N:Addr}{mg:Str->Option Value}{n:Str}{v:Value}(X:K.In h)(G:h.Ns N mg)(e:nsIn K N n=some (some v)):mg n=some v:=by
 obtain⟨o,es,ep,ho,hd,_,hf⟩:=G;unfold nsIn at e;split at e
 ·rename_i q
  have z:=X _ _ q;rw[ho]at z;cases z;cases hd;split at e
  ·rename_i en he
   rw[<-hf];unfold nsFind findBy;rw[<-pY,he];simpa using e
  ·split at e<;>cases e
 ·cases e
theorem sM{K:ae}{h:Heap}{C f:Addr}{bmB:List Value}{newId:String}(kin:K.In h)(q:nv K C f bmB newId=true):
  ∃nm qn N bs bm hd sn sub ab col dd k0 k1 k2 k3 k5 mN,h.get? C=some (iC nm qn C N bs bm hd sn sub ab col dd k0 k1 k2 k3 k5 newId)/\h.Ns N mN/\mN "__init__"=some (.ref f)/\OwnTail h bmB bm:=by
 unfold nv at q;split at q
 case h_2=>cases q
 rename_i od cd sl ho;split at q
 case h_2=>cases q
 rename_i C' bm j0 j1 j2 j3 n j5 hm hs;rw[ah,ah,ah,ah,ah,beq_iff_eq,beq_iff_eq,beq_iff_eq]at q;obtain⟨⟨⟨⟨⟨e1,e2⟩,e3⟩,e4⟩,e5⟩,e6⟩:=q;subst e1;subst e2;obtain⟨c1,c2,c3,c4,c5,c6,c7,c8,c9,c10,c11⟩:=cd;have e7:c3=.ref C'::bm:=hm;have e8:c11=false:=by simpa using e3
 have e9:sl= #[j0,j1,j2,j3,some (.builtin n),j5]:=by
  apply xT
  exact hs
 subst e7;subst e8;subst e9;exact⟨_,_,_,_,_,_,_,_,_,_,_,_,_,_,_,_,_,kin _ _ ho,.of_isNs (isNs_of_in kin e5),ns_some kin (.of_isNs (isNs_of_in kin e5)) e6,tail_of_in kin e4⟩
structure MkX(K:ae)(C f:Addr):Prop where
 ex:nv K C f bmV "ValueError.__new__"=true
 fn:∃o,K.lookup f=some o/\o.cls=.type "function"
 kp:keepIn K (.ref C)=true
section
variable {X:Cx}{CX:CXT}{C f:Addr}{k:Nat}{fd:fh}{ps:List Str}{sp:Sp}{ds:List Value}{dvs:List V}{E:XK}
theorem C7{pins:List (Addr×Obj)}{σ:St}{H:Hp}{s:Shared}{Q:VK}{us:List Value}{vs:List V}(M:MkX X.K C f)(F:ju X.prog X.w X.K X.mg X.base CX k f fd ps sp)(hr:iU (k+1) X.A)(hb:Binds X.K fd ps ds)(hd:bM dvs ds)
  (hx:∀(H':Hp)(s1:Shared)(e:Value)(s':Shared),Inv X pins σ H' s1->CX X.stack H' s1 E e s'->X.xe e s')(I:Inv X pins σ H s)(r:bM vs us)(hl0:vs.length<=sizeLine)
  (h:∀x,s.heap.objs.size<=x->H x=none->sp (.ref x::(vs++dvs)) (upd H x (exO x C none)) (fun v H2=>v=.non/\Q (.ref x) H2) E):
  wpAny (model X.prog X.w) X.A (call (.ref C) us) (EP X pins σ Q) X.xe s:=by
 have hq:=h (s.heap.objs.size+1) (cZ _) (I.hok.fresh (cZ _));obtain⟨nm,qn,N,bs,bm,hd',sn,sub,ab,col,dd,k0,k1,k2,k3,k5,mN,hC,hN,hi,T⟩:=sM (bmB:=bmV) I.kIn M.ex;obtain⟨oI,hf,hfc⟩:=M.fn;have I2:Inv X pins σ (upd H (s.heap.objs.size+1) (exO (s.heap.objs.size+1) C none)) {s with heap:=yA s.heap C us}:=by
  refine I.laid (t':=s.toks) (fun b o e=>jg e) (cZ _) ?_;exact⟨⟨_,wQ⟩,⟨_,wQ⟩,fun h1 h2 ⟨x0,z⟩ k=>⟨x0,k _ z⟩⟩
 have r2:bM (V.ref (s.heap.objs.size+1)::(vs++dvs)) (bp (s.heap.objs.size+1)::(us++ds)):=.cons rfl (r.append hd);have hl:(bp (s.heap.objs.size+1)::us++ds).length=ps.length:=by
  have e:=r2.length;rw[F.len _ _ _ _ hq]at e;exact e.symm
 obtain⟨hh,gg,dr,tk,os⟩:=s;refine DX (fI:=f) jA T hC hN hi (I.kIn _ _ hf) hfc (by rw[<-r.length];exact hl0) ?_;refine gG (i3 (F.run _ X.stack _ _ ⟨bp (hh.objs.size+1)::us,[]⟩ (bp (hh.objs.size+1)::(us++ds)) _ _ E (hr.make C us []) (I2.env0.make C us []) (hb _ (bp (hh.objs.size+1)::us) I2.kIn hl) r2 hq) fun r s' hq'=>?_);cases r with
 |error e=>exact hx _ _ e s' I2 hq'
 |ok fl=>
  cases fl with
  |ret u=>
   obtain⟨v,H',I3,rv,ev,q3⟩:=I2.after hq';subst ev;exact⟨rv,⟨V.ref (hh.objs.size+1),H',I3,rfl,q3⟩⟩
  |next =>exact gb hq'
  |brk=>exact gb hq'
  |cont=>exact gb hq'
end
end L2
namespace L2
open PySem PySem.Spec PySem.W PyProof.Rows PySem.Builtin PySem.Builtin.ObjectAttr
noncomputable def yp:List Value->Bool
 |.ref _::r=>yp r
 |l=>l==bmV
theorem refuseV(self:Value):refuseLoop self "__setattr__" bmV=pure ():=by kernel_rfl
theorem Bw(self:Value):∀{l:List Value},yp l=true->refuseLoop self "__setattr__" l=pure ()
 |.ref c::r,e=>by
  rw[refuseLoop_ref];exact Bw self e
 | [],e=>by cases e
 |.type n::r,e=>by rw[show(.type n::r:List Value)=bmV from beq_iff_eq.mp e];exact refuseV self
 |.none::r,e=>by cases e
 |.ellipsis::r,e=>by cases e
 |.notImplemented::r,e=>by cases e
 |.bool _::r,e=>by cases e
 |.int _ _::r,e=>by cases e
 |.float _ _::r,e=>by cases e
 |.str _ _::r,e=>by cases e
 |.bytes _ _::r,e=>by cases e
 |.builtin _::r,e=>by cases e
theorem uO:∀{l:List Value},yp l=true->l.contains (.type "object")=true
 |.ref c::r,e=>by rw[List.contains_cons,uO (l:=r) e,Bool.or_true]
 | [],e=>by cases e
 |.type n::r,e=>by rw[show(.type n::r:List Value)=bmV from beq_iff_eq.mp e];decide
 |.none::r,e=>by cases e
 |.ellipsis::r,e=>by cases e
 |.notImplemented::r,e=>by cases e
 |.bool _::r,e=>by cases e
 |.int _ _::r,e=>by cases e
 |.float _ _::r,e=>by cases e
 |.str _ _::r,e=>by cases e
 |.bytes _ _::r,e=>by cases e
 |.builtin _::r,e=>by cases e
section
variable {prog:Program}{w:World}{K:ae}{A:Around}{R:Result->Shared->Prop}{s:Shared}{x C:Addr}
theorem yq{ox:Obj}{od:Option Obj}{name:Str}{tk:Tok}{v:Value}(X:K.In s.heap)(I:InstAt s.heap x ox C od)(hp:(clsIn K C).any (fun cd=>yp cd.mro)=true)(ht:takerIn K C name=some none)
  (h:∀b,wpAny (model prog w) A.in1 (storeInOwnDict (.ref x) (.ref C) (.str name tk) name v b)
   (fun fin s'=>match fin with |.done f=>R (.ok f) s'|.again c'=>c'.quiet=true/\fC (model prog w) A c' R s') (fun e s'=>R (.error e) s') s):
  fC (model prog w) A (.call (.builtin "object.__setattr__") ⟨[.ref x,.str name tk,v],[]⟩) R s:=by
 have SF:=PySem.F.store_object;obtain⟨cd,hc,ho⟩:=any_some hp;have ne:cd.mro.isEmpty=false:=by cases q:cd.mro with |nil=>rw[q]at ho;cases ho|cons _ _=>rfl
 have sub:Looks (model prog w) s.heap (uy (.ref x) (.type "object")) true:=I.type.andThen (looks_mroIn X (by unfold mroIn;rw[hc,eX,if_neg (by rw[ne];decide),uO ho]));refine gJ SF.slot.plain SF.entry (@check_slot (model prog w) _ _ s "object.__setattr__" "object" "__setattr__" (.ref x) [.str name tk,v] [] _ SF.kind SF.split sub (SF.args (.ref x) (.str name tk) v) ?_);obtain⟨attr,ha,hr⟩:=Option.bind_eq_some_iff.mp ht;have hm:Looks (model prog w) s.heap (mroOf (.ref C)) cd.mro:=(looks_clsIn X hc).andThen .now;have L3:Looks (model prog w) s.heap (storeTaker? attr) none:=by
  cases attr with
  |none=>exact .now
  |some a=>
   obtain⟨b,hb,q⟩:=lC.mp hr;refine(looks_takesIn X hb).andThen ?_;cases b
   ·exact .now
   ·cases q
 rw[osa_eq,refuse_eq];refine aa (aa (I.type.here (aa (hm.here ?_))));rw[Bw _ ho];refine ai (aa (I.type.here (aa ((o5 X ha).here (aa (L3.here ?_))))));exact h _
end
section
variable {prog:Program}{w:World}{K:ae}{A:Around}{E:Value->Shared->Prop}{s:Shared}{e C:Addr}{name:Str}{v:Value}{vs:Array Value}{Q:Unit->Shared->Prop}
structure StX(K:ae)(C:Addr)(name:Str):Prop where
 hs:findIn K (.ref C) "__setattr__"=some (some (.builtin "object.__setattr__"))
 hp:(clsIn K C).any (fun cd=>yp cd.mro)=true
 ht:takerIn K C name=some none
 hd:(clsIn K C).any (·.hasDict)=true
noncomputable abbrev k9(C:Addr)(d:Option Addr)(vs:Array Value):Obj:={cls:=.ref C,dict:=d,data:=.fields vs}
theorem Hf{h:Heap}(he:h.get? e=some (k9 C none vs)):InstAt h e (k9 C none vs) C none:=⟨he,rfl,rfl,trivial⟩
theorem He{h:Heap}{d:Addr}{o:Obj}(he:h.get? e=some (k9 C (some d) vs))(hd:h.get? d=some o):InstAt h e (k9 C (some d) vs) C (some o):=⟨he,rfl,rfl,hd⟩
theorem Ae(X:K.In s.heap)(S:StX K C name)(he:s.heap.get? e=some (k9 C none vs))
  (h:∀h',h'.get? e=some (k9 C (some s.heap.objs.size) vs)->h'.Ns1 s.heap.objs.size (fun y=>if y=name then some v else none)->(∀b o,b≠e->s.heap.get? b=some o->h'.get? b=some o)->Q () {s with heap:=h',toks:=s.toks+2}):
  wpAny (model prog w) A (setAttr (.ref e) name v) Q E s:=by
 have I:=Hf he;refine set_plain X I S.hs (yq (s:={s with toks:=s.toks+1}) X I S.hp S.ht fun b=>?_);obtain⟨cd,hc,hd'⟩:=any_some S.hd;refine aa (ai (aa (aa (Eb he (aa (xO (s:={s with toks:=s.toks+1}) (Cr X hc) ?_))))));rw[hd'];show wpAny _ _ (alloc {cls:=.type "dict",data:=.dict #[]}>>=_) _ _ _;have he1:(s.heap.push {cls:=.type "dict",data:=.dict #[]}).get? e=some (k9 C none vs):=af _ he;have hlt:=av he;refine aa (wpAny_alloc (aa (wpAny_update he1 ?_)));show wpAny _ _ (pure (some s.heap.objs.size)) _ _ _;refine ai ?_;show wpAny _ _ (pure ()>>=_) _ _ _;refine aa (ai (aa ?_));have hne:s.heap.objs.size≠e:=cV hlt;have hd0:((s.heap.push {cls:=.type "dict",data:=.dict #[]}).update e fun o=>{o with dict:=some s.heap.objs.size}).get? s.heap.objs.size=some {cls:=.type "dict",data:=.dict #[]}:=by
  rw[aB _ _ (bz hne)];exact au _ rfl
 have hn0:((s.heap.push {cls:=.type "dict",data:=.dict #[]}).update e fun o=>{o with dict:=some s.heap.objs.size}).Ns1 s.heap.objs.size (fun _=>none):=
  ⟨_,#[],_,hd0,rfl,fun x hx=>by simp at hx,i7,fun y=>rfl⟩
 have hw:jy (fun _=>none:Str->Option Value) []:=jy.nil;refine wpAny_nsSet1 hn0 fun h' hn2 hs2=>?_;obtain⟨oD,esD,epD,hoD,hdD,hcD⟩:=hn2.count (zC name v hw);refine aa (wpAny_lookBehind hoD (by rw[hdD];exact pastItsLine_dict (aX hcD (by show 1<=sizeLine+1;decide))) ?_);refine ai (h _ ?_ hn2 fun b o hb q=>?_)
 ·rw[hs2.2 _ (bz hne),bu _ he1 rfl]
 ·have hbs:b≠s.heap.objs.size:=aD (av q)
  rw[hs2.2 _ hbs,aB _ _ (bz hb)];exact af _ q
theorem C1{d:Addr}{mA:Str->Option Value}{ns:List Str}(X:K.In s.heap)(S:StX K C name)(he:s.heap.get? e=some (k9 C (some d) vs))(hn:s.heap.Ns1 d mA)(hw:jy mA ns)(hsz:ns.length<sizeLine)
  (h:∀h',h'.Ns1 d (fun y=>if y=name then some v else mA y)->dg d s.heap h'->Q () {s with heap:=h',toks:=s.toks+2}):
  wpAny (model prog w) A (setAttr (.ref e) name v) Q E s:=by
 obtain⟨o,es,ep,ho,hn'⟩:=id hn;have I:=He he ho;refine set_plain X I S.hs (yq (s:={s with toks:=s.toks+1}) X I S.hp S.ht fun b=>?_);obtain⟨cd,hc,hd'⟩:=any_some S.hd;refine aa (ai (aa (aa (Eb he (aa (xO (s:={s with toks:=s.toks+1}) (Cr X hc) ?_))))));rw[hd'];show wpAny _ _ (pure (some d)) _ _ _;refine ai ?_;show wpAny _ _ (pure ()>>=_) _ _ _;refine aa (ai (aa ?_));refine wpAny_nsSet1 (s:={s with toks:=s.toks+1}) hn fun h' hn2 hs2=>?_;obtain⟨oD,esD,epD,hoD,hdD,hcD⟩:=hn2.count (zC name v hw);refine aa (wpAny_lookBehind hoD (by rw[hdD];exact pastItsLine_dict (aX hcD (by rw[bJ];omega))) ?_);exact ai (h _ hn2 hs2)
end
end L2
namespace L2
open PySem PySem.Spec PySem.W PyProof.Rows
section
variable {X:Cx}{pins:List (Addr×Obj)}{σ:St}{H:Hp}{s:Shared}{A:Around}{E:Value->Shared->Prop}{a C:Addr}{f:Str}
theorem xd_ok{P:Program}{w:World}{h:Heap}{d:Addr}{fs:List (Str×V)}(H:Hp){mA:Str->Option Value}(n:h.Ns1 d mA)(r:∀f,pR (fs.lookup f) (mA f))(wi:jy mA (fs.map (·.1))):dh P w H h d (xdO d fs):=
 ⟨⟨mA,n,r,wi⟩,let⟨o,_,_,e,_⟩:=n;⟨o,e⟩,fun h1 h2 ⟨m,n,r⟩ k=>⟨m,n.at k,r⟩⟩
theorem ex_ok{P:Program}{w:World}{h:Heap}{e:Addr}{d:Option Addr}{x0:Addr}(H:Hp)(q:h.get? e=some (k9 C d #[.ref x0,.none,.none,.none,.bool false,.none])):dh P w H h e (exO e C d):=
 ⟨⟨x0,q⟩,⟨_,q⟩,fun h1 h2 ⟨x,z⟩ k=>⟨x,k _ z⟩⟩
theorem E9{y:V}{u:Value}{Q:Unit->Shared->Prop}(I:Inv X pins σ H s)(e:H a=some (exO a C none))(S:StX X.K C f)(ry:RelV y u)
  (h:∀s' dd,H dd=none->Inv X pins σ (upd (upd H dd (xdO dd [(f,y)])) a (exO a C (some dd))) s'->Q () s'):wpAny (model X.prog X.w) A (setAttr (.ref a) f u) Q E s:=by
 obtain⟨⟨x0,he⟩,_⟩:=I.hok a _ e;refine Ae I.kIn S he fun h' h1 h2 kp=>h _ s.heap.objs.size (I.hok.fresh (aw _)) ?_;obtain⟨od,es,ep,ed,r⟩:=id h2;have hfr:H s.heap.objs.size=none:=I.hok.fresh (aw _);have hne:s.heap.objs.size≠a:=cV (av he);have ep1:(s.heap.push od).get? s.heap.objs.size=some od:=au _ (Obj.isFreed_of_dict r.1);have n1:(s.heap.push od).Ns1 s.heap.objs.size (fun y=>if y=f then some u else none):=⟨od,es,ep,ep1,r⟩;have I1:Inv X pins σ (upd H s.heap.objs.size (xdO s.heap.objs.size [(f,y)])) {s with heap:=s.heap.push od,toks:=s.toks}:=by
  refine I.laid (t':=s.toks) (fun b o q=>af _ q) (aw _) (xd_ok _ n1 (fun g=>?_) fun g hg=>?_)
  ·by_cases q:g=f
   ·subst q
    simp[cP];exact ry
   ·have :(g==f)=false:=by simpa using q
    simp[cP,this,q];exact True.intro
  ·by_cases q:g=f
   ·simp[q]
   ·exact absurd (if_neg q) hg
 have e1:upd H s.heap.objs.size (xdO s.heap.objs.size [(f,y)]) a=some (exO a C none):=by rw[aL (bz hne)];exact e
 refine I1.write (x:=a) (e:=a) (t':=s.toks+2) (by rw[e1];exact True.intro) (.inl rfl) (fun b o hb q=>?_) ⟨_,h1⟩ (ex_ok _ h1);by_cases hbs:b=s.heap.objs.size
 ·subst hbs
  have q:(s.heap.push od).get? s.heap.objs.size=some o:=q;rw[ep1]at q;cases q;exact ed
 ·refine kp b o hb ?_
  have q:(s.heap.push od).get? b=some o:=q;rw[Heap.get?_push_ne _ _ _ hbs]at q;exact q
theorem E8{y:V}{u:Value}{dd:Addr}{fs:List (Str×V)}{Q:Unit->Shared->Prop}(I:Inv X pins σ H s)(e:H a=some (exO a C (some dd)))(ed:H dd=some (xdO dd fs))(hl:fs.length<1000)(S:StX X.K C f)(ry:RelV y u)
  (h:∀s',Inv X pins σ (upd H dd (xdO dd (kL f y fs))) s'->Q () s'):wpAny (model X.prog X.w) A (setAttr (.ref a) f u) Q E s:=by
 obtain⟨⟨x0,he⟩,_⟩:=I.hok a _ e;obtain⟨⟨mA,hn,r,wi⟩,_⟩:=I.hok dd _ ed;refine C1 I.kIn S he hn wi (by rw[ao,j4];omega) fun h' n2 sb=>h _ ?_;have hd:∃o,h'.get? dd=some o:=let⟨o,_,_,e',_⟩:=n2;⟨o,e'⟩;refine I.write (x:=dd) (e:=dd) (t':=s.toks+2) (by rw[ed];exact True.intro) (.inl rfl) (fun b o hb q=>(sb.2 b hb).trans q) hd (xd_ok _ n2 (fun g=>?_) fun g hg=>?_)
 ·show pR ((kL f y fs).lookup g) (if g=f then some u else mA g)
  rw[qd];by_cases q:g=f
  ·rw[if_pos q,if_pos q];exact ry
  ·rw[if_neg q,if_neg q];exact r g
 ·by_cases q:g=f
  ·rw[q];exact(pF f y fs).1
  ·refine(pF f y fs).2 g (wi g fun z=>hg ?_)
   show(if g=f then some u else mA g)=none;rw[if_neg q];exact z
end
noncomputable def sFldX(K:ae)(ta tv:TE)(f:Str):TS:=fun D σ H=>tv σ H fun y H1=>ta σ H1 fun x H2=>∃a C,x=.ref a/\StX K C f/\
 ((H2 a=some (exO a C none)/\∀dd,H2 dd=none->D.nx σ (upd (upd H2 dd (xdO dd [(f,y)])) a (exO a C (some dd))))\/
  ∃dd fs,H2 a=some (exO a C (some dd))/\H2 dd=some (xdO dd fs)/\fs.length<1000/\D.nx σ (upd H2 dd (xdO dd (kL f y fs))))
section
variable {X:Cx}{o value:Expr}{f:Str}{pos pos':Pos}{ta tv:TE}
theorem ps_fldX(ha:PE X o ta)(hv:PE X value tv)(hs:nH value (some (.Attribute o f pos')) pos.line X.env=pure false):PS X (.Assign [.Attribute o f pos'] value pos) (sFldX X.K ta tv f):=by
 intro pins s σ H D I h;refine plainObj_wpAny_Assign_Attribute (thn (hv pins s σ H _ I h) fun u s1 ⟨y,H1,I1,ry,q⟩=>thn (ha pins s1 σ H1 _ I1 q) fun ov s2 ⟨x,H2,I2,rx,a,C,ex,S,q2⟩=>?_) hs;subst ex;obtain rfl:ov=bp a:=rx;rcases q2 with⟨e,k⟩ |⟨dd,fs,e,ed,hl,k⟩
 ·exact E9 I2 e S ry fun s3 dd hdd I3=>⟨σ,_,I3,k dd hdd⟩
 ·exact E8 I2 e ed hl S ry fun s3 I3=>⟨σ,_,I3,k⟩
end
structure BsX(K:ae)(B:Addr):Prop where
 ga:specialIn K (.ref B) "__getattribute__"=some (some (.builtin "type.__getattribute__"))
 rd:readsIn K B (.type "type")=true
 fd:findCls K (.ref B) (.type "type") "__init__"=some (.val (.builtin "ValueError.__init__"))
noncomputable def tBase(K:ae)(B:Addr)(t:TA):TE:=fun σ H Q=>BsX K B/\t σ H fun vs H1=>∃a C f us,vs=.ref a::us/\H1 a=some (exO a C none)/\us.length<=sizeLine/\nv K C f bmV "ValueError.__new__"=true/\Q .non H1
section
variable {X:Cx}{x:Str}{B:Addr}{e:Expr}{es:List Expr}{t:TA}{np apos pos:Pos}
theorem Fp{pins:List (Addr×Obj)}{σ:St}{H:Hp}{s:Shared}{Q:VK}{a C f:Addr}{us:List Value}(I:Inv X pins σ H s)(e:H a=some (exO a C none))(hl:us.length<=sizeLine)(hx:nv X.K C f bmV "ValueError.__new__"=true)(q:Q .non H):
  wpAny (model X.prog X.w) X.A (call (.builtin "ValueError.__init__") (.ref a::us)) (EP X pins σ Q) X.xe s:=by
 obtain⟨⟨x0,he⟩,_⟩:=I.hok a _ e;obtain⟨nm,qn,N,bs,bm,hd',sn,sub,ab,col,dd,k0,k1,k2,k3,k5,mN,hC,hN,hi,T⟩:=sM (bmB:=bmV) I.kIn hx;obtain⟨hh,gg,dr,tk,os⟩:=s;refine D5 jA T hC he hl fun h' kp ⟨b,h1⟩ hsz=>?_;have hu:upd H a (exO a C none)=H:=by
  funext c
  by_cases z:c=a
  ·rw[z,ax,e]
  ·rw[aL z]
 have I2:Inv X pins σ (upd H a (exO a C none)) ⟨h',gg,dr,tk,os⟩:=I.write (x:=a) (e:=a) (t':=tk) (by rw[e];exact True.intro) (.inl rfl) (fun b o hb q=>kp b o hb q) ⟨_,h1⟩ (ex_ok _ h1);rw[hu]at I2;exact⟨.non,H,I2,rfl,q⟩
theorem Gk{prog:Program}{w:World}{A:Around}{E:Value->Shared->Prop}{env:Env}{o:Expr}{name:Str}{args:List Expr}{s:Shared}{Q:Value->Shared->Prop}
  (hbase:HS o name env (eval o env)=eval o env)
  (hfew:((backTo pos (aK args env)).all (fun x=> !x.1)&&(xI pos (mz [] env)).all (fun x=>x.1.isSome)
   &&decide (args.length+([]:List Keyword).length+(if([]:List Keyword).isEmpty then 0 else 1)<30))=true)
  (hline:(apos.endLine==pos.line)=true)
  (h:wpAny (model prog w) A (eval o env) (fun ov s₁=>∀pl,wpAny (model prog w) A (getMethod ov name pl) (fun fx s₂=>wpAny (model prog w) A (callWith pos fx.1 fx.2 (backTo pos (aK args env)) (xI pos (mz [] env))) Q E s₂) E s₁) E s):
  wpAny (model prog w) A (eval (.Call (.Attribute o name apos) args [] pos) env) Q E s:=by
 rw[arm_eval_Call,hbase];refine aa (cL h (fun ov s₁ h₁=>?_) fun _ _ e=>e);refine aa (gd ?_);have hform:methodCallForm (args.length+([]:List Keyword).length) (backTo pos (aK args env)) (xI pos (mz [] env))=true:=hfew;have hpos:methodCallPos true o env apos pos=pure pos:=by unfold methodCallPos;simp[hline]
 unfold methodCall;rw[hform];refine aa (bh (cL (h₁ _) (fun fx s₂ h₂=>?_) fun _ _ e=>e));exact aa (my hpos h₂)
theorem pe_base(hg:Gl X x)(hm:X.mg x=some (.ref B))(ha:PA X (e::es) t)(hdb:(x==("__debug__":Str))=false)(hst:aK (e::es) X.env=(false,eval e X.env)::aK es X.env)(hpl:(backTo pos (aK es X.env)).any (·.1)=false)
  (hfew:((backTo pos (aK (e::es) X.env)).all (fun x=> !x.1)&&(xI pos (mz [] X.env)).all (fun x=>x.1.isSome)
   &&decide ((e::es).length+([]:List Keyword).length+(if([]:List Keyword).isEmpty then 0 else 1)<30))=true)
  (hline:(apos.endLine==pos.line)=true):
  PE X (.Call (.Attribute (.Name x np) "__init__" apos) (e::es) [] pos) (tBase X.K B t):=by
 intro pins s σ H Q I h;obtain⟨b,h⟩:=h;refine Gk rfl hfew hline (kN I hg hm (fun pl=>?_) hdb);refine PySem.W.method_cls I.kIn b.ga (PySem.W.cls_value I.kIn b.rd b.fd (by decide+kernel) ?_);refine gV (thn (ha pos pins _ σ H _ (I.tok (s.toks+1)) h) fun us s1 z=>?_) hst hpl;obtain⟨vs,H1,I1,r1,a,C,f,ws,e1,ea,hl,hx,q⟩:=z;subst e1;cases r1 with
 |cons r0 r1=>
  cases r0;exact Fp I1 ea (by rw[<-r1.length];exact hl) hx q
end
noncomputable def del(H:Hp)(a:Addr):Hp:=fun b=>if b=a then none else H b
theorem kq{H:Hp}{a:Addr}:del H a a=none:=if_pos rfl
theorem iJ{H:Hp}{a b:Addr}(h:b≠a):del H a b=H b:=if_neg h
section
variable {M:Model}{A:Around}{E:Value->Shared->Prop}{env:Env}{nm q:Str}{C N:Addr}{bs bm:List Value}{hdct:Bool}{sn:List Str}{sub:List Value}{ab:Bool}{col:Option Bool}{dd:Option Addr}{k0 k1 k2 k3 k5:Option Value}{newId:String}
theorem Ak{s:Shared}{x:Sem Value}{Q:Flow->Shared->Prop}(hbase:bm.contains (.type "BaseException")=true)(hh:A.handled=none)
  (h:wpAny M A x (fun v s₁=>∃e t dx,v=.ref e/\s₁.heap.get? C=some (iC nm q C N bs bm hdct sn sub ab col dd k0 k1 k2 k3 k5 newId)/\
   s₁.heap.get? e=some (k9 C dx #[.ref t,.none,.none,.none,.bool false,.none])/\E (.ref e) s₁) E s):
  wpAny M A (raiseStmt env (some x) none) Q E s:=by
 have hcB:(bp C::bm).contains (.type "BaseException")=true:=by rw[List.contains_cons,hbase,Bool.or_true]
 unfold raiseStmt;refine aa (cL h (fun v s₁ h₁=>?_) fun _ _ x=>x);obtain⟨e,t,dx,rfl,hC,he,hE⟩:=h₁;obtain⟨hp,g,d,tk,os⟩:=s₁;repeat(first |with_reducible refine iW he ?_ |with_reducible refine iW hC ?_ | (with_reducible refine wpAny_isSubtype_exc hC ?_;rw[hcB]) |wp_step)
 exact wpAny_raiseNew_none hh hE
end
section
variable {X:Cx}{pins:List (Addr×Obj)}{σ:St}{H:Hp}{s:Shared}
theorem Inv.del{a:Addr}{φ:Heap->Prop}(I:Inv X pins σ H s)(e:H a=some (.ext φ)):Inv X pins σ (L2.del H a) s:=by
 have ne:∀{b:Addr}{o:HO},H b=some o->(∀ψ,o≠.ext ψ)->b≠a:=fun{b o} q n z=>by rw[z,e]at q;exact n φ (aY q).symm
 refine⟨I.ok,I.os,I.bare,⟨I.base.keep,I.base.slot,fun b o q n hb=>?_,I.base.there,fun b xs q=>?_,fun b o u q=>?_,fun b ps q=>?_⟩,I.loc,I.cell,?_,fun x c' q=>?_,fun p q=>?_,fun b u q=>?_,I.len⟩
 ·by_cases z:b=a
  ·rw[z];exact kq
  ·rw[iJ z];exact I.base.free b o q n hb
 ·have r:=I.base.tups b xs q
  rw[iJ (ne r fun _ z=>by cases z)];exact r
 ·have r:=I.base.frzs b o u q
  rw[iJ (ne r fun _ z=>by cases z)];exact r
 ·obtain⟨more,r⟩:=I.base.tbls b ps q
  exact⟨more,by rw[iJ (ne r fun _ z=>by cases z)];exact r⟩
 ·by_cases z:X.env.locals=a
  ·rw[z];exact kq
  ·rw[iJ z];exact I.free
 ·by_cases z:c'=a
  ·rw[z];exact kq
  ·rw[iJ z];exact I.freeC x c' q
 ·obtain⟨q1,n,r⟩:=I.pin p q
  refine⟨q1,?_,r⟩;by_cases z:p.1=a
  ·rw[z];exact kq
  ·rw[iJ z];exact n
 ·by_cases hb:b=a
  ·rw[hb,kq]at q
   cases q
  ·rw[iJ hb]at q
   exact(I.hok b u q).pv (fun _ _ _ r=>r) (fun c' r=>by rw[iJ (ne r fun _ z=>by cases z)];exact r) fun c' xs r=>by rw[iJ (ne r fun _ z=>by cases z)];exact r
structure NewX(X:Cx)(pins:List (Addr×Obj))(H:Hp)(s:Shared)(a C:Addr)(d:Option Addr):Prop where
 at_:∃x0,s.heap.get? a=some (k9 C d #[.ref x0,.none,.none,.none,.bool false,.none])
 new:X.s₀.heap.get? a=none
 un:H a=none
 pins:∀p∈X.pn++pins,p.1≠a
theorem uS{M:Model}{E:Value->Shared->Prop}{Q:Unit->Shared->Prop}{a C:Addr}{d:Option Addr}(I:Inv X pins σ H s)(stk:X.stack=X.env::X.outer)(hf:X.env.frame=some X.env.locals)(n:NewX X pins H s a C d)
  (h:∀s2,Inv X pins σ H s2->Fly X.s₀.heap s2.heap H (X.pn++pins) a (.ref C) d->Q () s2):
  wpAny M X.A (lj (.ref a) X.env) (fun _ s'=>wpAny M X.A (zy (.ref a) none) Q E s') E s:=by
 obtain⟨x0,ht⟩:=n.at_;unfold lj;simp only[hf];refine aa (gF (x:=.none) ht rfl (by rfl) ?_);rw[if_neg (show ¬(bI != bI)=true by simp)];exact enter I stk hf ht rfl (by simp) n.new n.un n.pins h
noncomputable def Be(X:Cx)(E:XS):Prop:=∀(pins:List (Addr×Obj))(σ:St)(H:Hp)(s:Shared)(a C:Addr)(d:Option Addr),Inv X pins σ H s->NewX X pins H s a C d->E σ (.ref C) d H->X.xe (.ref a) s
theorem tB{P:Program}{w:World}{K:ae}{mg:Str->Option Value}{base:Heap}{N:List Str}{qual:Str}{scope:Scope}{f:Addr}{cd:Value}{A:Around}{outer:List Env}{s:Shared}{H:Hp}{E:XK}:
  Be (uo (CXx P w) P w K mg base N qual scope f cd A outer s H E) (fun _=>E):=by
 intro pins σ H1 s1 a C d I n q;show wpAny _ _ (leaving _ _) _ _ _;unfold leaving;refine aa (uS I rfl rfl n fun s2 I2 F2=>?_);obtain⟨⟨T,oe,vs,oT,ts,h1,h2,h3,h4,h5,h6,h7,h8,h9,h10,h11,_⟩,b1,b2,_⟩:=F2;exact⟨a,.ref C,d,H1,rfl,I2.os,I2.bare,I2.base,I2.hok,⟨⟨T,oe,vs,oT,ts,h1,h2,h3,h4,h5,h6,h7,h8,h9,h10,h11,fun _ z=>nomatch z⟩,b1,b2,fun _ z=>nomatch z⟩,q⟩
theorem CT{x n:Str}{C:Addr}{i:Nat}{b₀:Stmt}{suite:List Stmt}{np hpos:Pos}{ts:TS}{D:Ends}(O:zx X x n C i (b₀::suite) ts){pins':List (Addr×Obj)}{a Cx':Addr}{d:Option Addr}(ok:X.Ok)
  (I:Inv (X.re X.A X.calm (X.pn++pins) (i8 X pins D [.ExceptHandler (some (.Name x np)) (some n) (b₀::suite) hpos])) pins' σ H s)(m:NewX (X.re X.A X.calm (X.pn++pins) (i8 X pins D [.ExceptHandler (some (.Name x np)) (some n) (b₀::suite) hpos])) pins' H s a Cx' d)(h:kP X.K C i ts D σ (.ref Cx') d H):
  i8 X pins D [.ExceptHandler (some (.Name x np)) (some n) (b₀::suite) hpos] (.ref a) s:=by
 have J:Inv X pins σ H s:=I.EG ok fun p z=>dP _ z;exact uS J O.stk O.fr ⟨m.at_,m.new,m.un,fun p hp=>m.pins p (dP _ hp)⟩ fun s2 I2 F2=>pN O I2 F2 h
noncomputable def Fg(C:Addr)(sp:Sp)(dvs:List V)(E:XS)(t:TA):TS:=fun _ σ H=>t σ H fun vs H1=>vs.length<=sizeLine/\∀a,H1 a=none->
 sp (.ref a::(vs++dvs)) (upd H1 a (exO a C none)) (fun v H2=>v=.non/\∃d,H2 a=some (exO a C d)/\E σ (.ref C) d (del H2 a)) (E σ)
theorem C9{CX:CXT}{C f:Addr}{k:Nat}{fd:fh}{ps:List Str}{sp:Sp}{ds:List Value}{dvs:List V}{E:XS}{x:Str}{e:Expr}{es:List Expr}{t:TA}{np cpos pos:Pos}(Mk:MkX X.K C f)(F:ju X.prog X.w X.K X.mg X.base CX k f fd ps sp)(hr:iU (k+1) X.A)(hb:Binds X.K fd ps ds)(hd:bM dvs ds)
  (hx:vH CX X E)(hg:Gl X x)(hm:X.mg x=some (.ref C))(ha:PA X (e::es) t)(hc:X.calm=true)(hdb:(x==("__debug__":Str))=false)
  (hst:aK (e::es) X.env=(false,eval e X.env)::aK es X.env)(hpl:(backTo cpos (aK es X.env)).any (·.1)=false)(made:Be X E):
  PS X (.Raise (some (.Call (.Name x np) (e::es) [] cpos)) none pos) (Fg C sp dvs E t):=by
 intro pins s σ H D I h;obtain⟨nm,qn,N,bs,bm,hd',sn,sub,ab,col,dd,k0,k1,k2,k3,k5,mN,hC,hN,hi,T⟩:=sM (bmB:=bmV) I.mod.kin Mk.ex;have hbase:bm.contains (.type "BaseException")=true:=T.hasType (by decide+kernel);rw[arm_exec_Raise];show wpAny _ _ (do xF pos;raiseStmt X.env (some (do let v<-eval (.Call (.Name x np) (e::es) [] cpos) X.env;xF pos;pure v)) none) _ _ s;refine aa (gd (Ak (C:=C) (nm:=nm) (q:=qn) (N:=N) (bs:=bs) (bm:=bm) (hdct:=hd') (sn:=sn) (sub:=sub) (ab:=ab) (col:=col) (dd:=dd) (k0:=k0) (k1:=k1) (k2:=k2) (k3:=k3) (k5:=k5) (newId:="ValueError.__new__") hbase (I.ok.hd hc) (aa (cL (Q:=fun v s1=>∃a u dx,v=.ref a/\s1.heap.get? C=some (iC nm qn C N bs bm hd' sn sub ab col dd k0 k1 k2 k3 k5 "ValueError.__new__")/\s1.heap.get? a=some (k9 C dx #[.ref u,.none,.none,.none,.bool false,.none])/\X.xe (.ref a) s1) (E:=X.xe) ?_ (fun v s1 z=>aa (gd (ai z))) fun _ _ z=>z))));refine eM (kN I hg hm ?_ hdb);refine o6 (h₀:=X.base) I.ok.mod.kin Mk.kp (thn (ha cpos pins s σ H _ I h) fun us s1 ⟨vs,H1,I1,r,hlen,q⟩=>⟨I1.kIn,?_⟩) hst hpl;refine cL (C7 (E:=E σ) (Q:=fun v H2=>∃a d,s1.heap.objs.size<=a/\v=.ref a/\H2 a=some (exO a C d)/\E σ (.ref C) d (del H2 a)) Mk F hr hb hd (fun H' s' e s'' I' z=>hx pins σ H' s' e s'' I' z) I1 r hlen (fun a hsz ha'=>?_)) (fun v s2 z=>?_) fun _ _ z=>z
 ·have e:(fun(v:V)(H2:Hp)=>v=.non/\∃d,H2 a=some (exO a C d)/\E σ (.ref C) d (del H2 a))=fun v H2=>v=.non/\∃a_1 d,s1.heap.objs.size<=a_1/\V.ref a=V.ref a_1/\H2 a_1=some (exO a_1 C d)/\E σ (.ref C) d (del H2 a_1):=by
   funext v H2
   apply propext
   constructor
   ·rintro⟨h1,d,h2,h3⟩
    exact⟨h1,a,d,hsz,rfl,h2,h3⟩
   ·rintro⟨h1,b,d,_,h4,h2,h3⟩
    cases h4;exact⟨h1,d,h2,h3⟩
  rw[<-e];exact q a ha'
 ·obtain⟨w',H2,I2,rw',a,d,hsz,rfl,ea,hE⟩:=z
  cases rw';obtain⟨⟨x0,he⟩,_⟩:=I2.hok a _ ea;refine⟨a,x0,d,rfl,I2.bk _ _ hC,he,made pins σ (del H2 a) s2 a C d (I2.del ea) ⟨⟨x0,he⟩,nP (aX I1.sz hsz),kq,fun p hp=>?_⟩ hE⟩;exact aD (aW (av (I1.pin p hp).1) hsz)
end
noncomputable def jk(K:ae)(C:Addr)(f:Str):Bool:=
 k7 K C&&findIn K (.ref C) f==some none&&(match clsIn K C with |some cd=>cd.hasDict|none=>false)
theorem AY{v:V}{u:Value}(r:RelV v u):handedIn u=true:=by
 cases v with
 |non=>cases r;rfl
 |bl b=>cases r;rfl
 |int i=>obtain⟨t,rfl⟩:=r;rfl
 |str x=>obtain⟨t,rfl⟩:=r;rfl
 |byt b=>obtain⟨t,rfl⟩:=r;rfl
 |flt b=>obtain⟨t,rfl⟩:=r;rfl
 |ref a=>cases r;rfl
 |ty n=>cases r;rfl
theorem Gz{h:Heap}{d:Addr}{m:Str->Option Value}{f:Str}{u:Value}(N:h.Ns1 d m)(e:m f=some u):∃o,h.get? d=some o/\lookIn f o=some (some u):=by
 obtain⟨o,es,ep,ho,hd,_,_,hf⟩:=N;refine⟨o,ho,?_⟩;have q:=(hf f).trans e;unfold nsFind findBy at q;rw[<-pY]at q;unfold lookIn;rw[hd];dsimp only;cases hz:es.toList.find? (·.key.isStr f)with
 |none=>rw[hz]at q;cases q
 |some en=>rw[hz]at q;simpa using q
theorem yZ{K:ae}{C:Addr}{f:Str}{o:Obj}{u:Value}(F:jk K C f=true)(e:lookIn f o=some (some u)):qV K C (some o) f=some (.value u):=by
 unfold jk at F;rw[ah,ah,beq_iff_eq]at F;obtain⟨⟨_,h1⟩,h2⟩:=F;cases hc:clsIn K C with
 |none=>rw[hc]at h2;cases h2
 |some cd=>
  rw[hc]at h2;unfold qV;rw[hc,eX,h1,eX];have h3:PySem.W.ownOf cd (some o) f=some (some u):=by
   unfold PySem.W.ownOf;rw[if_pos h2];exact e
  simp[h3]
section
variable {prog:Program}{w:World}{A:Around}{E:Value->Shared->Prop}{s:Shared}{K:ae}{a C:Addr}{o:Obj}{od:Option Obj}{f:Str}{u:Value}
theorem HB{tk:Tok}{R:Result->Shared->Prop}(kin:K.In s.heap)(J:InstAt s.heap a o C od)(F:tJ K C)(hf:qV K C od f=some (.value u))(h:R (.ok (.ret u)) s):
  fC (model prog w) A (.call (.builtin "BaseException.__getattribute__") ⟨[.ref a,.str f tk],[]⟩) R s:=by
 obtain⟨hh,g,d,t,os⟩:=s;have L0:=J.type (M:=model prog w);have L3:=looks_find (M:=model prog w) kin J hf;refine gJ fL.ga.plain zM (tD kin J F ?_);unfold Builtin.«object.__getattribute__»;repeat(first |with_reducible refine gG ?_ |lk|wp_step)
 exact h
theorem exc_fld{b:Bool}{Q:Value->Shared->Prop}(kin:K.In s.heap)(J:InstAt s.heap a o C od)(F:tJ K C)(hf:qV K C od f=some (.value u))(hu:handedIn u=true)(h:Q u {s with toks:=s.toks+1}):
  wpAny (model prog w) A (getAttr (.ref a) f b) Q E s:=by
 obtain⟨hh,g,d,t,os⟩:=s;have L0:=J.type (M:=model prog w);have L1:=o5 (M:=model prog w) kin F.ga;have L2:=o5 (M:=model prog w) kin F.hook;unfold getAttr getAttrBy;refine aa (wpAny_mkText (bh (aa (L0.at (aa (L1.at ?_))))));show wpAny _ _ (if(zz (.ref C)&&(gL "BaseException.__getattribute__"==gL "object.__getattribute__"))=true then _ else _) _ _ _;rw[ga_ne,dQ,if_neg aq];unfold getAttrByItsOwn hookBefore;rw[if_pos (show zz (.ref C)=true from rfl)];refine aa (L2.at ?_);unfold callGetattribute boundAndCalled;rw[show zz (gL "BaseException.__getattribute__")=false from rfl,dQ,if_neg aq];refine aa (hZ (bh (aa ?_)));rw[fL.ga.bind (.ref a)];refine ai (gG (HB (s:=⟨hh,g,d,t+1,os⟩) kin J F hf ?_));show wpAny _ _ (handedOut u) _ _ _;rw[handedOut_of hu];exact ai h
end
noncomputable def rFld(K:ae)(f:Str):V->Hp->VK->Prop:=fun x H Q=>∃a C dd fs v,x=.ref a/\H a=some (lR a (.ref C) (some dd))/\H dd=some (xdO dd fs)/\jk K C f=true/\fs.lookup f=some v/\Q v H
section
variable {X:Cx}{pins:List (Addr×Obj)}{σ:St}{H:Hp}{s:Shared}
theorem get_fld{x:V}{u:Value}{f:Str}{b:Bool}{Q:VK}(I:Inv X pins σ H s)(r:RelV x u)(h:rFld X.K f x H Q):wpAny (model X.prog X.w) X.A (getAttr u f b) (EP X pins σ Q) X.xe s:=by
 obtain⟨a,C,dd,fs,v,rfl,ea,ed,F,hl,q⟩:=h;obtain rfl:u=.ref a:=r;obtain⟨⟨o,e1,e2,e3,e4⟩,_⟩:=I.hok a _ ea;obtain⟨⟨mA,N,rf,_⟩,_⟩:=I.hok dd _ ed;have rv:=rf f;rw[hl]at rv;cases hm:mA f with
 |none=>rw[hm]at rv;exact rv.elim
 |some y=>
  rw[hm]at rv;obtain⟨od,ho,hk⟩:=Gz N hm;have F':k7 X.K C=true:=by
   unfold jk at F;rw[ah,ah]at F;exact F.1.1
  exact exc_fld I.kIn (od:=some od) ⟨e1,e2,e4,by rw[e3];exact ho⟩ (y6 F') (yZ F hk) (AY rv) ⟨v,H,I.tok _,rv,q⟩
theorem BG{n f:Str}{np pos:Pos}{t:TE}(hn:PE X (.Name n np) t):PE X (.Attribute (.Name n np) f pos) (fun σ H Q=>t σ H fun x H1=>rFld X.K f x H1 Q):=by
 intro pins s σ H Q I h;refine Attribute_name (thn (hn pins s σ H _ I h) fun u s1 ⟨x,H1,I1,r,q⟩=>?_);exact get_fld I1 r q
theorem oH:eL X (.builtin "isinstance") (fun xs H Q=>∃a C d y cv b,xs=[.ref a,y]/\H a=some (lR a (.ref C) d)/\(∀dd,d=some dd->∃fs,H dd=some (xdO dd fs))/\k7 X.K C=true/\((∃T,y=.ty T/\cv=gS T)\/(∃D,y=.ref D/\cv=bp D))/\kitOne X.K (.ref C) cv=some b/\Q (.bl b) H):=by
 intro pins s σ H xs us Q I rv h;obtain⟨a,C,d,y,cv,b,rfl,ea,hd,ok,hy,e,q⟩:=h;obtain⟨u,c,rfl,ru,rc⟩:=rv.two;obtain rfl:u=bp a:=ru;have hc:c=cv:=by
  rcases hy with⟨T,rfl,rfl⟩ |⟨D,rfl,rfl⟩
  ·cases rc;rfl
  ·cases rc;rfl
 subst hc;exact kia_one (GN (y6 ok)) I.kIn (A0 I.hok ea fun dd z=>by obtain⟨fs,k⟩:=hd dd z;exact⟨_,k⟩) e (fun z=>nomatch z) fun tk=>⟨.bl b,H,I.tok tk,rfl,q⟩
end
end L2
set_option genInjectivity false
namespace R
open PySem PySem.Spec PyProof.Rows L2
inductive Bf where
 |len|isinstance|all|any|list|tuple|set|min|sum|int|lend|sorti|isx|sortl|minl|maxl|sortt
 deriving DecidableEq
noncomputable def Bf.name:Bf->Str
 |.len=>"len" |.isinstance=>"isinstance" |.all=>"all" |.any=>"any" |.list=>"list" |.tuple=>"tuple" |.set=>"set" |.min=>"min" |.sum=>"sum" |.int=>"int" |.lend=>"len" |.sorti=>"sorted" |.isx=>"isinstance" |.sortl=>"sorted" |.minl=>"min" |.maxl=>"max" |.sortt=>"sorted"
noncomputable def Bf.val:Bf->Value
 |.len=>.builtin "len" |.isinstance=>.builtin "isinstance" |.all=>.builtin "all" |.any=>.builtin "any" |.list=>.type "list" |.tuple=>.type "tuple" |.set=>.type "set" |.min=>.builtin "min" |.sum=>.builtin "sum" |.int=>.type "int" |.lend=>.builtin "len" |.sorti=>.builtin "sorted" |.isx=>.builtin "isinstance" |.sortl=>.builtin "sorted" |.minl=>.builtin "min" |.maxl=>.builtin "max" |.sortt=>.builtin "sorted"
theorem Bf.boot:∀b:Bf,fg b.name=some b.val
 |.len=>PySem.boot_len|.isinstance=>boot_isinstance|.all=>boot_all|.any=>boot_any|.list=>j7|.tuple=>tM
 |.set=>by decide+kernel|.min=>by decide+kernel|.sum=>by decide+kernel|.int=>uB|.lend=>PySem.boot_len|.sorti=>by decide+kernel|.isx=>boot_isinstance|.sortl=>by decide+kernel|.minl=>by decide+kernel|.maxl=>by decide+kernel|.sortt=>by decide+kernel
theorem Bf.plain:∀b:Bf,b.name≠"__name__"/\(b.name==("__debug__":Str))=false:=by
 intro b;cases b<;>exact⟨by decide+kernel,by decide+kernel⟩
inductive Ty where
 |int|bool|str|list|tuple|dict|valueError
 deriving DecidableEq
noncomputable def Ty.name:Ty->Str
 |.int=>"int" |.bool=>"bool" |.str=>"str" |.list=>"list" |.tuple=>"tuple" |.dict=>"dict" |.valueError=>"ValueError"
noncomputable def Ty.t:Ty->String
 |.int=>"int" |.bool=>"bool" |.str=>"str" |.list=>"list" |.tuple=>"tuple" |.dict=>"dict" |.valueError=>"ValueError"
theorem Ty.boot:∀b:Ty,fg b.name=some (.type b.t)
 |.int=>uB|.bool=>PyProof.Rows.boot_bool|.str=>PyProof.Rows.boot_str|.list=>j7|.tuple=>tM|.dict=>PyProof.Rows.boot_dict|.valueError=>by decide+kernel
theorem Ty.plain:∀b:Ty,b.name≠"__name__"/\(b.name==("__debug__":Str))=false:=by
 intro b;cases b<;>exact⟨by decide+kernel,by decide+kernel⟩
noncomputable def iy(K:ae):Operator->R2
 |.Add=>fun x y H Q=>(rI0 fun i j=>.int (i+j)) x y H Q\/(∃i j,x=.str i/\y=.str j/\i.length+j.length<=sizeLine/\Q (.str (i++j)) H)\/rCat x y H Q\/By K x y H Q\/Bz K x y H Q
 |.Sub=>rI0 fun i j=>.int (i-j)
 |.Mult=>fun x y H Q=>(rI Bh fun i j=>.int (i*j)) x y H Q
 |.Mod=>rI (fun _ j=>0<j) fun i j=>.int (i%j)
 |.FloorDiv=>rI HL fun i j=>.int (i/j)
 |.Pow=>rI D7 fun i j=>.int (i^j.toNat)
 |.RShift=>rI (fun _ j=>0<=j) fun i j=>.int (i/2^j.toNat)
 |.LShift=>rI D7 fun i j=>.int (i*2^j.toNat)
 |.BitAnd=>rI0 fun i j=>.int (gY i j)
 |.BitXor=>rI0 fun i j=>.int (jB i j)
 |_=>fun _ _ _ _=>False
noncomputable def fX(K:ae):CmpOp->R2
 |.Eq=>rEqD K
 |.NotEq=>rNeD K
 |.Lt=>rI0 fun i j=>.bl (decide (i<j))
 |.LtE=>rI0 fun i j=>.bl (decide (i<=j))
 |.Gt=>rI0 fun i j=>.bl (decide (j<i))
 |.GtE=>rI0 fun i j=>.bl (decide (j<=i))
 |.Is=>fun x y H Q=>y=.non/\Q (.bl (decide (x=.non))) H
 |.IsNot=>fun x y H Q=>y=.non/\Q (.bl (!decide (x=.non))) H
 |.In=>fun x y H Q=>((∃i j,x=.str i/\y=.str j/\Q (.bl (!(gw j i 0 j.length 1).isEmpty)) H))\/rIn K false x y H Q
 |.NotIn=>fun x y H Q=>((∃i j,x=.str i/\y=.str j/\Q (.bl (!(!(gw j i 0 j.length 1).isEmpty))) H))\/rIn K true x y H Q
noncomputable def rUn(K:ae):Co->V->Hp->VK->Prop
 |.USub=>rU fun i=>.int (-i)
 |_=>fun _ _ _=>False
noncomputable def rSlc(K:ae):V->Option Int->Option Int->Hp->VK->Prop:=fun x lo hi H Q=>rSlL K x lo hi H Q\/rSlS x lo hi H Q
noncomputable def rBf(K:ae):Bf->List V->Hp->VK->Prop
 |.len=>fun xs H Q=>(∃p ys,xs=[.ref p]/\(SqL K H p ys\/SqT K H p ys)/\Q (.int ys.length) H)\/(∃z:Str,xs=[.str z]/\z.length<=sizeLine/\Q (.int z.length) H)\/(∃a n,xs=[V.ref a]/\H a=some (_root_.Q.Af a n)/\Q (.int n) H)
 |.isinstance=>fun xs H Q=>(∃x T t b,xs=[x,.ty T]/\ly K H x t/\cj K t (.type T)=some b/\Q (.bl b) H)\/(∃x C t b,xs=[x,.ref C]/\ly K H x t/\cj K t (.ref C)=some b/\Q (.bl b) H)
 |.all=>fun xs H Q=>∃(p:Addr)(bs:List Bool),xs=[.ref p]/\SqL K H p (bs.map V.bl)/\Q (.bl (bs.all id)) H
 |.any=>fun xs H Q=>∃(p:Addr)(bs:List Bool),xs=[.ref p]/\SqL K H p (bs.map V.bl)/\Q (.bl (bs.any id)) H
 |.list=>fun xs H Q=>∃p ys,xs=[.ref p]/\(SqL K H p ys\/SqT K H p ys)/\∀l,H l=none->Q (.ref l) (upd H l (.lst ys))
 |.tuple=>fun xs H Q=>∃p ys,xs=[.ref p]/\((SqL K H p ys/\∀l,H l=none->Q (.ref l) (upd H l (.tup ys)))\/(SqT K H p ys/\Q (.ref p) H))
 |.set=>Q.rSet K
 |.min=>fun xs H Q=>∃i j,xs=[.int i,.int j]/\Q (.int (if j<i then j else i)) H
 |.sum=>fun xs H Q=>∃(p:Addr)(ns:List Int),xs=[.ref p]/\SqL K H p (ns.map V.int)/\Q (.int ns.sum) H
 |.int=>fun xs H Q=>(∃i,xs=[.int i]/\Q (.int i) H)\/∃k,xs=[.bl k]/\Q (.int (if k then 1 else 0)) H
 |.lend=>fun xs H Q=>∃a kvs,xs=[V.ref a]/\H a=some (.dT kvs)/\Q (.int kvs.length) H
 |.sorti=>Q.Fv K
 |.sortl=>Q.Fu K
 |.sortt=>Q.Ft K
 |.minl=>Q.rMinL K
 |.maxl=>Q.rMaxL K
 |.isx=>fun xs H Q=>∃a C d y cv b,xs=[.ref a,y]/\H a=some (lR a (.ref C) d)/\(∀dd,d=some dd->∃fs,H dd=some (xdO dd fs))/\k7 K C=true/\((∃T,y=.ty T/\cv=gS T)\/(∃D,y=.ref D/\cv=bp D))/\cj K (.ref C) cv=some b/\Q (.bl b) H
inductive Mm where
 |append|clear|reverse|pop|index
 deriving DecidableEq
noncomputable def Mm.name:Mm->Str
 |.append=>"append" |.clear=>"clear" |.reverse=>"reverse" |.pop=>"pop" |.index=>"index"
noncomputable def Mm.id:Mm->String
 |.append=>"list.append" |.clear=>"list.clear" |.reverse=>"list.reverse" |.pop=>"list.pop" |.index=>"list.index"
noncomputable def rMm:Mm->V->List V->Hp->VK->Prop
 |.append=>wu
 |.clear=>fun _ _ _ _=>False
 |.reverse=>fun _ _ _ _=>False
 |.pop=>fun x xs H Q=>rPop x xs H Q\/Fw x xs H Q
 |.index=>fun _ _ _ _=>False
noncomputable def baseOk:Expr->Bool
 |.Name .. =>true|.Subscript .. =>true
 |_=>false
mutual
inductive CE where
 |var (i:Nat)
 |con (c:Const)
 |glo (x:Str)
 |ty (t:Ty)
 |bin (op:Operator) (a b:CE)
 |un (op:Co) (a:CE)
 |cmp (op:CmpOp) (a b:CE)
 |chain (op op':CmpOp) (a b c:CE)
 |not (a:CE)
 |and (a b:CE)
 |or (a b:CE)
 |ite (c a b:CE)
 |idx (a i:CE)
 |cut (a:CE) (lo hi:CO)
 |tup (es:CL)
 |lst (es:CL)
 |dic (ps:CP)
 |call (f:Str) (es:CL)
 |bfn (b:Bf) (es:CL)
 |meth1 (m:Mm) (o a:CE)
 |idxd (a i:CE)
 |dicT
 |setd (o a b:CE)
 |base (x:Str) (es:CL)
 |fld (a:CE) (f:Str)
 |lrng (a:CE)
 |sortset (a:CE)
 |comp (own:List Str) (fr:List Nat) (tg:CG) (it:CI) (cond:CO) (elt:CE)
inductive CL where
 |nil
 |cons (e:CE) (es:CL)
inductive CP where
 |nil
 |cons (k v:CE) (r:CP)
inductive CO where
 |no
 |yes (e:CE)
inductive CG where
 |name (i:Nat)
 |tup (gs:CGs)
 |sub (o i:CE)
inductive CGs where
 |nil
 |cons (g:CG) (gs:CGs)
inductive CI where
 |seq (e:CE)
 |lseq (e:CE)
 |tseq (e:CE)
 |range1 (e:CE)
 |range2 (a b:CE)
 |enumt (e:CE)
end
noncomputable def CL.len:CL->Nat
 |.nil=>0
 |.cons _ r=>r.len+1
noncomputable def CGs.len:CGs->Nat
 |.nil=>0
 |.cons _ r=>r.len+1
mutual
inductive CS where
 |asg (g:CG) (e:CE)
 |asgc (i:Nat) (e:CE)
 |expr (e:CE)
 |iff (c:CE) (a b:CB)
 |forr (g:CG) (it:CI) (b:CB)
 |ret (e:CE)
 |retN
 |pass|brk|cont
 |rais (x:Str) (es:CL)
 |raisX (x:Str) (es:CL)
 |fldX (o:CE) (f:Str) (e:CE)
 |tryc (x:Str) (i:Nat) (b su:CB)
inductive CB where
 |nil
 |hole
 |cons (s:CS) (r:CB)
end
noncomputable def yO(sc:Scope)(x:Str):Bool:=sc.names.lookup x==some .local ||sc.names.lookup x==some .cell||sc.names.lookup x==some .free
noncomputable def jP(sc:Scope)(x:Str):Bool:=sc.names.lookup x==some .globalImplicit
noncomputable def oi(x:Str):Bool:=(x==("__debug__":Str))==false&&(x==("__classdict__":Str))==false
noncomputable def F8:Const->Bool
 |.none=>true|.bool _=>true|.int _=>true|.str _=>true|_=>false
noncomputable def cv:Const->V
 |.none=>.non|.bool b=>.bl b|.int i=>.int i|.str x=>.str x|_=>.non
noncomputable def namesOf(N own:List Str)(fr:List Nat):List Str:=own++fr.map fun j=>N.getD j ""
noncomputable def me(own:List Str)(fr:List Nat)(σ:L2.St):L2.St:=own.map (fun _=>none)++fr.map fun j=>(σ[j]?).getD none
noncomputable def mn:Expr->Bool
 |.Slice .. =>true
 |_=>false
noncomputable def isSet:Expr->Bool
 |.Set .. =>true
 |_=>false
noncomputable def pH:Expr->Bool
 |.ListComp .. =>true|.SetComp .. =>true|.DictComp .. =>true
 |_=>false
noncomputable def nr:Expr->Bool
 |.Tuple .. =>true
 |_=>false
noncomputable def wK(sc sc':Scope)(N own:List Str)(fr:List Nat):Bool:=
 decide (sc'.kind=.function)&&sc'.names.all (fun y=>decide (y.2=.cell->sc'.names.lookup y.1=some .cell))&&sc'.names.all (fun y=>decide (y.2=.local ->sc'.names.lookup y.1=some .local))&&
 sc'.names.all (fun y=>decide (y.2=.free->sc.names.lookup y.1=some .cell\/sc.names.lookup y.1=some .free))&&decide ((namesOf N own fr).Nodup)&&
 fr.all (fun j=>decide (j<N.length)&&sc'.names.lookup (N.getD j "")==some .free)&&own.all (fun x=>sc'.names.lookup x==some .local ||sc'.names.lookup x==some .cell)
noncomputable def isStr(x:Str):Expr->Bool
 |.Constant (.str y) _ _=>decide (y=x)
 |_=>false
mutual
noncomputable def ba(sc:Scope)(N:List Str):CE->Expr->Bool
 |.var i,e=>match e with
  |.Name x _=>N[i]? ==some x&&yO sc x&&oi x
  |_=>false
 |.con c,e=>match e with
  |.Constant c' _ _=>F8 c&&decide (c=c')
  |_=>false
 |.glo x,e=>match e with
  |.Name y _=>decide (x=y)&&jP sc x&&oi x
  |_=>false
 |.ty t,e=>match e with
  |.Name y _=>decide (t.name=y)&&jP sc y
  |_=>false
 |.bin op a b,e=>match e with
  |.BinOp a' op' b' _=>decide (op=op')&&ba sc N a a'&&ba sc N b b'
  |_=>false
 |.un op a,e=>match e with
  |.UnaryOp op' a' _=>decide (op=op')&&ba sc N a a'
  |_=>false
 |.cmp op a b,e=>match e with
  |.Compare a' [op'] [b'] _=>decide (op=op')&& !isSet b'&&ba sc N a a'&&ba sc N b b'
  |_=>false
 |.chain o1 o2 a b c,e=>match e with
  |.Compare a' [o1',o2'] [b',c'] _=>decide (o1=o1')&&decide (o2=o2')&& !isSet c'&&ba sc N a a'&&ba sc N b b'&&ba sc N c c'
  |_=>false
 |.not a,e=>match e with
  |.UnaryOp .Not a' _=>ba sc N a a'
  |_=>false
 |.and a b,e=>match e with
  |.BoolOp .And [a',b'] _=>ba sc N a a'&&ba sc N b b'
  |.BoolOp .And (a'::b'::c'::r') p=>ba sc N a a'&&ba sc N b (.BoolOp .And (b'::c'::r') p)
  |_=>false
 |.or a b,e=>match e with
  |.BoolOp .Or [a',b'] _=>ba sc N a a'&&ba sc N b b'
  |.BoolOp .Or (a'::b'::c'::r') p=>ba sc N a a'&&ba sc N b (.BoolOp .Or (b'::c'::r') p)
  |_=>false
 |.ite c a b,e=>match e with
  |.IfExp c' a' b' _=>ba sc N c c'&&ba sc N a a'&&ba sc N b b'
  |_=>false
 |.idx a i,e=>match e with
  |.Subscript a' i' _=> !mn i'&&ba sc N a a'&&ba sc N i i'
  |_=>false
 |.cut a lo hi,e=>match e with
  |.Subscript a' (.Slice lo' hi' none _) _=>ba sc N a a'&&Ho sc N lo lo'&&Ho sc N hi hi'
  |_=>false
 |.tup es,e=>match e with
  |.Tuple es' _ _=>ku sc N es es'
  |_=>false
 |.lst es,e=>match e with
  |.List es' _=>ku sc N es es'
  |_=>false
 |.dic ps,e=>match e with
  |.Dict ks' vs' _=>zc sc N ps ks' vs'&&decide (ks'.length<=15)
  |_=>false
 |.call f es,e=>match e with
  |.Call (.Name f' _) es' [] _=>decide (f=f')&&jP sc f&&oi f&&ku sc N es es'
  |_=>false
 |.bfn b es,e=>match e with
  |.Call (.Name f' _) (e1::es') [] _=>decide (b.name=f')&&jP sc f'&&ku sc N es (e1::es')
  |_=>false
 |.meth1 m o a,e=>match e with
  |.Call (.Attribute o' nm ap) [a'] [] cp=>decide (m.name=nm)&&(ap.endLine==cp.line)&&baseOk o'&&ba sc N o o'&&ba sc N a a'
  |_=>false
 |.idxd a i,e=>match e with
  |.Subscript a' i' _=> !mn i'&&ba sc N a a'&&ba sc N i i'
  |_=>false
 |.dicT,e=>match e with
  |.Dict [] [] _=>true
  |_=>false
 |.setd o a b,e=>match e with
  |.Call (.Attribute o' nm ap) [a',b'] [] cp=>decide (nm=aQ "setdefault")&&(ap.endLine==cp.line)&&baseOk o'&&ba sc N o o'&&ba sc N a a'&&ba sc N b b'
  |_=>false
 |.base x es,e=>match e with
  |.Call (.Attribute (.Name x' _) nm ap) (e'::es') [] cp=>decide (nm=aQ "__init__")&&(ap.endLine==cp.line)&&decide (x=x')&&jP sc x&&oi x&&decide (es.len<29)&&ku sc N es (e'::es')
  |_=>false
 |.fld a f,e=>match e with
  |.Attribute (.Name n np) f' _=>decide (f=f')&&ba sc N a (.Name n np)
  |_=>false
 |.sortset a,e=>match e with
  |.Call (.Name f _) [.Call (.Name g _) [a'] [] _] [] _=>decide (f="sorted")&&decide (g="set")&&jP sc f&&jP sc g&&ba sc N a a'
  |_=>false
 |.lrng a,e=>match e with
  |.Call (.Name f _) [.Call (.Name g _) [a'] [] _] [] _=>decide (f="list")&&decide (g="range")&&jP sc f&&jP sc g&&ba sc N a a'
  |_=>false
 |.comp own fr tg it cond elt,e=>match e with
  |.ListComp elt' [⟨tg',it',ifs',0⟩] sc' _=>wK sc sc' N own fr&& !isSet it'&&xi sc N it it' tg'&&
   lW sc' (namesOf N own fr) false tg tg'&&chkC sc' (namesOf N own fr) cond ifs'&&ba sc' (namesOf N own fr) elt elt'
  |_=>false
noncomputable def ku(sc:Scope)(N:List Str):CL->List Expr->Bool
 |.nil,es=>match es with
  | []=>true
  |_=>false
 |.cons e r,es=>match es with
  |e'::r'=>ba sc N e e'&&ku sc N r r'
  |_=>false
noncomputable def zc(sc:Scope)(N:List Str):CP->List (Option Expr)->List Expr->Bool
 |.nil,ks,vs=>match ks,vs with
  | [],[]=>true
  |_,_=>false
 |.cons k v r,ks,vs=>match ks,vs with
  |some k'::ks',v'::vs'=>ba sc N k k'&&ba sc N v v'&&zc sc N r ks' vs'
  |_,_=>false
noncomputable def Ho(sc:Scope)(N:List Str):CO->Option Expr->Bool
 |.no,o=>match o with
  |none=>true
  |_=>false
 |.yes e,o=>match o with
  |some e'=>ba sc N e e'
  |_=>false
noncomputable def chkC(sc:Scope)(N:List Str):CO->List Expr->Bool
 |.no,o=>match o with
  | []=>true
  |_=>false
 |.yes e,o=>match o with
  | [e']=>ba sc N e e'
  |_=>false
noncomputable def lW(sc:Scope)(N:List Str)(all:Bool):CG->Expr->Bool
 |.name i,e=>match e with
  |.Name x _=>N[i]? ==some x&&(sc.names.lookup x==some .local ||sc.names.lookup x==some .cell)
  |_=>false
 |.tup gs,e=>match e with
  |.Tuple es' _ _=>mQ sc N all gs es'
  |_=>false
 |.sub o i,e=>match e with
  |.Subscript o' i' _=> !mn i'&&ba sc N o o'&&ba sc N i i'
  |_=>false
noncomputable def mQ(sc:Scope)(N:List Str)(all:Bool):CGs->List Expr->Bool
 |.nil,es=>match es with
  | []=>true
  |_=>false
 |.cons g gs,es=>match es with
  |e'::es'=>lW sc N all g e'&&mQ sc N all gs es'
  |_=>false
noncomputable def xi(sc:Scope)(N:List Str):CI->Expr->Expr->Bool
 |.seq e,e',_=>ba sc N e e'
 |.lseq e,e',_=>ba sc N e e'
 |.tseq e,e',_=>ba sc N e e'
 |.range1 e,x,_=>match x with
  |.Call (.Name f' _) [e'] [] _=>decide (f'="range")&&jP sc f'&&ba sc N e e'
  |_=>false
 |.range2 a b,x,_=>match x with
  |.Call (.Name f' _) [a',b'] [] _=>decide (f'="range")&&jP sc f'&&ba sc N a a'&&ba sc N b b'
  |_=>false
 |.enumt e,x,tg'=>match x with
  |.Call (.Name f' _) [e'] [] _=>decide (f'="enumerate")&&jP sc f'&&ba sc N e e'&&nr tg'
  |_=>false
end
mutual
noncomputable def jh:CE->Bool
 |.var _=>true
 |.con _=>true
 |.glo _=>true
 |.ty _=>true
 |.lst es=>qe es
 |.tup es=>qe es
 |.bfn .isinstance es=>qe es
 |.bfn .isx es=>qe es
 |.fld a _=>jh a
 |.bin _ a b=>jh a&&jh b
 |.meth1 _ a b=>jh a&&jh b
 |_=>false
noncomputable def qe:CL->Bool
 |.nil=>true
 |.cons e es=>jh e&&qe es
end
noncomputable def GB:CE->Bool
 |.bfn .isx es=>qe es
 |_=>false
mutual
noncomputable def GD:CS->Bool
 |.asg (.name _) e=>jh e
 |.ret e=>jh e
 |.pass=>true
 |.expr e=>jh e
 |.iff c a b=>GB c&&(qf a&&qf b)
 |_=>false
noncomputable def qf:CB->Bool
 |.nil=>true
 |.hole=>false
 |.cons s r=>GD s&&qf r
end
mutual
noncomputable def jl(sc:Scope)(N:List Str):CS->Stmt->Bool
 |.asg g e,s=>match s with
  |.Assign [g'] e' _=>lW sc N true g g'&&ba sc N e e'&& !pH e'&& !(nr g'&&nr e')
  |_=>false
 |.asgc i e,s=>match s with
  |.Assign [.Name x p] (.ListComp a b c d) sp=>N[i]? ==some x&&(sc.names.lookup x==some .local ||sc.names.lookup x==some .cell)&&ba sc N e (.ListComp a b c d)&&
   (sc.names.lookup x==some .cell||(decide (p.line=d.line)&& !(c.names.any fun y=>decide (y.1=x)&&(decide (y.2=.local)||decide (y.2=.cell)))))
  |_=>false
 |.expr e,s=>match s with
  |.Expr e' _=>ba sc N e e'&& !pH e'
  |_=>false
 |.iff c a b,s=>match s with
  |.If c' a' b' _=>ba sc N c c'&&lu sc N a a'&&lu sc N b b'
  |_=>false
 |.forr g it b,s=>match s with
  |.For g' it' b' [] _=>lW sc N true g g'&&xi sc N it it' g'&& !isSet it'&&lu sc N b b'
  |_=>false
 |.ret e,s=>match s with
  |.Return (some e') _=>ba sc N e e'
  |_=>false
 |.retN,s=>match s with
  |.Return none _=>true
  |_=>false
 |.rais x es,s=>match s with
  |.Raise (some (.Call (.Name x' _) (e'::es') [] _)) none _=>decide (x=x')&&jP sc x&&oi x&&ku sc N es (e'::es')
  |_=>false
 |.raisX x es,s=>match s with
  |.Raise (some (.Call (.Name x' _) (e'::es') [] _)) none _=>decide (x=x')&&jP sc x&&oi x&&ku sc N es (e'::es')
  |_=>false
 |.fldX o f e,s=>match s with
  |.Assign [.Attribute o' f' _] e' _=>decide (f=f')&&ba sc N o o'&&ba sc N e e'&& !pH e'
  |_=>false
 |.tryc x i b su,s=>match s with
  |.Try b' [.ExceptHandler (some (.Name x' _)) (some n) (s0::ss) _] [] [] _=>decide (x=x')&&jP sc x&&oi x&&N[i]? ==some n&&sc.names.lookup n==some .local &&qf su&&lu sc N su (s0::ss)&&lu sc N b b'
  |_=>false
 |.pass,s=>match s with
  |.Pass _=>true
  |_=>false
 |.brk,s=>match s with
  |.Break _=>true
  |_=>false
 |.cont,s=>match s with
  |.Continue _=>true
  |_=>false
noncomputable def lu(sc:Scope)(N:List Str):CB->List Stmt->Bool
 |.hole,_=>true
 |.nil,ss=>match ss with
  | []=>true
  |_=>false
 |.cons s r,ss=>match ss with
  |s'::r'=>jl sc N s s'&&lu sc N r r'
  |_=>false
end
structure Gam where
 val:Str->Option V
 fn:Str->Nat->Option (Sp×List V)
 ini:Str->Nat->Option (Addr×Sp×List V)
 dic:Addr->Option (List (Key×V))
noncomputable def DJ(K:ae)(tl:TE):TI:=fun σ H R=>tl σ H fun x H1=>(∃a,x=.ref a/\(∃xs,SqL K H1 a xs)/\R (Itl K a) H1)\/(∃a,x=.ref a/\(∃xs,SqT K H1 a xs)/\R (Itt K a) H1)\/(∃z,x=.str z/\R (Its z) H1)
noncomputable def x6(K:ae)(t:TE):TT:=fun σ H Q=>t σ H fun x H1=>∃k,TruV K x H1 k/\Q k H1
mutual
noncomputable def wpE(G:Gam)(K:ae)(E:XS):CE->TE
 |.var i=>uc i
 |.con c=>tC (cv c)
 |.glo x=>fun σ H Q=>∃v,G.val x=some v/\Q v H
 |.ty t=>tC (.ty t.t)
 |.bin op a b=>tOp (iy K op) (wpE G K E a) (wpE G K E b)
 |.un op a=>tUn (rUn K op) (wpE G K E a)
 |.cmp op a b=>tOp (fX K op) (wpE G K E a) (wpE G K E b)
 |.chain o1 o2 a b c=>rB (fX K o1) (fX K o2) (wpE G K E a) (wpE G K E b) (wpE G K E c)
 |.not a=>EO (wpE G K E a)
 |.and a b=>EV (wpE G K E a) (wpE G K E b)
 |.or a b=>tOrV (wpE G K E a) (wpE G K E b)
 |.ite c a b=>tIf (wpT G K E c) (wpE G K E a) (wpE G K E b)
 |.idx a i=>tOp (rIx K) (wpE G K E a) (wpE G K E i)
 |.cut a lo hi=>tSl (rSlc K) (wpE G K E a) (wpO G K E lo) (wpO G K E hi)
 |.tup es=>tTup (wpL G K E es)
 |.lst es=>tLst (wpL G K E es)
 |.dic ps=>fun σ H Q=>(ps=.nil/\ET σ H Q)\/(ps≠.nil/\tDisp (wpP G K E ps) σ H Q)
 |.call f es=>fun σ H Q=>∃sp dvs,G.fn f es.len=some (sp,dvs)/\yb sp dvs (E σ) (wpL G K E es) σ H Q
 |.bfn b es=>tCB (rBf K b) (wpL G K E es)
 |.meth1 m o a=>tBM K "list" (rMm m) (wpE G K E o) (kh (wpE G K E a) qE)
 |.idxd a i=>tOp (rIxD K) (wpE G K E a) (wpE G K E i)
 |.dicT=>ES
 |.setd o a b=>tBM K "dict" Bx (wpE G K E o) (kh (wpE G K E a) (kh (wpE G K E b) qE))
 |.base x es=>fun σ H Q=>∃B,G.val x=some (.ref B)/\tBase K B (wpL G K E es) σ H Q
 |.fld a f=>fun σ H Q=>wpE G K E a σ H fun x H1=>rFld K f x H1 Q
 |.lrng a=>tLRng (kh (wpE G K E a) qE)
 |.sortset a=>x9 K (kh (wpE G K E a) qE)
 |.comp own fr tg it cond elt=>uF (wpI G K E it) (wpG G K N0 tg) (wpC G K N0 cond) (wpE G K N0 elt) (me own fr)
noncomputable def wpT(G:Gam)(K:ae)(E:XS):CE->TT
 |.cmp op a b=>x8 (tOp (fX K op) (wpE G K E a) (wpE G K E b))
 |.chain o1 o2 a b c=>x8 (rB (fX K o1) (fX K o2) (wpE G K E a) (wpE G K E b) (wpE G K E c))
 |.not a=>tNot (wpT G K E a)
 |.and a b=>tAnd (wpT G K E a) (wpT G K E b)
 |.or a b=>tOr (wpT G K E a) (wpT G K E b)
 |.ite _ _ _=>fun _ _ _=>False
 |.var i=>x6 K (uc i)
 |.con c=>x6 K (tC (cv c))
 |.glo x=>x6 K (fun σ H Q=>∃v,G.val x=some v/\Q v H)
 |.idx a i=>x6 K (tOp (rIx K) (wpE G K E a) (wpE G K E i))
 |.call f es=>x6 K (fun σ H Q=>∃sp dvs,G.fn f es.len=some (sp,dvs)/\yb sp dvs (E σ) (wpL G K E es) σ H Q)
 |.bfn b es=>x6 K (tCB (rBf K b) (wpL G K E es))
 |_=>fun _ _ _=>False
noncomputable def wpL(G:Gam)(K:ae)(E:XS):CL->TA
 |.nil=>qE
 |.cons e es=>kh (wpE G K E e) (wpL G K E es)
noncomputable def wpP(G:Gam)(K:ae)(E:XS):CP->List (TE×TE)
 |.nil=>[]
 |.cons k v r=>(wpE G K E k,wpE G K E v)::wpP G K E r
noncomputable def wpO(G:Gam)(K:ae)(E:XS):CO->TO
 |.no=>vR
 |.yes e=>EN (wpE G K E e)
noncomputable def wpC(G:Gam)(K:ae)(E:XS):CO->TT
 |.no=>tYes
 |.yes e=>wpT G K E e
noncomputable def wpG(G:Gam)(K:ae)(E:XS):CG->TG
 |.name i=>kj i
 |.tup gs=>gTup K gs.len (wpGs G K E gs)
 |.sub o i=>gSub (wpE G K E o) (wpE G K E i) rSetL
noncomputable def wpGs(G:Gam)(K:ae)(E:XS):CGs->TGs
 |.nil=>gNil
 |.cons g gs=>G6 (wpG G K E g) (wpGs G K E gs)
noncomputable def wpI(G:Gam)(K:ae)(E:XS):CI->TI
 |.seq e=>DJ K (wpE G K E e)
 |.lseq e=>G0 K (wpE G K E e)
 |.tseq e=>iTup K (wpE G K E e)
 |.range1 e=>GZ (kh (wpE G K E e) qE)
 |.range2 a b=>GY (kh (wpE G K E a) (kh (wpE G K E b) qE))
 |.enumt e=>G1 K (kh (wpE G K E e) qE)
end
mutual
noncomputable def wpS(G:Gam)(K:ae)(E:XS):CS->TS
 |.asg g e=>rC (wpE G K E e) (wpG G K E g)
 |.asgc i e=>rC (wpE G K E e) (kj i)
 |.expr e=>ER (wpE G K E e)
 |.iff c a b=>tIfS (wpT G K E c) (wpB G K E a) (wpB G K E b)
 |.forr g it b=>tFor (wpI G K E it) (wpG G K E g) (wpB G K E b)
 |.ret e=>tRet (wpE G K E e)
 |.retN=>EM
 |.rais x es=>fun D σ H=>∃C,G.val x=some (.ref C)/\cw K (.ref C)=true/\PySem.W.excIn K C bmV "ValueError.__new__"=true/\wpL G K E es σ H fun vs H1=>vs.length<=sizeLine/\E σ (.ref C) none H1
 |.raisX x es=>fun D σ H=>∃C sp dvs,G.ini x es.len=some (C,sp,dvs)/\Fg C sp dvs E (wpL G K E es) D σ H
 |.fldX o f e=>sFldX K (wpE G K E o) (wpE G K E e) f
 |.tryc x i b su=>fun D σ H=>∃C,G.val x=some (.ref C)/\wpB G K (kP K C i (wpB G K N0 su) D) b D σ H
 |.pass=>ya
 |.brk=>EU
 |.cont=>tCont
noncomputable def wpB(G:Gam)(K:ae)(E:XS):CB->TS
 |.nil=>ya
 |.hole=>fun _ _ _=>False
 |.cons s r=>qD (wpS G K E s) (wpB G K E r)
end
noncomputable abbrev Sat(G:Gam)(K:ae)(sp:Sp)(c:CB)(N:List Str):Prop:=∀vs H Q E,sp vs H Q E->wpB G K (fun _=>E) c {nx:=fun _ H'=>Q .non H',rt:=Q} (L2.start N vs) H
noncomputable def iA:List Str:=["len","isinstance","all","any","list","tuple","int","bool","str","dict","range","enumerate","sorted","set","min","max","ValueError","sum","zip"]
structure Ok(CX:CXT)(G:Gam)(E:XS)(sc:Scope)(N:List Str)(all:Bool)(X:Cx):Prop where
 names:X.N=N
 top:all=true->X.stack=X.env::X.outer/\X.env.frame=some X.env.locals/\X.ex=[]
 nd:N.Nodup
 loc:∀x,sc.names.lookup x=some .local ->X.env.scope.names.lookup x=some .local
 cel:∀x,sc.names.lookup x=some .cell->X.env.scope.names.lookup x=some .cell
 fre:∀x,sc.names.lookup x=some .free->X.env.scope.names.lookup x=some .cell\/X.env.scope.names.lookup x=some .free
 glo:∀x,sc.names.lookup x=some .globalImplicit->X.env.scope.names.lookup x=some .globalImplicit
 all:all=true->∀x,X.fn x=true
 own:∀x,sc.names.lookup x=some .cell->X.fn x=true
 calm:X.calm=true
 hu:X.A.units+50<cLine
 val:∀x v,G.val x=some v->∃u,X.mg x=some u/\RelV v u
 fn:∀x n sp dvs,G.fn x n=some (sp,dvs)->∃f fd ps ds k,ju X.prog X.w X.K X.mg X.base CX k f fd ps sp/\iU k X.A/\X.mg x=some (.ref f)/\cw X.K (.ref f)=true/\Binds X.K fd ps ds/\bM dvs ds
 ini:∀x n C sp dvs,G.ini x n=some (C,sp,dvs)->∃f fd ps ds k,MkX X.K C f/\ju X.prog X.w X.K X.mg X.base CX k f fd ps sp/\iU (k+1) X.A/\X.mg x=some (.ref C)/\Binds X.K fd ps ds/\bM dvs ds
 dic:∀a kvs,G.dic a=some kvs->DkIn X.prog X.w X.K a kvs
 blt:∀x∈iA,X.mg x=none
 px:PassesOwn (model X.prog X.w) X.A X.env X.xe
 pass:vH CX X E
 made:MadeS X E
 madeX:Be X E
 cx:CX=CXx X.prog X.w
theorem Bf.mem:∀b:Bf,b.name∈iA:=by intro b;cases b<;>decide+kernel
theorem Ty.mem:∀b:Ty,b.name∈iA:=by intro b;cases b<;>decide+kernel
section
variable {CX:CXT}{G:Gam}{E:XS}{sc:Scope}{N:List Str}{all:Bool}{X:Cx}
theorem Ok.vis(o:Ok CX G E sc N all X){x:Str}(h:yO sc x=true):Vis X.env.scope x:=by
 unfold yO at h;rw[cD,cD,beq_iff_eq,beq_iff_eq,beq_iff_eq]at h;rcases h with(h|h) |h
 ·exact .inl (o.loc x h)
 ·exact .inr (.inl (o.cel x h))
 ·rcases o.fre x h with q|q
  ·exact .inr (.inl q)
  ·exact .inr (.inr q)
theorem Ok.gl(o:Ok CX G E sc N all X){x:Str}(h:jP sc x=true):Gl X x:=by
 unfold jP at h;rw[beq_iff_eq]at h;exact o.glo x h
theorem eH{x:Str}(h:oi x=true):(x==("__debug__":Str))=false/\(x==("__classdict__":Str))=false:=by
 unfold oi at h;rw[ah,beq_iff_eq,beq_iff_eq]at h;exact h
theorem BA:∀op,OpR X (eN op) (iy X.K op)
 |.Add=>op_add.or (Ax.or (op_cat.or (op_catT.or op_cat0)))
 |.Sub=>op_sub
 |.Mult=>op_mul
 |.Mod=>op_mod
 |.FloorDiv=>op_fdiv
 |.Pow=>op_pow
 |.RShift=>op_shr
 |.MatMult=>fun _ _ _ _ _ _ _ _ _ _ _ _ h=>h.elim
 |.Div=>fun _ _ _ _ _ _ _ _ _ _ _ _ h=>h.elim
 |.LShift=>op_shl
 |.BitOr=>fun _ _ _ _ _ _ _ _ _ _ _ _ h=>h.elim
 |.BitXor=>op_xor
 |.BitAnd=>op_and
theorem mf(hu:X.A.units+50<cLine):∀op,OpR X (cY op) (fX X.K op)
 |.Eq=>op_eqD (by omega)
 |.NotEq=>op_neD (by omega)
 |.Lt=>op_lt
 |.LtE=>op_le
 |.Gt=>op_gt
 |.GtE=>op_ge
 |.Is=>op_isN
 |.IsNot=>op_notN
 |.In=>Di.or Dj
 |.NotIn=>wI.or wJ
theorem rUn_ok:∀op,UnR X (unaryOp op) (rUn X.K op)
 |.USub=>un_neg
 |.Not=>fun _ _ _ _ _ _ _ _ _ h=>h.elim
 |.UAdd=>fun _ _ _ _ _ _ _ _ _ h=>h.elim
 |.Invert=>fun _ _ _ _ _ _ _ _ _ h=>h.elim
theorem rSlc_ok:SlR X (rSlc X.K):=sl_list.or sl_str
theorem Fz(hc:X.calm=true)(hu:X.A.units+50<cLine):∀b,eL X (Bf.val b) (rBf X.K b)
 |.len=>xp.or (xo.or Q.uv)
 |.isinstance=>qj.or oJ
 |.all=>Hy hc
 |.any=>Hx hc
 |.list=>xm
 |.tuple=>uu
 |.set=>Q.DS hc
 |.min=>pO hc
 |.sum=>Hv hc
 |.int=>DW
 |.lend=>zg
 |.sorti=>Q.xl
 |.sortl=>Q.xk
 |.sortt=>Q.xj (by omega)
 |.minl=>Q.DT hc (by omega)
 |.maxl=>Q.DU hc (by omega)
 |.isx=>oH
theorem Mm.slot:∀m:Mm,Slot "list" m.name m.id
 |.append=>PySem.F.slot_list_append|.clear=>PySem.F.slot_list_clear|.reverse=>PySem.F.slot_list_reverse|.pop=>PySem.F.slot_list_pop|.index=>PySem.F.slot_list_index
theorem Mm.ty:∀m:Mm,typeOf (.builtin m.id)=pure (.type "method_descriptor")
 |.append=>PySem.F.type_list_append|.clear=>PySem.F.type_list_clear|.reverse=>PySem.F.type_list_reverse|.pop=>PySem.F.type_list_pop|.index=>PySem.F.type_list_index
theorem Fy:∀m:Mm,MtR X m.id (rMm m)
 |.append=>Du|.clear=>fun _ _ _ _ _ _ _ _ _ _ _ _ h=>h.elim|.reverse=>fun _ _ _ _ _ _ _ _ _ _ _ _ h=>h.elim|.pop=>MtR.or mt_pop Gf|.index=>fun _ _ _ _ _ _ _ _ _ _ _ _ h=>h.elim
theorem xw{o:Expr}(h:baseOk o=true)(nm:Str)(env:Env)(t:Sem Value):HS o nm env t=t:=by
 cases o<;>first
  |rfl
  | (exact absurd h (by simp[baseOk]))
theorem bC{c:CE}{e:Expr}(h:ba sc N c e=true)(es:List Expr)(env:Env):aK (e::es) env=(false,eval e env)::aK es env:=by
 cases e<;>first
  |rfl
  | (cases c<;>exact absurd h (by simp[ba]))
theorem dM{c:CE}{r:CL}{es:List Expr}(h:ku sc N (.cons c r) es=true):∃e' r',es=e'::r'/\ba sc N c e'=true/\ku sc N r r'=true:=by
 cases es with
 |nil=>exact absurd h (by simp[ku])
 |cons e' r'=>
  have h':(ba sc N c e'&&ku sc N r r')=true:=h;rw[ah]at h';exact⟨e',r',rfl,h'⟩
theorem eJ{es:List Expr}(h:ku sc N .nil es=true):es=[]:=by
 cases es with
 |nil=>rfl
 |cons e' r'=>exact absurd h (by simp[ku])
theorem d3:∀{l:CL}{es:List Expr},ku sc N l es=true->∀(env:Env)(pos:Pos),(backTo pos (aK es env)).any (·.1)=false
 |.nil,es,h,env,pos=>by rw[eJ h];rfl
 |.cons c r,es,h,env,pos=>by
  obtain⟨e',r',rfl,h1,h2⟩:=dM h;rw[bC h1];show(false||(backTo pos (aK r' env)).any (·.1))=false;rw[d3 h2];rfl
theorem zd:∀{l:CL}{es:List Expr},ku sc N l es=true->es.length=l.len
 |.nil,es,h=>by rw[eJ h];rfl
 |.cons c r,es,h=>by
  obtain⟨e',r',rfl,h1,h2⟩:=dM h;rw[bJ,zd h2,CL.len]
theorem wM{e:Expr}(h:isSet e=false)(env:Env):∀x,iZ e env x=pure x:=by
 intro x;cases e<;>first
  |rfl
  | (exact absurd h (by simp[isSet]))
theorem mj{e:Expr}(h:isSet e=false)(op:CmpOp):HR op e=false:=by
 cases e<;>first
  |rfl
  | (exact absurd h (by simp[isSet]))
theorem rS{e:Expr}(h:mn e=false):Ck e:=by
 intro o i;cases e<;>first
  |rfl
  | (exact absurd h (by simp[mn]))
theorem om{e:Expr}(h:pH e=false)(t:Option Expr)(l:Nat)(env:Env):nH e t l env=pure false:=by
 cases e<;>first
  |rfl
  | (exact absurd h (by simp[pH]))
theorem wy{e:Expr}{t:TE}(h:PE X e t)(he:∀whole,isTrue e X.env whole=(do let v<-whole;xF e.pos;holding [v] (truthy v))):PT X e (x6 X.K t):=oa h he
theorem pi_any{tg l:Expr}{tl:TE}(hl:PE X l tl):PI X tg l (DJ X.K tl):=by
 intro pins s σ H R I h;refine thn (hl pins s σ H _ I h) fun v s1 ⟨x,H1,I1,r1,q1⟩=>?_;have key:∀{tl':TE}{wi:TI},True:=fun{_ _}=>trivial;rcases q1 with q1|q1|q1
 ·obtain⟨a,e,⟨xs,hq⟩,q⟩:=q1
  subst e;cases r1;obtain⟨its,rv,p,hz⟩:=I1.list hq;refine iV p.isList ?_;refine⟨s1.heap.objs.size,[s1.heap.objs.size],_,_,H1,rfl,I1.kept (t':=s1.toks) fun b o e=>af _ e,uD a _,⟨_,au _ rfl,rfl,rfl⟩,fun b hb=>?_,q⟩;have e:b=s1.heap.objs.size:=by simpa using hb
  subst e;exact I1.wZ (aw _) (I1.hok.fresh (aw _))
 ·obtain⟨a,e,⟨xs,hq⟩,q⟩:=q1
  subst e;cases r1;obtain⟨its,rv,p,hz⟩:=I1.tuple hq;refine fW (show s1.heap.IsTuple a its.toArray from p) ?_;refine⟨s1.heap.objs.size,[s1.heap.objs.size],_,_,H1,rfl,I1.kept (t':=s1.toks) fun b o e=>af _ e,rp a _,⟨_,au _ rfl,rfl,rfl⟩,fun b hb=>?_,q⟩;have e:b=s1.heap.objs.size:=by simpa using hb
  subst e;exact I1.wZ (aw _) (I1.hok.fresh (aw _))
 ·obtain⟨z,e,q⟩:=q1
  subst e;obtain⟨t,rfl⟩:=r1;refine wpAny_pyIter_strU ?_;refine⟨s1.heap.objs.size,[s1.heap.objs.size],_,_,H1,rfl,I1.kept (t':=s1.toks) fun b o e=>af _ e,EH z _ t,⟨_,au _ rfl,rfl,rfl⟩,fun b hb=>?_,q⟩;have e:b=s1.heap.objs.size:=by simpa using hb
  subst e;exact I1.wZ (aw _) (I1.hok.fresh (aw _))
end
set_option maxHeartbeats 4000000
section
variable {CX:CXT}{G:Gam}
structure mr(sc sc':Scope)(N own:List Str)(fr:List Nat):Prop where
 kind:sc'.kind=.function
 cellk:∀y∈sc'.names,y.2=.cell->sc'.names.lookup y.1=some .cell
 own1:∀y∈sc'.names,y.2=.local ->sc'.names.lookup y.1=some .local
 free:∀y∈sc'.names,y.2=.free->sc.names.lookup y.1=some .cell\/sc.names.lookup y.1=some .free
 nd:(namesOf N own fr).Nodup
 fr:∀j∈fr,j<N.length/\sc'.names.lookup (N.getD j "")=some .free
 own2:∀x∈own,sc'.names.lookup x=some .local \/sc'.names.lookup x=some .cell
theorem rN{sc sc':Scope}{N own:List Str}{fr:List Nat}(h:wK sc sc' N own fr=true):mr sc sc' N own fr:=by
 unfold wK at h;simp only[ah,bK,decide_eq_true_eq,beq_iff_eq,cD]at h;obtain⟨⟨⟨⟨⟨⟨h1,h2⟩,h3⟩,h4⟩,h5⟩,h6⟩,h7⟩:=h;exact⟨h1,h2,h3,h4,h5,h6,h7⟩
theorem mr.comp{E:XS}{sc sc':Scope}{N own:List Str}{fr:List Nat}{all:Bool}{X:Cx}(S:mr sc sc' N own fr)(o:Ok CX G E sc N all X):mw X (namesOf N own fr) sc':=
 ⟨S.kind,S.cellk,S.own1,fun y hy hf=>by
  rcases S.free y hy hf with q|q
  ·exact .inl (o.cel _ q)
  ·exact o.fre _ q⟩
theorem mr.mkOk{E:XS}{sc sc':Scope}{N own:List Str}{fr:List Nat}{all:Bool}{X:Cx}(S:mr sc sc' N own fr)(o:Ok CX G E sc N all X):MkOk X (namesOf N own fr) sc' (me own fr):=by
 intro σ hl;refine⟨by simp[me,namesOf],fun i x v h1 h2=>?_⟩;unfold me at h2;unfold namesOf at h1;by_cases hi:i<own.length
 ·rw[gB (by simpa using hi),aF]at h2
  cases q:own[i]? with
  |none=>rw[q]at h2;cases h2
  |some z=>rw[q]at h2;cases h2
 ·rw[eE (by simpa using hi),aF,ao]at h2
  rw[eE (by simpa using hi),aF]at h1;cases q:fr[i-own.length]? with
  |none=>rw[q]at h2;cases h2
  |some j=>
   rw[q]at h1 h2;have hx:N.getD j ""=x:=aY h1;have hv:(σ[j]?).getD none=some v:=aY h2;obtain⟨hj,hf⟩:=S.fr j (aU q);refine⟨by rw[<-hx];exact hf,j,?_,?_⟩
   ·rw[o.names,<-hx,aj,ag hj];rfl
   ·cases w:σ[j]? with
    |none=>rw[w]at hv;cases hv
    |some z=>rw[w]at hv;exact congrArg some hv
noncomputable abbrev HX(CX:CXT):Prop:=∀o H s e s',CX o H s E0 e s'->False
theorem Ok.comp{E:XS}{sc sc':Scope}{N own:List Str}{fr:List Nat}{all:Bool}{X:Cx}(hCX:HX CX)(S:mr sc sc' N own fr)(o:Ok CX G E sc N all X)(C:Addr)(s₀:Shared)(H₀:Hp)(fp:List Addr):
  Ok CX G N0 sc' (namesOf N own fr) false (dG X (namesOf N own fr) sc' C s₀ H₀ fp) where
 names:=rfl
 nd:=S.nd
 loc:=fun x h=>lookup_relabel_local (env:=X.env) h
 cel:=fun x h=>fQ (env:=X.env) h (by decide)
 own:=fun x h=>cE.mpr ⟨(x,.cell),bf h,by simp⟩
 fre:=fun x h=>(fY (env:=X.env) h).symm
 glo:=fun x h=>fQ (env:=X.env) h (by decide)
 all:=fun h=>absurd h (by decide)
 calm:=o.calm
 hu:=o.hu
 val:=o.val
 fn:=o.fn
 ini:=o.ini
 dic:=o.dic
 blt:=o.blt
 px:=PassesOwn.never
 pass:=fun _ _ _ _ _ _ _ h=>(hCX _ _ _ _ _ h).elim
 made:=fun _ _ _ _ _ _ _ _ _ _ h=>h.elim
 madeX:=fun _ _ _ _ _ _ _ _ _ h=>h.elim
 cx:=o.cx
 top:=fun h=>absurd h (by decide)
theorem oj{sc:Scope}{N:List Str}{all:Bool}{g:CG}{e:Expr}(h:lW sc N all g e=true)(es:List Expr)(env:Env):gK (e::es) env=(false,assign e env)::gK es env:=by
 cases e<;>first
  |rfl
  | (cases g<;>exact absurd h (by simp[lW]))
theorem sV{sc:Scope}{N:List Str}{all:Bool}{g:CG}{r:CGs}{es:List Expr}(h:mQ sc N all (.cons g r) es=true):∃e' r',es=e'::r'/\lW sc N all g e'=true/\mQ sc N all r r'=true:=by
 cases es with
 |nil=>exact absurd h (by simp[mQ])
 |cons e' r'=>
  have h':(lW sc N all g e'&&mQ sc N all r r')=true:=h;rw[ah]at h';exact⟨e',r',rfl,h'⟩
theorem vh{sc:Scope}{N:List Str}{all:Bool}{es:List Expr}(h:mQ sc N all .nil es=true):es=[]:=by
 cases es with
 |nil=>rfl
 |cons e' r'=>exact absurd h (by simp[mQ])
theorem qi{sc:Scope}{N:List Str}{all:Bool}:∀{gs:CGs}{es:List Expr},mQ sc N all gs es=true->∀env,(gK es env).length=gs.len/\(gK es env).findIdx? (·.1)=none
 |.nil,es,h,env=>by rw[vh h];exact⟨rfl,rfl⟩
 |.cons g r,es,h,env=>by
  obtain⟨e',r',rfl,h1,h2⟩:=sV h;obtain⟨a,b⟩:=qi h2 env;rw[oj h1];refine⟨by rw[bJ,a,CGs.len],?_⟩;rw[List.findIdx?_cons];simp[b]
end
section
variable {CX:CXT}{G:Gam}
theorem fZ{a b c:Bool}(h:(a&&b&&c)=true):a=true/\b=true/\c=true:=by
 simp only[ah]at h;exact⟨h.1.1,h.1.2,h.2⟩
theorem lH{a:Bool}(h:(!a)=true):a=false:=by simpa using h
noncomputable abbrev IHE(CX:CXT)(G:Gam)(c:CE):Prop:=∀(e:Expr){E:XS}{sc:Scope}{N:List Str}{all:Bool}{X:Cx},Ok CX G E sc N all X->ba sc N c e=true->PE X e (wpE G X.K E c)
noncomputable abbrev IHT(CX:CXT)(G:Gam)(c:CE):Prop:=∀(e:Expr){E:XS}{sc:Scope}{N:List Str}{all:Bool}{X:Cx},Ok CX G E sc N all X->ba sc N c e=true->PT X e (wpT G X.K E c)
noncomputable abbrev IHW(CX:CXT)(G:Gam)(c:CE):Prop:=∀(op:BoolOp)(es:List Expr)(pos:Pos){E:XS}{sc:Scope}{N:List Str}{all:Bool}{X:Cx},Ok CX G E sc N all X->ba sc N c (.BoolOp op es pos)=true->PW X (.BoolOp op es pos) (wpT G X.K E c)
noncomputable abbrev IHL(CX:CXT)(G:Gam)(c:CL):Prop:=∀(es:List Expr){E:XS}{sc:Scope}{N:List Str}{all:Bool}{X:Cx},Ok CX G E sc N all X->ku sc N c es=true->PA X es (wpL G X.K E c)
noncomputable abbrev IHP(CX:CXT)(G:Gam)(c:CP):Prop:=∀(ks:List (Option Expr))(vs:List Expr){E:XS}{sc:Scope}{N:List Str}{all:Bool}{X:Cx},Ok CX G E sc N all X->zc sc N c ks vs=true->∀pos,
  PPs X pos ks vs (wpP G X.K E c)/\ks.all (·.isSome)=true/\ks.length=vs.length/\(c≠.nil->ks≠[])
noncomputable abbrev IHO(CX:CXT)(G:Gam)(c:CO):Prop:=∀(e:Option Expr){E:XS}{sc:Scope}{N:List Str}{all:Bool}{X:Cx},Ok CX G E sc N all X->Ho sc N c e=true->PO X e (wpO G X.K E c)
noncomputable abbrev IHC(CX:CXT)(G:Gam)(c:CO):Prop:=∀(es:List Expr){E:XS}{sc:Scope}{N:List Str}{all:Bool}{X:Cx},Ok CX G E sc N all X->chkC sc N c es=true->PTs X es (wpC G X.K E c)
noncomputable abbrev IHG(CX:CXT)(G:Gam)(c:CG):Prop:=∀(e:Expr){E:XS}{sc:Scope}{N:List Str}{all:Bool}{X:Cx},Ok CX G E sc N all X->lW sc N all c e=true->PG X e (wpG G X.K E c)
noncomputable abbrev HK(CX:CXT)(G:Gam)(c:CGs):Prop:=∀(es:List Expr){E:XS}{sc:Scope}{N:List Str}{all:Bool}{X:Cx},Ok CX G E sc N all X->mQ sc N all c es=true->PGs X es (wpGs G X.K E c)
noncomputable abbrev IHI(CX:CXT)(G:Gam)(c:CI):Prop:=∀(e tg:Expr){E:XS}{sc:Scope}{N:List Str}{all:Bool}{X:Cx},Ok CX G E sc N all X->xi sc N c e tg=true->PI X tg e (wpI G X.K E c)
theorem sE_var(hCX:HX CX){i:Nat}:IHE CX G (.var i):=by
  intro e E sc N all X o h;unfold ba at h;split at h
  ·obtain⟨h1,h2,h3⟩:=fZ h
   obtain⟨d1,d2⟩:=eH h3;exact Ao (by rw[o.names];exact beq_iff_eq.mp h1) (o.vis h2) d1 d2
  ·cases h
theorem Fl(hCX:HX CX){c:Const}:IHE CX G (.con c):=by
  intro e E sc N all X o h;unfold ba at h;split at h
  ·rw[ah,decide_eq_true_eq]at h
   obtain⟨h1,rfl⟩:=h;cases c with
   |none=>exact FR
   |bool b=>exact pe_bl
   |int i=>exact FV
   |str x=>exact FN
   |_=>exact absurd h1 (by simp[F8])
  ·cases h
theorem sE_glo(hCX:HX CX){x:Str}:IHE CX G (.glo x):=by
  intro e E sc N all X o h;unfold ba at h;split at h
  ·obtain⟨h1,h2,h3⟩:=fZ h
   rw[decide_eq_true_eq]at h1;subst h1;intro pins s σ H Q I hw;obtain⟨v,hv,q⟩:=hw;obtain⟨u,hu,r⟩:=o.val _ _ hv;exact wC (o.gl h2) hu r (eH h3).1 pins s σ H Q I q
  ·cases h
theorem sE_ty(hCX:HX CX){t:Ty}:IHE CX G (.ty t):=by
  intro e E sc N all X o h;unfold ba at h;split at h
  ·rw[ah,decide_eq_true_eq]at h
   obtain⟨h1,h2⟩:=h;subst h1;exact BH (o.gl h2) (o.blt _ t.mem) t.boot rfl t.plain.1 t.plain.2
  ·cases h
theorem sE_bin(hCX:HX CX){op:Operator}{a:CE}{b:CE}(iE_a:IHE CX G a)(iE_b:IHE CX G b):IHE CX G (.bin op a b):=by
  intro e E sc N all X o h;unfold ba at h;split at h
  ·obtain⟨h1,h2,h3⟩:=fZ h
   rw[decide_eq_true_eq]at h1;subst h1;exact pe_op (BA op) (iE_a _ o h2) (iE_b _ o h3)
  ·cases h
theorem sE_un(hCX:HX CX){op:Co}{a:CE}(iE_a:IHE CX G a):IHE CX G (.un op a):=by
  intro e E sc N all X o h;unfold ba at h;split at h
  ·rw[ah,decide_eq_true_eq]at h
   obtain⟨h1,h2⟩:=h;subst h1;exact pe_un (rUn_ok op) (iE_a _ o h2)
  ·cases h
theorem sE_cmp(hCX:HX CX){op:CmpOp}{a:CE}{b:CE}(iE_a:IHE CX G a)(iE_b:IHE CX G b):IHE CX G (.cmp op a b):=by
  intro e E sc N all X o h;unfold ba at h;split at h
  ·rw[ah]at h
   obtain⟨h,h4⟩:=h;obtain⟨h1,h2,h3⟩:=fZ h;rw[decide_eq_true_eq]at h1;subst h1;exact pe_cmpR (mf o.hu op) (iE_a _ o h3) (iE_b _ o h4) (mj (lH h2) op)
  ·cases h
theorem Fn(hCX:HX CX){o1:CmpOp}{o2:CmpOp}{a:CE}{b:CE}{c:CE}(iE_a:IHE CX G a)(iE_b:IHE CX G b)(iE_c:IHE CX G c):IHE CX G (.chain o1 o2 a b c):=by
  intro e E sc N all X o h;unfold ba at h;split at h
  ·simp only[ah,decide_eq_true_eq]at h
   obtain⟨⟨⟨⟨⟨h1,h2⟩,h3⟩,h4⟩,h5⟩,h6⟩:=h;subst h1 h2;exact FZ (mf o.hu o1) (mf o.hu o2) (iE_a _ o h4) (iE_b _ o h5) (iE_c _ o h6) (mj (lH h3) o2)
  ·cases h
theorem sE_not(hCX:HX CX){a:CE}(iE_a:IHE CX G a):IHE CX G (.not a):=by
  intro e E sc N all X o h;unfold ba at h;split at h
  ·skip
   exact pe_not (iE_a _ o h)
  ·cases h
theorem sE_and(hCX:HX CX){a:CE}{b:CE}(iE_a:IHE CX G a)(iE_b:IHE CX G b):IHE CX G (.and a b):=by
  intro e E sc N all X o h;unfold ba at h;split at h
  ·rw[ah]at h
   exact F4 (iE_a _ o h.1) (FQ (iE_b _ o h.2))
  ·rw[ah]at h
   exact F4 (iE_a _ o h.1) (iE_b _ o h.2)
  ·cases h
theorem sE_or(hCX:HX CX){a:CE}{b:CE}(iE_a:IHE CX G a)(iE_b:IHE CX G b):IHE CX G (.or a b):=by
  intro e E sc N all X o h;unfold ba at h;split at h
  ·rw[ah]at h
   exact pe_or (iE_a _ o h.1) (FQ (iE_b _ o h.2))
  ·rw[ah]at h
   exact pe_or (iE_a _ o h.1) (iE_b _ o h.2)
  ·cases h
theorem sE_ite(hCX:HX CX){c:CE}{a:CE}{b:CE}(iT_c:IHT CX G c)(iE_a:IHE CX G a)(iE_b:IHE CX G b):IHE CX G (.ite c a b):=by
  intro e E sc N all X o h;unfold ba at h;split at h
  ·obtain⟨h1,h2,h3⟩:=fZ h
   exact FW (iT_c _ o h1) (iE_a _ o h2) (iE_b _ o h3)
  ·cases h
theorem sE_idx(hCX:HX CX){a:CE}{i:CE}(iE_a:IHE CX G a)(iE_i:IHE CX G i):IHE CX G (.idx a i):=by
  intro e E sc N all X o h;unfold ba at h;split at h
  ·obtain⟨h1,h2,h3⟩:=fZ h
   exact FU GS (iE_a _ o h2) (iE_i _ o h3) (rS (lH h1))
  ·cases h
theorem sE_cut(hCX:HX CX){a:CE}{lo:CO}{hi:CO}(iE_a:IHE CX G a)(iO_lo:IHO CX G lo)(iO_hi:IHO CX G hi):IHE CX G (.cut a lo hi):=by
  intro e E sc N all X o h;unfold ba at h;split at h
  ·obtain⟨h1,h2,h3⟩:=fZ h
   exact FP rSlc_ok (iE_a _ o h1) (iO_lo _ o h2) (iO_hi _ o h3)
  ·cases h
theorem sE_tup(hCX:HX CX){es:CL}(iL_es:IHL CX G es):IHE CX G (.tup es):=by
  intro e E sc N all X o h;unfold ba at h;split at h
  ·skip
   exact FL (iL_es _ o h)
  ·cases h
theorem sE_lst(hCX:HX CX){es:CL}(iL_es:IHL CX G es):IHE CX G (.lst es):=by
  intro e E sc N all X o h;unfold ba at h;split at h
  ·skip
   exact FT (iL_es _ o h)
  ·cases h
theorem sE_dic(hCX:HX CX){ps:CP}(iP_ps:IHP CX G ps):IHE CX G (.dic ps):=by
  intro e E sc N all X o h;unfold ba at h;split at h
  ·rename_i ks' vs' pos
   rw[ah,decide_eq_true_eq]at h;obtain⟨h1,h2⟩:=h;intro pins s σ H Q I hw;rcases hw with⟨e1,hw⟩ |⟨e1,hw⟩
   ·subst e1
    have q:ks'=[]/\vs'=[]:=by
     cases ks' with
     |nil=>cases vs' with
      |nil=>exact⟨rfl,rfl⟩
      |cons a b=>exact absurd h1 (by simp[zc])
     |cons a b=>exact absurd h1 (by simp[zc])
    obtain⟨rfl,rfl⟩:=q;exact FY pins s σ H Q I hw
   ·obtain⟨p1,p2,p3,p4⟩:=iP_ps ks' vs' o h1 pos
    exact pe_disp p1 p2 p3 (p4 e1) h2 pins s σ H Q I hw
  ·cases h
theorem sE_call(hCX:HX CX){f:Str}{es:CL}(iL_es:IHL CX G es):IHE CX G (.call f es):=by
  intro e E sc N all X o h;unfold ba at h;split at h
  ·rename_i f' np es' pos
   rw[ah]at h;obtain⟨h,h4⟩:=h;obtain⟨h1,h2,h3⟩:=fZ h;rw[decide_eq_true_eq]at h1;subst h1;intro pins s σ H Q I hw;obtain⟨sp,dvs,hf,hw⟩:=hw;obtain⟨fa,fd,ps,ds,k,F,hr,hm,hk,hb,hd⟩:=o.fn _ _ _ _ hf;cases es with
   |nil=>
    have e0:=eJ h4;subst e0;exact uN F hr (o.gl h2) hm hk hb hd o.pass (eH h3).1 pins s σ H Q I hw
   |cons c r=>
    have hL:=iL_es _ o h4;obtain⟨e1,r1,rfl,g1,g2⟩:=dM h4;exact yj F hr (o.gl h2) hm hk hb hd o.pass hL (eH h3).1 (bC g1 _ _) (d3 g2 _ _) pins s σ H Q I hw
  ·cases h
theorem sE_bfn(hCX:HX CX){b:Bf}{es:CL}(iL_es:IHL CX G es):IHE CX G (.bfn b es):=by
  intro e E sc N all X o h;unfold ba at h;split at h
  ·rename_i f' np e1 es' pos
   obtain⟨h1,h2,h3⟩:=fZ h;rw[decide_eq_true_eq]at h1;subst h1;have hL:=iL_es _ o h3;have hs:aK (e1::es') X.env=(false,eval e1 X.env)::aK es' X.env/\(backTo pos (aK es' X.env)).any (·.1)=false:=by
    cases es with
    |nil=>exact absurd (eJ h3) (by simp)
    |cons c r=>
     obtain⟨e1',r1,q,g1,g2⟩:=dM h3;cases q;exact⟨bC g1 _ _,d3 g2 _ _⟩
   have hB:=Fz (X:=X) o.calm o.hu b;have hv:=b.boot;cases b with
   |list=>exact gD hB (o.gl h2) (o.blt _ (Bf.mem _)) hv hL (Bf.plain _).1 (Bf.plain _).2 hs.1 hs.2
   |tuple=>exact gD hB (o.gl h2) (o.blt _ (Bf.mem _)) hv hL (Bf.plain _).1 (Bf.plain _).2 hs.1 hs.2
   |len=>exact cf hB (o.gl h2) (o.blt _ (Bf.mem _)) hv hL (Bf.plain _).1 (Bf.plain _).2 hs.1 hs.2
   |isinstance=>exact cf hB (o.gl h2) (o.blt _ (Bf.mem _)) hv hL (Bf.plain _).1 (Bf.plain _).2 hs.1 hs.2
   |all=>exact cf hB (o.gl h2) (o.blt _ (Bf.mem _)) hv hL (Bf.plain _).1 (Bf.plain _).2 hs.1 hs.2
   |any=>exact cf hB (o.gl h2) (o.blt _ (Bf.mem _)) hv hL (Bf.plain _).1 (Bf.plain _).2 hs.1 hs.2
   |set=>exact gD hB (o.gl h2) (o.blt _ (Bf.mem _)) hv hL (Bf.plain _).1 (Bf.plain _).2 hs.1 hs.2
   |isx=>exact cf hB (o.gl h2) (o.blt _ (Bf.mem _)) hv hL (Bf.plain _).1 (Bf.plain _).2 hs.1 hs.2
   |min=>exact cf hB (o.gl h2) (o.blt _ (Bf.mem _)) hv hL (Bf.plain _).1 (Bf.plain _).2 hs.1 hs.2
   |sum=>exact cf hB (o.gl h2) (o.blt _ (Bf.mem _)) hv hL (Bf.plain _).1 (Bf.plain _).2 hs.1 hs.2
   |lend=>exact cf hB (o.gl h2) (o.blt _ (Bf.mem _)) hv hL (Bf.plain _).1 (Bf.plain _).2 hs.1 hs.2
   |sorti=>exact cf hB (o.gl h2) (o.blt _ (Bf.mem _)) hv hL (Bf.plain _).1 (Bf.plain _).2 hs.1 hs.2
   |sortl=>exact cf hB (o.gl h2) (o.blt _ (Bf.mem _)) hv hL (Bf.plain _).1 (Bf.plain _).2 hs.1 hs.2
   |sortt=>exact cf hB (o.gl h2) (o.blt _ (Bf.mem _)) hv hL (Bf.plain _).1 (Bf.plain _).2 hs.1 hs.2
   |minl=>exact cf hB (o.gl h2) (o.blt _ (Bf.mem _)) hv hL (Bf.plain _).1 (Bf.plain _).2 hs.1 hs.2
   |maxl=>exact cf hB (o.gl h2) (o.blt _ (Bf.mem _)) hv hL (Bf.plain _).1 (Bf.plain _).2 hs.1 hs.2
   |int=>exact gD hB (o.gl h2) (o.blt _ (Bf.mem _)) hv hL (Bf.plain _).1 (Bf.plain _).2 hs.1 hs.2
  ·cases h
theorem Fk(hCX:HX CX){m:Mm}{b:CE}{a:CE}(iE_b:IHE CX G b)(iE_a:IHE CX G a):IHE CX G (.meth1 m b a):=by
  intro e E sc N all X o h;unfold ba at h;split at h
  ·rename_i o' nm ap a' cp
   simp only[ah,decide_eq_true_eq]at h;obtain⟨⟨⟨⟨h1,h2⟩,h3⟩,h4⟩,h5⟩:=h;subst h1;exact F0 xV m.slot m.ty (Fy m) (iE_b _ o h4) (fU (iE_a _ o h5) jd (bC h5 _ _)) (xw h3 _ _ _) (by rw[bC h5];rfl) h2 (bC h5 _ _) rfl
  ·cases h
theorem sE_idxd(hCX:HX CX){a:CE}{i:CE}(iE_a:IHE CX G a)(iE_i:IHE CX G i):IHE CX G (.idxd a i):=by
  intro e E sc N all X o h;unfold ba at h;split at h
  ·obtain⟨h1,h2,h3⟩:=fZ h
   exact FU (ix_dict (by have :=o.hu;omega)) (iE_a _ o h2) (iE_i _ o h3) (rS (lH h1))
  ·cases h
theorem sT_idxd(hCX:HX CX){a i:CE}:IHT CX G (.idxd a i):=by
  intro _ _ _ _ _ _ _ _;exact fun _ _ _ _ _ _ z=>z.elim
theorem sW_idxd(hCX:HX CX){a i:CE}:IHW CX G (.idxd a i):=by
  intro _ _ _ _ _ _ _ _ _ h;exact absurd h (by simp[ba])
theorem sE_dicT(hCX:HX CX):IHE CX G .dicT:=by
  intro e E sc N all X o h;unfold ba at h;split at h
  ·exact FX
  ·cases h
theorem sT_dicT(hCX:HX CX):IHT CX G .dicT:=by
  intro _ _ _ _ _ _ _ _;exact fun _ _ _ _ _ _ z=>z.elim
theorem sW_dicT(hCX:HX CX):IHW CX G .dicT:=by
  intro _ _ _ _ _ _ _ _ _ h;exact absurd h (by simp[ba])
theorem sE_setd(hCX:HX CX){b a c:CE}(iE_b:IHE CX G b)(iE_a:IHE CX G a)(iE_c:IHE CX G c):IHE CX G (.setd b a c):=by
  intro e E sc N all X o h;unfold ba at h;split at h
  ·rename_i o' nm ap a' b' cp
   simp only[ah,decide_eq_true_eq]at h;obtain⟨⟨⟨⟨⟨h1,h2⟩,h3⟩,h4⟩,h5⟩,h6⟩:=h;subst h1;exact F0 PySem.F.plainAttrs_dict tL PySem.F.type_dict_setdefault (Dt (by have :=o.hu;omega)) (iE_b _ o h4) (fU (iE_a _ o h5) (fU (iE_c _ o h6) jd (bC h6 _ _)) (bC h5 _ _)) (xw h3 _ _ _) (by rw[bC h5,bC h6];rfl) h2 (bC h5 _ _) (by rw[bC h6];rfl)
  ·cases h
theorem sT_setd(hCX:HX CX){a b c:CE}:IHT CX G (.setd a b c):=by
  intro _ _ _ _ _ _ _ _;exact fun _ _ _ _ _ _ z=>z.elim
theorem sW_setd(hCX:HX CX){a b c:CE}:IHW CX G (.setd a b c):=by
  intro _ _ _ _ _ _ _ _ _ h;exact absurd h (by simp[ba])
theorem Hr{sc:Scope}{N:List Str}{l:CL}{es:List Expr}(h:ku sc N l es=true)(hl:l.len<29)(env:Env)(pos:Pos):((backTo pos (aK es env)).all (fun x=> !x.1)&&(xI pos (mz [] env)).all (fun x=>x.1.isSome)
   &&decide (es.length+([]:List Keyword).length+(if([]:List Keyword).isEmpty then 0 else 1)<30))=true:=by
 have h1:=d3 h env pos;rw[ah,ah];refine⟨⟨?_,rfl⟩,?_⟩
 ·rw[List.any_eq_false]at h1
  exact bK.mpr fun x hx=>by simpa using h1 x hx
 ·rw[decide_eq_true_eq,zd h]
  exact fJ hl (by decide)
theorem sE_base(hCX:HX CX){x:Str}{es:CL}(iL:IHL CX G es):IHE CX G (.base x es):=by
  intro e E sc N all X o h;unfold ba at h;split at h
  ·rename_i x' np nm ap e' es' cp
   simp only[ah,decide_eq_true_eq]at h;obtain⟨⟨⟨⟨⟨⟨h1,h2⟩,h3⟩,h4⟩,h5⟩,h6⟩,h7⟩:=h;subst h1;subst h3;intro pins s σ H Q I hw;obtain⟨B,hv,q⟩:=hw;obtain⟨u,hu,ru⟩:=o.val _ _ hv;obtain rfl:u=bp B:=ru;have hs:aK (e'::es') X.env=(false,eval e' X.env)::aK es' X.env/\(backTo cp (aK es' X.env)).any (·.1)=false:=by
    cases es with
    |nil=>exact absurd (eJ h7) (by simp)
    |cons c r=>
     obtain⟨e1',r1,q,g1,g2⟩:=dM h7;cases q;exact⟨bC g1 _ _,d3 g2 _ _⟩
   exact pe_base (o.gl h4) hu (iL _ o h7) (eH h5).1 hs.1 hs.2 (Hr h7 h6 _ _) h2 pins s σ H Q I q
  ·cases h
theorem sE_fld(hCX:HX CX){a:CE}{f:Str}(iE_a:IHE CX G a):IHE CX G (.fld a f):=by
  intro e E sc N all X o h;unfold ba at h;split at h
  ·rw[ah,decide_eq_true_eq]at h
   obtain⟨h1,h2⟩:=h;subst h1;exact BG (iE_a _ o h2)
  ·cases h
theorem sT_base(hCX:HX CX){x:Str}{es:CL}:IHT CX G (.base x es):=by
  intro _ _ _ _ _ _ _ _;exact fun _ _ _ _ _ _ z=>z.elim
theorem sW_base(hCX:HX CX){x:Str}{es:CL}:IHW CX G (.base x es):=by
  intro _ _ _ _ _ _ _ _ _ h;exact absurd h (by simp[ba])
theorem sT_fld(hCX:HX CX){a:CE}{f:Str}:IHT CX G (.fld a f):=by
  intro _ _ _ _ _ _ _ _;exact fun _ _ _ _ _ _ z=>z.elim
theorem sW_fld(hCX:HX CX){a:CE}{f:Str}:IHW CX G (.fld a f):=by
  intro _ _ _ _ _ _ _ _ _ h;exact absurd h (by simp[ba])
theorem sE_lrng(hCX:HX CX){a:CE}(iE_a:IHE CX G a):IHE CX G (.lrng a):=by
  intro e E sc N all X o h;unfold ba at h;split at h
  ·simp only[ah,decide_eq_true_eq]at h
   obtain⟨⟨⟨⟨h1,h2⟩,h3⟩,h4⟩,h5⟩:=h;subst h1 h2;exact pe_lrng o.calm (o.gl h4) (o.blt _ (by decide+kernel)) (o.gl h3) (o.blt _ (by decide+kernel)) (fU (iE_a _ o h5) jd (bC h5 _ _)) (bC h5 _ _)
  ·cases h
theorem sT_lrng(hCX:HX CX){a:CE}:IHT CX G (.lrng a):=by
  intro _ _ _ _ _ _ _ _;exact fun _ _ _ _ _ _ z=>z.elim
theorem sW_lrng(hCX:HX CX){a:CE}:IHW CX G (.lrng a):=by
  intro _ _ _ _ _ _ _ _ _ h;exact absurd h (by simp[ba])
theorem Ai(hCX:HX CX){a:CE}(iE_a:IHE CX G a):IHE CX G (.sortset a):=by
  intro e E sc N all X o h;unfold ba at h;split at h
  ·simp only[ah,decide_eq_true_eq]at h
   obtain⟨⟨⟨⟨h1,h2⟩,h3⟩,h4⟩,h5⟩:=h;subst h1 h2;exact Ap o.calm (o.gl h3) (o.blt _ (by decide+kernel)) (o.gl h4) (o.blt _ (by decide+kernel)) (fU (iE_a _ o h5) jd (bC h5 _ _)) (bC h5 _ _)
  ·cases h
theorem Ah(hCX:HX CX){a:CE}:IHT CX G (.sortset a):=by
  intro _ _ _ _ _ _ _ _;exact fun _ _ _ _ _ _ z=>z.elim
theorem Ag(hCX:HX CX){a:CE}:IHW CX G (.sortset a):=by
  intro _ _ _ _ _ _ _ _ _ h;exact absurd h (by simp[ba])
theorem sE_comp(hCX:HX CX){own:List Str}{fr:List Nat}{tg:CG}{it:CI}{cond:CO}{elt:CE}(iI_it:IHI CX G it)(iG_tg:IHG CX G tg)(iC_cond:IHC CX G cond)(iE_elt:IHE CX G elt):IHE CX G (.comp own fr tg it cond elt):=by
  intro e E sc N all X o h;unfold ba at h;split at h
  ·rename_i elt' tg' it' ifs' sc' pos
   simp only[ah]at h;obtain⟨⟨⟨⟨⟨h1,h2⟩,h3⟩,h4⟩,h5⟩,h6⟩:=h;have S:=rN h1;exact pe_comp (S.comp o) (S.mkOk o) o.calm (iI_it _ _ o h3)
    (fun C s₀ H₀ fp _=>⟨iG_tg _ (o.comp hCX S C s₀ H₀ fp) h4,iC_cond _ (o.comp hCX S C s₀ H₀ fp) h5,iE_elt _ (o.comp hCX S C s₀ H₀ fp) h6⟩) (wM (lH h2) _)
  ·cases h
theorem sT_cmp(hCX:HX CX){op:CmpOp}{a:CE}{b:CE}(iE_a:IHE CX G a)(iE_b:IHE CX G b):IHT CX G (.cmp op a b):=by
  intro e E sc N all X o h;unfold ba at h;split at h
  ·rw[ah]at h
   obtain⟨h,h4⟩:=h;obtain⟨h1,h2,h3⟩:=fZ h;rw[decide_eq_true_eq]at h1;subst h1;exact pt_cmpR (mf o.hu op) (iE_a _ o h3) (iE_b _ o h4) (mj (lH h2) op)
  ·cases h
theorem Ff(hCX:HX CX){o1:CmpOp}{o2:CmpOp}{a:CE}{b:CE}{c:CE}(iE_a:IHE CX G a)(iE_b:IHE CX G b)(iE_c:IHE CX G c):IHT CX G (.chain o1 o2 a b c):=by
  intro e E sc N all X o h;unfold ba at h;split at h
  ·simp only[ah,decide_eq_true_eq]at h
   obtain⟨⟨⟨⟨⟨h1,h2⟩,h3⟩,h4⟩,h5⟩,h6⟩:=h;subst h1 h2;exact FE (mf o.hu o1) (mf o.hu o2) (iE_a _ o h4) (iE_b _ o h5) (iE_c _ o h6) (mj (lH h3) o2)
  ·cases h
theorem sT_not(hCX:HX CX){a:CE}(iT_a:IHT CX G a):IHT CX G (.not a):=by
  intro e E sc N all X o h;unfold ba at h;split at h
  ·skip
   exact pt_not (iT_a _ o h)
  ·cases h
theorem sT_and(hCX:HX CX){a:CE}{b:CE}(iT_a:IHT CX G a)(iT_b:IHT CX G b)(iW_b:IHW CX G b):IHT CX G (.and a b):=by
  intro e E sc N all X o h;unfold ba at h;split at h
  ·rw[ah]at h
   exact(wx (iT_a _ o h.1) (BC (iT_b _ o h.2))).pt
  ·rw[ah]at h
   exact(wx (iT_a _ o h.1) (iW_b _ _ _ o h.2)).pt
  ·cases h
theorem sT_or(hCX:HX CX){a:CE}{b:CE}(iT_a:IHT CX G a)(iT_b:IHT CX G b)(iW_b:IHW CX G b):IHT CX G (.or a b):=by
  intro e E sc N all X o h;unfold ba at h;split at h
  ·rw[ah]at h
   exact(BB (iT_a _ o h.1) (FA (iT_b _ o h.2))).pt
  ·rw[ah]at h
   exact(BB (iT_a _ o h.1) (iW_b _ _ _ o h.2)).pt
  ·cases h
theorem sT_var(hCX:HX CX){i:Nat}:IHT CX G (.var i):=by
  intro e E sc N all X o h;have hv:=h;unfold ba at h;split at h
  ·obtain⟨h1,h2,h3⟩:=fZ h
   obtain⟨d1,d2⟩:=eH h3;exact oa (Ao (by rw[o.names];exact beq_iff_eq.mp h1) (o.vis h2) d1 d2) fun _=>rfl
  ·cases h
theorem sT_con(hCX:HX CX){c:Const}:IHT CX G (.con c):=by
  intro e E sc N all X o h;have q:=Fl hCX e o h;unfold ba at h;split at h
  ·skip
   skip
   exact oa q fun _=>rfl
  ·cases h
theorem sT_glo(hCX:HX CX){x:Str}:IHT CX G (.glo x):=by
  intro e E sc N all X o h;unfold ba at h;split at h
  ·obtain⟨h1,h2,h3⟩:=fZ h
   rw[decide_eq_true_eq]at h1;subst h1;refine wy ?_ (fun _=>rfl);intro pins s σ H Q I hw;obtain⟨v,hv,q⟩:=hw;obtain⟨u,hu,r⟩:=o.val _ _ hv;exact wC (o.gl h2) hu r (eH h3).1 pins s σ H Q I q
  ·cases h
theorem sT_idx(hCX:HX CX){a:CE}{i:CE}(iE_a:IHE CX G a)(iE_i:IHE CX G i):IHT CX G (.idx a i):=by
  intro e E sc N all X o h;unfold ba at h;split at h
  ·obtain⟨h1,h2,h3⟩:=fZ h
   exact oa (FU GS (iE_a _ o h2) (iE_i _ o h3) (rS (lH h1))) fun _=>rfl
  ·cases h
theorem sT_call(hCX:HX CX){f:Str}{es:CL}(iL_es:IHL CX G es):IHT CX G (.call f es):=by
  intro e E sc N all X o h;unfold ba at h;split at h
  ·rename_i f' np es' pos
   rw[ah]at h;obtain⟨h,h4⟩:=h;obtain⟨h1,h2,h3⟩:=fZ h;rw[decide_eq_true_eq]at h1;subst h1;refine wy ?_ (fun _=>rfl);intro pins s σ H Q I hw;obtain⟨sp,dvs,hf,hw⟩:=hw;obtain⟨fa,fd,ps,ds,k,F,hr,hm,hk,hb,hd⟩:=o.fn _ _ _ _ hf;cases es with
   |nil=>
    have e0:=eJ h4;subst e0;exact uN F hr (o.gl h2) hm hk hb hd o.pass (eH h3).1 pins s σ H Q I hw
   |cons c r=>
    have hL:=iL_es _ o h4;obtain⟨e1,r1,rfl,g1,g2⟩:=dM h4;exact yj F hr (o.gl h2) hm hk hb hd o.pass hL (eH h3).1 (bC g1 _ _) (d3 g2 _ _) pins s σ H Q I hw
  ·cases h
theorem sT_bfn(hCX:HX CX){b:Bf}{es:CL}(iL_es:IHL CX G es):IHT CX G (.bfn b es):=by
  intro e E sc N all X o h;unfold ba at h;split at h
  ·rename_i f' np e1 es' pos
   obtain⟨h1,h2,h3⟩:=fZ h;rw[decide_eq_true_eq]at h1;subst h1;have hL:=iL_es _ o h3;have hs:aK (e1::es') X.env=(false,eval e1 X.env)::aK es' X.env/\(backTo pos (aK es' X.env)).any (·.1)=false:=by
    cases es with
    |nil=>exact absurd (eJ h3) (by simp)
    |cons c r=>
     obtain⟨e1',r1,q,g1,g2⟩:=dM h3;cases q;exact⟨bC g1 _ _,d3 g2 _ _⟩
   have hB:=Fz (X:=X) o.calm o.hu b;have hv:=b.boot;refine wy ?_ (fun _=>rfl);cases b with
   |list=>exact gD hB (o.gl h2) (o.blt _ (Bf.mem _)) hv hL (Bf.plain _).1 (Bf.plain _).2 hs.1 hs.2
   |tuple=>exact gD hB (o.gl h2) (o.blt _ (Bf.mem _)) hv hL (Bf.plain _).1 (Bf.plain _).2 hs.1 hs.2
   |len=>exact cf hB (o.gl h2) (o.blt _ (Bf.mem _)) hv hL (Bf.plain _).1 (Bf.plain _).2 hs.1 hs.2
   |isinstance=>exact cf hB (o.gl h2) (o.blt _ (Bf.mem _)) hv hL (Bf.plain _).1 (Bf.plain _).2 hs.1 hs.2
   |all=>exact cf hB (o.gl h2) (o.blt _ (Bf.mem _)) hv hL (Bf.plain _).1 (Bf.plain _).2 hs.1 hs.2
   |any=>exact cf hB (o.gl h2) (o.blt _ (Bf.mem _)) hv hL (Bf.plain _).1 (Bf.plain _).2 hs.1 hs.2
   |set=>exact gD hB (o.gl h2) (o.blt _ (Bf.mem _)) hv hL (Bf.plain _).1 (Bf.plain _).2 hs.1 hs.2
   |isx=>exact cf hB (o.gl h2) (o.blt _ (Bf.mem _)) hv hL (Bf.plain _).1 (Bf.plain _).2 hs.1 hs.2
   |min=>exact cf hB (o.gl h2) (o.blt _ (Bf.mem _)) hv hL (Bf.plain _).1 (Bf.plain _).2 hs.1 hs.2
   |sum=>exact cf hB (o.gl h2) (o.blt _ (Bf.mem _)) hv hL (Bf.plain _).1 (Bf.plain _).2 hs.1 hs.2
   |lend=>exact cf hB (o.gl h2) (o.blt _ (Bf.mem _)) hv hL (Bf.plain _).1 (Bf.plain _).2 hs.1 hs.2
   |sorti=>exact cf hB (o.gl h2) (o.blt _ (Bf.mem _)) hv hL (Bf.plain _).1 (Bf.plain _).2 hs.1 hs.2
   |sortl=>exact cf hB (o.gl h2) (o.blt _ (Bf.mem _)) hv hL (Bf.plain _).1 (Bf.plain _).2 hs.1 hs.2
   |sortt=>exact cf hB (o.gl h2) (o.blt _ (Bf.mem _)) hv hL (Bf.plain _).1 (Bf.plain _).2 hs.1 hs.2
   |minl=>exact cf hB (o.gl h2) (o.blt _ (Bf.mem _)) hv hL (Bf.plain _).1 (Bf.plain _).2 hs.1 hs.2
   |maxl=>exact cf hB (o.gl h2) (o.blt _ (Bf.mem _)) hv hL (Bf.plain _).1 (Bf.plain _).2 hs.1 hs.2
   |int=>exact gD hB (o.gl h2) (o.blt _ (Bf.mem _)) hv hL (Bf.plain _).1 (Bf.plain _).2 hs.1 hs.2
  ·cases h
theorem sT_ite(hCX:HX CX){c:CE}{a:CE}{b:CE}:IHT CX G (.ite c a b):=by
  intro _ _ _ _ _ _ _ _;exact fun _ _ _ _ _ _ z=>z.elim
theorem sT_ty(hCX:HX CX){t:Ty}:IHT CX G (.ty t):=by
  intro _ _ _ _ _ _ _ _;exact fun _ _ _ _ _ _ z=>z.elim
theorem sT_bin(hCX:HX CX){op:Operator}{a:CE}{b:CE}:IHT CX G (.bin op a b):=by
  intro _ _ _ _ _ _ _ _;exact fun _ _ _ _ _ _ z=>z.elim
theorem sT_un(hCX:HX CX){op:Co}{a:CE}:IHT CX G (.un op a):=by
  intro _ _ _ _ _ _ _ _;exact fun _ _ _ _ _ _ z=>z.elim
theorem sT_cut(hCX:HX CX){a:CE}{lo:CO}{hi:CO}:IHT CX G (.cut a lo hi):=by
  intro _ _ _ _ _ _ _ _;exact fun _ _ _ _ _ _ z=>z.elim
theorem sT_tup(hCX:HX CX){es:CL}:IHT CX G (.tup es):=by
  intro _ _ _ _ _ _ _ _;exact fun _ _ _ _ _ _ z=>z.elim
theorem sT_lst(hCX:HX CX){es:CL}:IHT CX G (.lst es):=by
  intro _ _ _ _ _ _ _ _;exact fun _ _ _ _ _ _ z=>z.elim
theorem sT_dic(hCX:HX CX){ps:CP}:IHT CX G (.dic ps):=by
  intro _ _ _ _ _ _ _ _;exact fun _ _ _ _ _ _ z=>z.elim
theorem Fe(hCX:HX CX){m:Mm}{b:CE}{a:CE}:IHT CX G (.meth1 m b a):=by
  intro _ _ _ _ _ _ _ _;exact fun _ _ _ _ _ _ z=>z.elim
theorem sT_comp(hCX:HX CX){own:List Str}{fr:List Nat}{tg:CG}{it:CI}{cond:CO}{elt:CE}:IHT CX G (.comp own fr tg it cond elt):=by
  intro _ _ _ _ _ _ _ _;exact fun _ _ _ _ _ _ z=>z.elim
theorem sW_and(hCX:HX CX){a:CE}{b:CE}(iT_a:IHT CX G a)(iT_b:IHT CX G b)(iW_b:IHW CX G b):IHW CX G (.and a b):=by
  intro op es pos E sc N all X o h;unfold ba at h;split at h
  ·rename_i heq
   cases heq;rw[ah]at h;exact wx (iT_a _ o h.1) (BC (iT_b _ o h.2))
  ·rename_i heq
   cases heq;rw[ah]at h;exact wx (iT_a _ o h.1) (iW_b _ _ _ o h.2)
  ·cases h
theorem sW_or(hCX:HX CX){a:CE}{b:CE}(iT_a:IHT CX G a)(iT_b:IHT CX G b)(iW_b:IHW CX G b):IHW CX G (.or a b):=by
  intro op es pos E sc N all X o h;unfold ba at h;split at h
  ·rename_i heq
   cases heq;rw[ah]at h;exact BB (iT_a _ o h.1) (FA (iT_b _ o h.2))
  ·rename_i heq
   cases heq;rw[ah]at h;exact BB (iT_a _ o h.1) (iW_b _ _ _ o h.2)
  ·cases h
theorem sW_var(hCX:HX CX){i:Nat}:IHW CX G (.var i):=by
  intro _ _ _ _ _ _ _ _ _ h;exact absurd h (by simp[ba])
theorem sW_con(hCX:HX CX){c:Const}:IHW CX G (.con c):=by
  intro _ _ _ _ _ _ _ _ _ h;exact absurd h (by simp[ba])
theorem sW_glo(hCX:HX CX){x:Str}:IHW CX G (.glo x):=by
  intro _ _ _ _ _ _ _ _ _ h;exact absurd h (by simp[ba])
theorem sW_ty(hCX:HX CX){t:Ty}:IHW CX G (.ty t):=by
  intro _ _ _ _ _ _ _ _ _ h;exact absurd h (by simp[ba])
theorem sW_bin(hCX:HX CX){op:Operator}{a:CE}{b:CE}:IHW CX G (.bin op a b):=by
  intro _ _ _ _ _ _ _ _ _ h;exact absurd h (by simp[ba])
theorem sW_un(hCX:HX CX){op:Co}{a:CE}:IHW CX G (.un op a):=by
  intro _ _ _ _ _ _ _ _ _ h;exact absurd h (by simp[ba])
theorem sW_cmp(hCX:HX CX){op:CmpOp}{a:CE}{b:CE}:IHW CX G (.cmp op a b):=by
  intro _ _ _ _ _ _ _ _ _ h;exact absurd h (by simp[ba])
theorem Fd(hCX:HX CX){o1:CmpOp}{o2:CmpOp}{a:CE}{b:CE}{c:CE}:IHW CX G (.chain o1 o2 a b c):=by
  intro _ _ _ _ _ _ _ _ _ h;exact absurd h (by simp[ba])
theorem sW_not(hCX:HX CX){a:CE}:IHW CX G (.not a):=by
  intro _ _ _ _ _ _ _ _ _ h;exact absurd h (by simp[ba])
theorem sW_ite(hCX:HX CX){c:CE}{a:CE}{b:CE}:IHW CX G (.ite c a b):=by
  intro _ _ _ _ _ _ _ _ _ h;exact absurd h (by simp[ba])
theorem sW_idx(hCX:HX CX){a:CE}{i:CE}:IHW CX G (.idx a i):=by
  intro _ _ _ _ _ _ _ _ _ h;exact absurd h (by simp[ba])
theorem sW_cut(hCX:HX CX){a:CE}{lo:CO}{hi:CO}:IHW CX G (.cut a lo hi):=by
  intro _ _ _ _ _ _ _ _ _ h;exact absurd h (by simp[ba])
theorem sW_tup(hCX:HX CX){es:CL}:IHW CX G (.tup es):=by
  intro _ _ _ _ _ _ _ _ _ h;exact absurd h (by simp[ba])
theorem sW_lst(hCX:HX CX){es:CL}:IHW CX G (.lst es):=by
  intro _ _ _ _ _ _ _ _ _ h;exact absurd h (by simp[ba])
theorem sW_dic(hCX:HX CX){ps:CP}:IHW CX G (.dic ps):=by
  intro _ _ _ _ _ _ _ _ _ h;exact absurd h (by simp[ba])
theorem sW_call(hCX:HX CX){f:Str}{es:CL}:IHW CX G (.call f es):=by
  intro _ _ _ _ _ _ _ _ _ h;exact absurd h (by simp[ba])
theorem sW_bfn(hCX:HX CX){b:Bf}{es:CL}:IHW CX G (.bfn b es):=by
  intro _ _ _ _ _ _ _ _ _ h;exact absurd h (by simp[ba])
theorem Fc(hCX:HX CX){m:Mm}{b:CE}{a:CE}:IHW CX G (.meth1 m b a):=by
  intro _ _ _ _ _ _ _ _ _ h;exact absurd h (by simp[ba])
theorem sW_comp(hCX:HX CX){own:List Str}{fr:List Nat}{tg:CG}{it:CI}{cond:CO}{elt:CE}:IHW CX G (.comp own fr tg it cond elt):=by
  intro _ _ _ _ _ _ _ _ _ h;exact absurd h (by simp[ba])
theorem sL_nil(hCX:HX CX):IHL CX G (.nil):=by
  intro es E sc N all X o h;rw[eJ h];exact jd
theorem sL_cons(hCX:HX CX){c:CE}{r:CL}(iE_c:IHE CX G c)(iL_r:IHL CX G r):IHL CX G (.cons c r):=by
  intro es E sc N all X o h;obtain⟨e',r',rfl,h1,h2⟩:=dM h;exact fU (iE_c _ o h1) (iL_r _ o h2) (bC h1 _ _)
theorem sP_nil(hCX:HX CX):IHP CX G (.nil):=by
  intro ks vs E sc N all X o h pos;have q:ks=[]/\vs=[]:=by
   cases ks with
   |nil=>cases vs with
    |nil=>exact⟨rfl,rfl⟩
    |cons a b=>exact absurd h (by simp[zc])
   |cons a b=>exact absurd h (by simp[zc])
  obtain⟨rfl,rfl⟩:=q;exact⟨pps_nil,rfl,rfl,fun z=>absurd rfl z⟩
theorem sP_cons(hCX:HX CX){k:CE}{v:CE}{r:CP}(iP_r:IHP CX G r)(iE_k:IHE CX G k)(iE_v:IHE CX G v):IHP CX G (.cons k v r):=by
  intro ks vs E sc N all X o h pos;unfold zc at h;split at h
  ·obtain⟨h1,h2,h3⟩:=fZ h
   obtain⟨p1,p2,p3,_⟩:=iP_r _ _ o h3 pos;exact⟨FI (iE_k _ o h1) (iE_v _ o h2) p1,by simp[p2],by simp[p3],fun _=>by simp⟩
  ·cases h
theorem sO_no(hCX:HX CX):IHO CX G (.no):=by
  intro e E sc N all X o h;unfold Ho at h;split at h
  ·exact po_none
  ·cases h
theorem sO_yes(hCX:HX CX){c:CE}(iE_c:IHE CX G c):IHO CX G (.yes c):=by
  intro e E sc N all X o h;unfold Ho at h;split at h
  ·exact po_some (iE_c _ o h)
  ·cases h
theorem sC_no(hCX:HX CX):IHC CX G (.no):=by
  intro e E sc N all X o h;unfold chkC at h;split at h
  ·exact pts_nil
  ·cases h
theorem sC_yes(hCX:HX CX){c:CE}(iT_c:IHT CX G c):IHC CX G (.yes c):=by
  intro e E sc N all X o h;unfold chkC at h;split at h
  ·exact pts_one (iT_c _ o h)
  ·cases h
theorem sG_name(hCX:HX CX){i:Nat}:IHG CX G (.name i):=by
  intro e E sc N all X o h;unfold lW at h;split at h
  ·rename_i x p
   rw[ah,cD,beq_iff_eq,beq_iff_eq,beq_iff_eq]at h;obtain⟨h1,h2⟩:=h;refine wB (by rw[o.names];exact o.nd) (by rw[o.names];exact h1) ?_ ?_
   ·rcases h2 with q|q
    ·exact .inl (o.loc x q)
    ·exact .inr (o.cel x q)
   ·rcases h2 with q|q
    ·exact .inr (o.loc x q)
    ·exact .inl (o.own x q)
  ·cases h
theorem sG_tup(hCX:HX CX){gs:CGs}(iGs_gs:HK CX G gs):IHG CX G (.tup gs):=by
  intro e E sc N all X o h;unfold lW at h;split at h
  ·obtain⟨a,b⟩:=qi h X.env
   exact pg_tup o.calm (iGs_gs _ o h) a b
  ·cases h
theorem sG_sub(hCX:HX CX){ob:CE}{i:CE}(iE_ob:IHE CX G ob)(iE_i:IHE CX G i):IHG CX G (.sub ob i):=by
  intro e E sc N all X o h;unfold lW at h;split at h
  ·rename_i o' i' pos
   obtain⟨h1,h2,h3⟩:=fZ h;refine pg_sub (iE_ob _ o h2) (iE_i _ o h3) set_list fun v=>?_;cases i'<;>first
    |rfl
    | (exact absurd h1 (by simp[mn]))
  ·cases h
theorem sGs_nil(hCX:HX CX):HK CX G (.nil):=by
  intro es E sc N all X o h;rw[vh h];exact pgs_nil
theorem Fj(hCX:HX CX){c:CG}{r:CGs}(iG_c:IHG CX G c)(iGs_r:HK CX G r):HK CX G (.cons c r):=by
  intro es E sc N all X o h;obtain⟨e',r',rfl,h1,h2⟩:=sV h;exact FK (iG_c _ o h1) (iGs_r _ o h2) (by rw[oj h1];rfl)
theorem sI_seq(hCX:HX CX){c:CE}(iE_c:IHE CX G c):IHI CX G (.seq c):=by
  intro e tg E sc N all X o h;unfold xi at h;exact pi_any (iE_c _ o h)
theorem sI_lseq(hCX:HX CX){c:CE}(iE_c:IHE CX G c):IHI CX G (.lseq c):=by
  intro e tg E sc N all X o h;unfold xi at h;exact pi_list (iE_c _ o h)
theorem sI_tseq(hCX:HX CX){c:CE}(iE_c:IHE CX G c):IHI CX G (.tseq c):=by
  intro e tg E sc N all X o h;unfold xi at h;exact pi_tup (iE_c _ o h)
theorem C6(hCX:HX CX){c:CE}(iE_c:IHE CX G c):IHI CX G (.range1 c):=by
  intro e tg E sc N all X o h;unfold xi at h;split at h
  ·obtain⟨h1,h2,h3⟩:=fZ h
   rw[decide_eq_true_eq]at h1;subst h1;exact De (o.gl h2) (o.blt _ (by decide+kernel)) (fU (iE_c _ o h3) jd (bC h3 _ _)) (bC h3 _ _)
  ·cases h
theorem C5(hCX:HX CX){a:CE}{b:CE}(iE_a:IHE CX G a)(iE_b:IHE CX G b):IHI CX G (.range2 a b):=by
  intro e tg E sc N all X o h;unfold xi at h;split at h
  ·rw[ah]at h
   obtain⟨h,h4⟩:=h;obtain⟨h1,h2,h3⟩:=fZ h;rw[decide_eq_true_eq]at h1;subst h1;exact Dd (o.gl h2) (o.blt _ (by decide+kernel)) (fU (iE_a _ o h3) (fU (iE_b _ o h4) jd (bC h4 _ _)) (bC h3 _ _)) (by rw[bC h3,bC h4];rfl) (bC h4 _ _)
  ·cases h
theorem Fi(hCX:HX CX){c:CE}(iE_c:IHE CX G c):IHI CX G (.enumt c):=by
  intro e tg E sc N all X o h;unfold xi at h;split at h
  ·rw[ah]at h
   obtain⟨h,h4⟩:=h;obtain⟨h1,h2,h3⟩:=fZ h;rw[decide_eq_true_eq]at h1;subst h1;cases tg<;>first
    |exact FJ (o.gl h2) (o.blt _ (by decide+kernel)) (fU (iE_c _ o h3) jd (bC h3 _ _)) (bC h3 _ _)
    | (exact absurd h4 (by simp[nr]))
  ·cases h
mutual
theorem bD(hCX:HX CX):∀c:CE,IHE CX G c
 |.var i=>sE_var hCX
 |.con c=>Fl hCX
 |.glo x=>sE_glo hCX
 |.ty t=>sE_ty hCX
 |.bin op a b=>sE_bin hCX (bD hCX a) (bD hCX b)
 |.un op a=>sE_un hCX (bD hCX a)
 |.cmp op a b=>sE_cmp hCX (bD hCX a) (bD hCX b)
 |.chain o1 o2 a b c=>Fn hCX (bD hCX a) (bD hCX b) (bD hCX c)
 |.not a=>sE_not hCX (bD hCX a)
 |.and a b=>sE_and hCX (bD hCX a) (bD hCX b)
 |.or a b=>sE_or hCX (bD hCX a) (bD hCX b)
 |.ite c a b=>sE_ite hCX (iE hCX c) (bD hCX a) (bD hCX b)
 |.idx a i=>sE_idx hCX (bD hCX a) (bD hCX i)
 |.cut a lo hi=>sE_cut hCX (bD hCX a) (E4 hCX lo) (E4 hCX hi)
 |.tup es=>sE_tup hCX (jN hCX es)
 |.lst es=>sE_lst hCX (jN hCX es)
 |.dic ps=>sE_dic hCX (E3 hCX ps)
 |.call f es=>sE_call hCX (jN hCX es)
 |.bfn b es=>sE_bfn hCX (jN hCX es)
 |.meth1 m b a=>Fk hCX (bD hCX b) (bD hCX a)
 |.idxd a i=>sE_idxd hCX (bD hCX a) (bD hCX i)
 |.dicT=>sE_dicT hCX
 |.setd b a c=>sE_setd hCX (bD hCX b) (bD hCX a) (bD hCX c)
 |.base x es=>sE_base hCX (jN hCX es)
 |.fld a f=>sE_fld hCX (bD hCX a)
 |.lrng a=>sE_lrng hCX (bD hCX a)
 |.sortset a=>Ai hCX (bD hCX a)
 |.comp own fr tg it cond elt=>sE_comp hCX (Ab hCX it) (pz hCX tg) (E5 hCX cond) (bD hCX elt)
theorem iE(hCX:HX CX):∀c:CE,IHT CX G c
 |.cmp op a b=>sT_cmp hCX (bD hCX a) (bD hCX b)
 |.chain o1 o2 a b c=>Ff hCX (bD hCX a) (bD hCX b) (bD hCX c)
 |.not a=>sT_not hCX (iE hCX a)
 |.and a b=>sT_and hCX (iE hCX a) (iE hCX b) (wa hCX b)
 |.or a b=>sT_or hCX (iE hCX a) (iE hCX b) (wa hCX b)
 |.var i=>sT_var hCX
 |.con c=>sT_con hCX
 |.glo x=>sT_glo hCX
 |.idx a i=>sT_idx hCX (bD hCX a) (bD hCX i)
 |.call f es=>sT_call hCX (jN hCX es)
 |.bfn b es=>sT_bfn hCX (jN hCX es)
 |.ite c a b=>sT_ite hCX
 |.ty t=>sT_ty hCX
 |.bin op a b=>sT_bin hCX
 |.un op a=>sT_un hCX
 |.cut a lo hi=>sT_cut hCX
 |.tup es=>sT_tup hCX
 |.lst es=>sT_lst hCX
 |.dic ps=>sT_dic hCX
 |.meth1 m b a=>Fe hCX
 |.idxd a i=>sT_idxd hCX
 |.dicT=>sT_dicT hCX
 |.setd b a c=>sT_setd hCX
 |.base x es=>sT_base hCX
 |.fld a f=>sT_fld hCX
 |.lrng a=>sT_lrng hCX
 |.sortset a=>Ah hCX
 |.comp own fr tg it cond elt=>sT_comp hCX
theorem wa(hCX:HX CX):∀c:CE,IHW CX G c
 |.and a b=>sW_and hCX (iE hCX a) (iE hCX b) (wa hCX b)
 |.or a b=>sW_or hCX (iE hCX a) (iE hCX b) (wa hCX b)
 |.var i=>sW_var hCX
 |.con c=>sW_con hCX
 |.glo x=>sW_glo hCX
 |.ty t=>sW_ty hCX
 |.bin op a b=>sW_bin hCX
 |.un op a=>sW_un hCX
 |.cmp op a b=>sW_cmp hCX
 |.chain o1 o2 a b c=>Fd hCX
 |.not a=>sW_not hCX
 |.ite c a b=>sW_ite hCX
 |.idx a i=>sW_idx hCX
 |.cut a lo hi=>sW_cut hCX
 |.tup es=>sW_tup hCX
 |.lst es=>sW_lst hCX
 |.dic ps=>sW_dic hCX
 |.call f es=>sW_call hCX
 |.bfn b es=>sW_bfn hCX
 |.meth1 m b a=>Fc hCX
 |.idxd a i=>sW_idxd hCX
 |.dicT=>sW_dicT hCX
 |.setd b a c=>sW_setd hCX
 |.base x es=>sW_base hCX
 |.fld a f=>sW_fld hCX
 |.lrng a=>sW_lrng hCX
 |.sortset a=>Ag hCX
 |.comp own fr tg it cond elt=>sW_comp hCX
theorem jN(hCX:HX CX):∀c:CL,IHL CX G c
 |.nil=>sL_nil hCX
 |.cons c r=>sL_cons hCX (bD hCX c) (jN hCX r)
theorem E3(hCX:HX CX):∀c:CP,IHP CX G c
 |.nil=>sP_nil hCX
 |.cons k v r=>sP_cons hCX (E3 hCX r) (bD hCX k) (bD hCX v)
theorem E4(hCX:HX CX):∀c:CO,IHO CX G c
 |.no=>sO_no hCX
 |.yes c=>sO_yes hCX (bD hCX c)
theorem E5(hCX:HX CX):∀c:CO,IHC CX G c
 |.no=>sC_no hCX
 |.yes c=>sC_yes hCX (iE hCX c)
theorem pz(hCX:HX CX):∀c:CG,IHG CX G c
 |.name i=>sG_name hCX
 |.tup gs=>sG_tup hCX (Bm hCX gs)
 |.sub ob i=>sG_sub hCX (bD hCX ob) (bD hCX i)
theorem Bm(hCX:HX CX):∀c:CGs,HK CX G c
 |.nil=>sGs_nil hCX
 |.cons c r=>Fj hCX (pz hCX c) (Bm hCX r)
theorem Ab(hCX:HX CX):∀c:CI,IHI CX G c
 |.seq c=>sI_seq hCX (bD hCX c)
 |.lseq c=>sI_lseq hCX (bD hCX c)
 |.tseq c=>sI_tseq hCX (bD hCX c)
 |.range1 c=>C6 hCX (bD hCX c)
 |.range2 a b=>C5 hCX (bD hCX a) (bD hCX b)
 |.enumt c=>Fi hCX (bD hCX c)
end
end
section
variable {CX:CXT}{G:Gam}
theorem rY{sc:Scope}{N:List Str}{all:Bool}{g:CG}{tg e:Expr}(h:lW sc N all g tg=true)(hn:(nr tg&&nr e)=false)(env:Env):swappedStores [tg] e env=pure none:=by
 cases tg with
 |Tuple es k p=>
  cases e<;>first
   |rfl
   | (exact absurd hn (by simp[nr]))
 |List es p=>cases g<;>exact absurd h (by simp[lW])
 |_=>rfl
theorem yc{a:Expr}{b:List Comprehension}{c:Scope}{d p:Pos}{x:Str}{l:Nat}{env:Env}(h:env.kindOf x≠some .local):nH (.ListComp a b c d) (some (.Name x p)) l env=pure false:=by
 show(pure (env.blockKind== .function&&env.kindOf x==some .local &&p.line==d.line&& !(c.names.any fun(n,k)=>n==x&&(k== .local ||k== .cell))):Sem Bool)=pure false;have e:(env.kindOf x==some dO.local)=false:=by simpa using h
 rw[e,dQ,cQ,cQ]
theorem z6{a:Expr}{b:List Comprehension}{c:Scope}{d p:Pos}{x:Str}{l:Nat}{env:Env}(hk:env.scope.kind=.function)(h:env.kindOf x=some .local)(hl:p.line=d.line)
  (hn:(c.names.any fun y=>decide (y.1=x)&&(decide (y.2=.local)||decide (y.2=.cell)))=false):nH (.ListComp a b c d) (some (.Name x p)) l env=pure true:=by
 show(pure (env.blockKind== .function&&env.kindOf x==some .local &&p.line==d.line&& !(c.names.any fun(n,k)=>n==x&&(k== .local ||k== .cell))):Sem Bool)=pure true;have e1:env.blockKind=.function:=by unfold Env.blockKind;rw[hk];rfl
 have e2:(c.names.any fun(n,k)=>n==x&&(k==dO.local||k==cM))=false:=by
  rw[<-hn];congr 1
 rw[e1,h,hl,e2];simp
theorem A6{sc:Scope}{N:List Str}{c:CE}{a:Expr}{b:List Comprehension}{s:Scope}{d:Pos}(h:ba sc N c (.ListComp a b s d)=true):∃own fr tg it cond elt,c=.comp own fr tg it cond elt:=by
 cases c with
 |comp own fr tg it cond elt=>exact⟨_,_,_,_,_,_,rfl⟩
 |_=>exact absurd h (by simp[ba])
theorem yz{e:Expr}(h:pH e=false)(tg:Expr)(l:Nat)(env:Env):HM [tg] e l env=pure false:=by
 unfold HM;exact om h _ _ _
structure OkL(G:Gam)(sc:Scope)(N:List Str)(X:Cx):Prop where
 names:X.N=N
 nd:N.Nodup
 loc:∀x,sc.names.lookup x=some .local ->X.env.scope.names.lookup x=some .local
 cel:∀x,sc.names.lookup x=some .cell->X.env.scope.names.lookup x=some .cell
 fre:∀x,sc.names.lookup x=some .free->X.env.scope.names.lookup x=some .cell\/X.env.scope.names.lookup x=some .free
 glo:∀x,sc.names.lookup x=some .globalImplicit->X.env.scope.names.lookup x=some .globalImplicit
 all:∀x,X.fn x=true
 val:∀x v,G.val x=some v->∃u,X.mg x=some u/\RelV v u
 blt:∀x∈iA,X.mg x=none
theorem OkL.vis{sc:Scope}{N:List Str}{X:Cx}(o:OkL G sc N X){x:Str}(h:yO sc x=true):Vis X.env.scope x:=by
 unfold yO at h;rw[cD,cD,beq_iff_eq,beq_iff_eq,beq_iff_eq]at h;rcases h with(h|h) |h
 ·exact .inl (o.loc x h)
 ·exact .inr (.inl (o.cel x h))
 ·rcases o.fre x h with q|q
  ·exact .inr (.inl q)
  ·exact .inr (.inr q)
theorem OkL.gl{sc:Scope}{N:List Str}{X:Cx}(o:OkL G sc N X){x:Str}(h:jP sc x=true):Gl X x:=by
 unfold jP at h;rw[beq_iff_eq]at h;exact o.glo x h
theorem isi_ok{X:Cx}:eL X (.builtin "isinstance") (rBf X.K .isinstance):=qj.or oJ
mutual
theorem gm:∀(c:CE)(e:Expr){E:XS}{sc:Scope}{N:List Str}{X:Cx},OkL G sc N X->jh c=true->ba sc N c e=true->PE X e (wpE G X.K E c)
 |.var i,e,E,sc,N,X,o,l,h=>by
  unfold ba at h;split at h
  ·obtain⟨h1,h2,h3⟩:=fZ h
   obtain⟨d1,d2⟩:=eH h3;skip;exact Ao (by rw[o.names];exact beq_iff_eq.mp h1) (o.vis h2) d1 d2
  ·cases h
 |.con c,e,E,sc,N,X,o,l,h=>by
  unfold ba at h;split at h
  ·rw[ah,decide_eq_true_eq]at h
   obtain⟨h1,rfl⟩:=h;skip;cases c with
   |none=>exact FR
   |bool b=>exact pe_bl
   |int i=>exact FV
   |str x=>exact FN
   |_=>exact absurd h1 (by simp[F8])
  ·cases h
 |.glo x,e,E,sc,N,X,o,l,h=>by
  unfold ba at h;split at h
  ·obtain⟨h1,h2,h3⟩:=fZ h
   rw[decide_eq_true_eq]at h1;subst h1;skip;intro pins s σ H Q I hw;obtain⟨v,hv,q⟩:=hw;obtain⟨u,hu,r⟩:=o.val _ _ hv;exact wC (o.gl h2) hu r (eH h3).1 pins s σ H Q I q
  ·cases h
 |.ty t,e,E,sc,N,X,o,l,h=>by
  unfold ba at h;split at h
  ·rw[ah,decide_eq_true_eq]at h
   obtain⟨h1,h2⟩:=h;subst h1;skip;exact BH (o.gl h2) (o.blt _ t.mem) t.boot rfl t.plain.1 t.plain.2
  ·cases h
 |.lst es,e,E,sc,N,X,o,l,h=>by
  unfold ba at h;split at h
  ·skip
   exact FT (lO es _ o l h)
  ·cases h
 |.tup es,e,E,sc,N,X,o,l,h=>by
  unfold ba at h;split at h
  ·skip
   exact FL (lO es _ o l h)
  ·cases h
 |.bfn .isinstance es,e,E,sc,N,X,o,l,h=>by
  unfold ba at h;split at h
  ·rename_i f' np e1 es' pos
   obtain⟨h1,h2,h3⟩:=fZ h;rw[decide_eq_true_eq]at h1;subst h1;skip;have hL:=lO es _ (E:=E) o l h3;have hs:aK (e1::es') X.env=(false,eval e1 X.env)::aK es' X.env/\(backTo pos (aK es' X.env)).any (·.1)=false:=by
    cases es with
    |nil=>exact absurd (eJ h3) (by simp)
    |cons c r=>
     obtain⟨e1',r1,q,g1,g2⟩:=dM h3;cases q;exact⟨bC g1 _ _,d3 g2 _ _⟩
   exact cf isi_ok (o.gl h2) (o.blt _ (Bf.mem _)) (Bf.boot .isinstance) hL (Bf.plain _).1 (Bf.plain _).2 hs.1 hs.2
  ·cases h
 |.bfn .isx es,e,E,sc,N,X,o,l,h=>by
  unfold ba at h;split at h
  ·rename_i f' np e1 es' pos
   obtain⟨h1,h2,h3⟩:=fZ h;rw[decide_eq_true_eq]at h1;subst h1;skip;have hL:=lO es _ (E:=E) o l h3;have hs:aK (e1::es') X.env=(false,eval e1 X.env)::aK es' X.env/\(backTo pos (aK es' X.env)).any (·.1)=false:=by
    cases es with
    |nil=>exact absurd (eJ h3) (by simp)
    |cons c r=>
     obtain⟨e1',r1,q,g1,g2⟩:=dM h3;cases q;exact⟨bC g1 _ _,d3 g2 _ _⟩
   exact cf oH (o.gl h2) (o.blt _ (Bf.mem _)) (Bf.boot .isx) hL (Bf.plain _).1 (Bf.plain _).2 hs.1 hs.2
  ·cases h
 |.fld a f,e,E,sc,N,X,o,l,h=>by
  unfold ba at h;split at h
  ·rw[ah,decide_eq_true_eq]at h
   obtain⟨h1,h2⟩:=h;subst h1;skip;exact BG (gm a _ o l h2)
  ·cases h
 |.bfn .len _,_,_,_,_,_,_,l,_=>nomatch l
 |.bfn .all _,_,_,_,_,_,_,l,_=>nomatch l
 |.bfn .any _,_,_,_,_,_,_,l,_=>nomatch l
 |.bfn .list _,_,_,_,_,_,_,l,_=>nomatch l
 |.bfn .tuple _,_,_,_,_,_,_,l,_=>nomatch l
 |.bfn .set _,_,_,_,_,_,_,l,_=>nomatch l
 |.bfn .min _,_,_,_,_,_,_,l,_=>nomatch l
 |.bfn .sum _,_,_,_,_,_,_,l,_=>nomatch l
 |.bfn .int _,_,_,_,_,_,_,l,_=>nomatch l
 |.bfn .lend _,_,_,_,_,_,_,l,_=>nomatch l
 |.bfn .sorti _,_,_,_,_,_,_,l,_=>nomatch l
 |.bfn .sortl _,_,_,_,_,_,_,l,_=>nomatch l
 |.bfn .sortt _,_,_,_,_,_,_,l,_=>nomatch l
 |.bfn .minl _,_,_,_,_,_,_,l,_=>nomatch l
 |.bfn .maxl _,_,_,_,_,_,_,l,_=>nomatch l
 |.meth1 m a b,e,E,sc,N,X,o,l,h=>by
  have l':(jh a&&jh b)=true:=l;rw[ah]at l';unfold ba at h;split at h
  ·rename_i o' nm ap a' cp
   simp only[ah,decide_eq_true_eq]at h;obtain⟨⟨⟨⟨h1,h2⟩,h3⟩,h4⟩,h5⟩:=h;subst h1;skip;exact F0 xV m.slot m.ty (Fy m) (gm a _ o l'.1 h4) (fU (gm b _ o l'.2 h5) jd (bC h5 _ _)) (xw h3 _ _ _) (by rw[bC h5];rfl) h2 (bC h5 _ _) rfl
  ·cases h
 |.idxd _ _,_,_,_,_,_,_,l,_=>nomatch l
 |.dicT,_,_,_,_,_,_,l,_=>nomatch l
 |.setd _ _ _,_,_,_,_,_,_,l,_=>nomatch l
 |.base _ _,_,_,_,_,_,_,l,_=>nomatch l
 |.lrng _,_,_,_,_,_,_,l,_=>nomatch l
 |.sortset _,_,_,_,_,_,_,l,_=>nomatch l
 |.bin op a b,e,E,sc,N,X,o,l,h=>by
  have l':(jh a&&jh b)=true:=l;rw[ah]at l';unfold ba at h;split at h
  ·obtain⟨h1,h2,h3⟩:=fZ h
   rw[decide_eq_true_eq]at h1;subst h1;skip;exact pe_op (BA op) (gm a _ o l'.1 h2) (gm b _ o l'.2 h3)
  ·cases h
 |.un _ _,_,_,_,_,_,_,l,_=>nomatch l
 |.cmp _ _ _,_,_,_,_,_,_,l,_=>nomatch l
 |.chain _ _ _ _ _,_,_,_,_,_,_,l,_=>nomatch l
 |.not _,_,_,_,_,_,_,l,_=>nomatch l
 |.and _ _,_,_,_,_,_,_,l,_=>nomatch l
 |.or _ _,_,_,_,_,_,_,l,_=>nomatch l
 |.ite _ _ _,_,_,_,_,_,_,l,_=>nomatch l
 |.idx _ _,_,_,_,_,_,_,l,_=>nomatch l
 |.cut _ _ _,_,_,_,_,_,_,l,_=>nomatch l
 |.dic _,_,_,_,_,_,_,l,_=>nomatch l
 |.call _ _,_,_,_,_,_,_,l,_=>nomatch l
 |.comp _ _ _ _ _ _,_,_,_,_,_,_,l,_=>nomatch l
theorem lO:∀(c:CL)(es:List Expr){E:XS}{sc:Scope}{N:List Str}{X:Cx},OkL G sc N X->qe c=true->ku sc N c es=true->PA X es (wpL G X.K E c)
 |.nil,es,E,sc,N,X,o,l,h=>by
  rw[eJ h];skip;exact jd
 |.cons c r,es,E,sc,N,X,o,l,h=>by
  obtain⟨e',r',rfl,h1,h2⟩:=dM h;have l':(jh c&&qe r)=true:=l;rw[ah]at l';skip;exact fU (gm c _ o l'.1 h1) (lO r _ o l'.2 h2) (bC h1 _ _)
end
theorem GA(c:CE)(e:Expr){E:XS}{sc:Scope}{N:List Str}{X:Cx}(o:OkL G sc N X)(l:GB c=true)(h:ba sc N c e=true):PT X e (wpT G X.K E c):=by
 cases c with
 |bfn b es=>
  cases b with
  |isx=>
   have hE:=gm (E:=E) (.bfn .isx es) e o l h;unfold ba at h;split at h
   ·exact wy hE (fun _=>rfl)
   ·cases h
  |_=>exact nomatch l
 |_=>exact nomatch l
mutual
theorem GC:∀(c:CS)(st:Stmt){E:XS}{sc:Scope}{N:List Str}{X:Cx},OkL G sc N X->GD c=true->jl sc N c st=true->PS X st (wpS G X.K E c)
 |.asg (.name i) e,st,E,sc,N,X,o,l1,h1=>by
  unfold jl at h1;split at h1
  ·rw[ah]at h1
   obtain⟨g1,g2,g3⟩:=fZ h1.1;skip;unfold lW at g1;split at g1
   ·rename_i x p
    simp only[ah,cD,beq_iff_eq,eA]at g1;refine Am (gm e _ o l1 g2) ?_ (yz (lH g3) _ _ _) rfl rfl;refine wB (by rw[o.names];exact o.nd) (by rw[o.names];exact g1.1) ?_ (.inl (o.all x));rcases g1.2 with q|q
    ·exact .inl (o.loc x q)
    ·exact .inr (o.cel x q)
   ·cases g1
  ·cases h1
 |.asg (.tup _) _,_,_,_,_,_,_,l,_=>nomatch l
 |.asg (.sub _ _) _,_,_,_,_,_,_,l,_=>nomatch l
 |.ret e,st,E,sc,N,X,o,l1,h1=>by
  unfold jl at h1;split at h1
  ·skip
   exact FF (gm e _ o l1 h1)
  ·cases h1
 |.pass,st,E,sc,N,X,o,l1,h1=>by
  unfold jl at h1;split at h1
  ·skip
   exact BD
  ·cases h1
 |.expr e,st,E,sc,N,X,o,l1,h1=>by
  unfold jl at h1;split at h1
  ·rw[ah]at h1
   skip
   exact BE (gm e _ o l1 h1.1) (om (lH h1.2) _ _ _)
  ·cases h1
 |.iff c a b,st,E,sc,N,X,o,l1,h1=>by
  have l':(GB c&&(qf a&&qf b))=true:=l1;rw[ah,ah]at l';unfold jl at h1;split at h1
  ·obtain⟨g1,g2,g3⟩:=fZ h1
   skip
   exact ps_if (GA c _ o l'.1 g1) (oz a _ o l'.2.1 g2) (oz b _ o l'.2.2 g3)
  ·cases h1
 |.asgc _ _,_,_,_,_,_,_,l,_=>nomatch l
 |.forr _ _ _,_,_,_,_,_,_,l,_=>nomatch l
 |.retN,_,_,_,_,_,_,l,_=>nomatch l
 |.brk,_,_,_,_,_,_,l,_=>nomatch l
 |.cont,_,_,_,_,_,_,l,_=>nomatch l
 |.rais _ _,_,_,_,_,_,_,l,_=>nomatch l
 |.raisX _ _,_,_,_,_,_,_,l,_=>nomatch l
 |.fldX _ _ _,_,_,_,_,_,_,l,_=>nomatch l
 |.tryc _ _ _ _,_,_,_,_,_,_,l,_=>nomatch l
theorem oz:∀(c:CB)(st:List Stmt){E:XS}{sc:Scope}{N:List Str}{X:Cx},OkL G sc N X->qf c=true->lu sc N c st=true->PSs X st (wpB G X.K E c)
 |.hole,_,_,_,_,_,_,l,_=>nomatch l
 |.nil,st,E,sc,N,X,o,l,h=>by
  unfold lu at h;split at h
  ·skip
   exact wz
  ·cases h
 |.cons s r,st,E,sc,N,X,o,l,h=>by
  have l':(GD s&&qf r)=true:=l;rw[ah]at l';unfold lu at h;split at h
  case h_2=>cases h
  rw[ah]at h;skip;exact og (GC s _ o l'.1 h.1) (oz r _ o l'.2 h.2)
end
mutual
theorem E2(hCX:HX CX):∀(c:CS)(st:Stmt){E:XS}{sc:Scope}{N:List Str}{X:Cx},Ok CX G E sc N true X->(∀pins σ H s,Inv X pins σ H s->X.env.scope.kind=.function)->jl sc N c st=true->PS X st (wpS G X.K E c)
 |.asg g e,st,E,sc,N,X,o,hk,h=>by
  unfold jl at h;split at h
  ·rw[ah]at h
   obtain⟨h,h4⟩:=h;obtain⟨h1,h2,h3⟩:=fZ h;skip;exact Am (bD hCX e _ o h2) (pz hCX g _ o h1) (om (lH h3) _ _ _) (rY h1 (lH h4) _) (by rw[oj h1];rfl)
  ·cases h
 |.asgc i e,st,E,sc,N,X,o,hk,h=>by
  unfold jl at h;split at h
  ·rename_i x p a b c d sp
   simp only[ah,cD,beq_iff_eq,decide_eq_true_eq]at h;obtain⟨⟨⟨h1,h2⟩,h3⟩,h4⟩:=h;skip;obtain⟨own,fr,tg,it,cond,elt,rfl⟩:=A6 h3;by_cases hl:X.env.scope.names.lookup x=some .local
   ·have h4':p.line=d.line/\(!(c.names.any fun y=>decide (y.1=x)&&(decide (y.2=.local)||decide (y.2=.cell))))=true:=by
     rcases h4 with q|q
     ·rw[o.cel x q]at hl;cases hl
     ·exact q
    unfold ba at h3;split at h3
    ·rename_i elt' tg' it' ifs' sc' pos heq
     cases heq;simp only[ah]at h3;obtain⟨⟨⟨⟨⟨g1,g2⟩,g3⟩,g4⟩,g5⟩,g6⟩:=h3;have S:=rN g1;skip;intro pins s σ H D I hw;exact Al (S.comp o) (S.mkOk o) o.calm (Ab hCX it _ _ o g3)
      (fun C s₀ H₀ fp _=>⟨pz hCX tg _ (o.comp hCX S C s₀ H₀ fp) g4,E5 hCX cond _ (o.comp hCX S C s₀ H₀ fp) g5,bD hCX elt _ (o.comp hCX S C s₀ H₀ fp) g6⟩)
      (by rw[o.names];exact o.nd) (by rw[o.names];exact h1) hl (z6 (hk pins σ H s I) hl h4'.1 (lH h4'.2)) (wM (lH g2) _) pins s σ H D I hw
    ·cases h3
   ·have hc:sc.names.lookup x=some .cell:=by
     rcases h2 with q|q
     ·exact absurd (o.loc x q) hl
     ·exact q
    exact ps_set (by rw[o.names];exact o.nd) (by rw[o.names];exact h1) (.inr (o.cel x hc)) (bD hCX _ _ o h3) (yc (by rw[show X.env.kindOf x=_ from o.cel x hc];decide)) (.inl (o.all rfl x))
  ·cases h
 |.expr e,st,E,sc,N,X,o,hk,h=>by
  unfold jl at h;split at h
  ·rw[ah]at h
   skip
   exact BE (bD hCX e _ o h.1) (om (lH h.2) _ _ _)
  ·cases h
 |.iff c a b,st,E,sc,N,X,o,hk,h=>by
  unfold jl at h;split at h
  ·obtain⟨h1,h2,h3⟩:=fZ h
   skip
   exact ps_if (iE hCX c _ o h1) (nh hCX a _ o hk h2) (nh hCX b _ o hk h3)
  ·cases h
 |.forr g it b,st,E,sc,N,X,o,hk,h=>by
  unfold jl at h;split at h
  ·rw[ah]at h
   obtain⟨h,h4⟩:=h;obtain⟨h1,h2,h3⟩:=fZ h;skip;exact ps_for o.px o.calm (Ab hCX it _ _ o h2) (pz hCX g _ o h1) (nh hCX b _ o hk h4) (wM (lH h3) _)
  ·cases h
 |.ret e,st,E,sc,N,X,o,hk,h=>by
  unfold jl at h;split at h
  ·skip
   exact FF (bD hCX e _ o h)
  ·cases h
 |.retN,st,E,sc,N,X,o,hk,h=>by
  unfold jl at h;split at h
  ·skip
   exact ps_retN
  ·cases h
 |.rais x es,st,E,sc,N,X,o,hk,h=>by
  unfold jl at h;split at h
  ·rename_i x' np e' es' cp p
   rw[ah]at h;obtain⟨h,h4⟩:=h;obtain⟨h1,h2,h3⟩:=fZ h;rw[decide_eq_true_eq]at h1;subst h1;skip;intro pins s σ H D I hw;obtain⟨C,hv,hkp,hq,hw⟩:=hw;obtain⟨u,hu,ru⟩:=o.val _ _ hv;obtain rfl:u=bp C:=ru;have hL:=jN hCX es _ o h4;have hs:aK (e'::es') X.env=(false,eval e' X.env)::aK es' X.env/\(backTo cp (aK es' X.env)).any (·.1)=false:=by
    cases es with
    |nil=>exact absurd (eJ h4) (by simp)
    |cons c r=>
     obtain⟨e1',r1,q,g1,g2⟩:=dM h4;cases q;exact⟨bC g1 _ _,d3 g2 _ _⟩
   exact FG (o.gl h2) hu hkp hq hL o.calm (eH h3).1 hs.1 hs.2 o.made pins s σ H D I hw
  ·cases h
 |.raisX x es,st,E,sc,N,X,o,hk,h=>by
  unfold jl at h;split at h
  ·rename_i x' np e' es' cp p
   rw[ah]at h;obtain⟨h,h4⟩:=h;obtain⟨h1,h2,h3⟩:=fZ h;rw[decide_eq_true_eq]at h1;subst h1;skip;intro pins s σ H D I hw;obtain⟨C,sp,dvs,hv,hw⟩:=hw;obtain⟨f,fd,ps,ds,k,hM,F,hr,hu,hb,hd⟩:=o.ini _ _ _ _ _ hv;have hL:=jN hCX es _ o h4;have hs:aK (e'::es') X.env=(false,eval e' X.env)::aK es' X.env/\(backTo cp (aK es' X.env)).any (·.1)=false:=by
    cases es with
    |nil=>exact absurd (eJ h4) (by simp)
    |cons c r=>
     obtain⟨e1',r1,q,g1,g2⟩:=dM h4;cases q;exact⟨bC g1 _ _,d3 g2 _ _⟩
   exact C9 hM F hr hb hd o.pass (o.gl h2) hu hL o.calm (eH h3).1 hs.1 hs.2 o.madeX pins s σ H D I hw
  ·cases h
 |.fldX a f e,st,E,sc,N,X,o,hk,h=>by
  unfold jl at h;split at h
  ·simp only[ah,decide_eq_true_eq]at h
   obtain⟨⟨⟨h1,h2⟩,h3⟩,h4⟩:=h;subst h1;skip;exact ps_fldX (bD hCX a _ o h2) (bD hCX e _ o h3) (om (lH h4) _ _ _)
  ·cases h
 |.tryc x i b su,st,E,sc,N,X,o,hk,h=>by
  unfold jl at h;split at h
  ·rename_i b' x' np n s0 ss hp p
   simp only[ah,decide_eq_true_eq,beq_iff_eq]at h;obtain⟨⟨⟨⟨⟨⟨⟨h1,h2⟩,h3⟩,h4⟩,h5⟩,h6⟩,h7⟩,h8⟩:=h;subst h1;skip;obtain⟨t1,t2,t3⟩:=o.top rfl;intro pins s σ H D I hw;obtain⟨C,hv,hw⟩:=hw;obtain⟨u,hu,ru⟩:=o.val _ _ hv;obtain rfl:u=bp C:=ru;have O:zx X x n C i (s0::ss) (wpB G X.K N0 su):=
    {nd:=by rw[o.names];exact o.nd,at_:=by rw[o.names];exact h4,loc:=o.loc n h5,gl:=o.gl h2,mg:=hu,db:=(eH h3).1,stk:=t1,fr:=t2,ex:=t3
     su:=fun pins a=>oz su _ (X:=X.re (X.A.mark (some (.ref a))) false (X.pn++pins) (fun _ _=>False)) ⟨o.names,o.nd,o.loc,o.cel,o.fre,o.glo,o.all rfl,o.val,o.blt⟩ h6 h7}
   exact ps_try (X:=X) (tb:=fun D=>wpB G X.K (kP X.K C i (wpB G X.K N0 su) D) b) (fun pins D ok=>nh hCX b _ (X:=X.re X.A X.calm (X.pn++pins) (i8 X pins D [.ExceptHandler (some (.Name x np)) (some n) (s0::ss) hp]))
    {names:=o.names,top:=fun _=>⟨t1,t2,t3⟩,nd:=o.nd,loc:=o.loc,cel:=o.cel,fre:=o.fre,glo:=o.glo,all:=o.all,own:=o.own,calm:=o.calm,hu:=o.hu,val:=o.val,fn:=o.fn,ini:=o.ini,dic:=o.dic,blt:=o.blt,px:=PassesOwn.looking
     pass:=fun pins' σ' H' s' e s'' J z=>EI O ok o.calm J (by rw[o.cx]at z;exact z)
     made:=fun pins' σ' H' s' a c args h' J hm z=>EJ O ok J hm z
     madeX:=fun pins' σ' H' s' a C' d J m z=>CT O ok J m z
     cx:=o.cx} (fun _ _ _ _ J=>J.ok.kind) h8) pins s σ H D I hw
  ·cases h
 |.pass,st,E,sc,N,X,o,hk,h=>by
  unfold jl at h;split at h
  ·skip
   exact BD
  ·cases h
 |.brk,st,E,sc,N,X,o,hk,h=>by
  unfold jl at h;split at h
  ·skip
   exact FH
  ·cases h
 |.cont,st,E,sc,N,X,o,hk,h=>by
  unfold jl at h;split at h
  ·skip
   exact yi
  ·cases h
theorem nh(hCX:HX CX):∀(c:CB)(st:List Stmt){E:XS}{sc:Scope}{N:List Str}{X:Cx},Ok CX G E sc N true X->(∀pins σ H s,Inv X pins σ H s->X.env.scope.kind=.function)->lu sc N c st=true->PSs X st (wpB G X.K E c)
 |.hole,_,_,_,_,_,_,_,_=>fun _ _ _ _ _ _ z=>z.elim
 |.nil,st,E,sc,N,X,o,hk,h=>by
  unfold lu at h;split at h
  ·skip
   exact wz
  ·cases h
 |.cons s r,st,E,sc,N,X,o,hk,h=>by
  unfold lu at h;split at h
  ·rw[ah]at h
   skip
   exact og (E2 hCX s _ o hk h.1) (nh hCX r _ o hk h.2)
  ·cases h
end
end
structure GOk(P:Program)(w:World)(K:ae)(mg:Str->Option Value)(base:Heap)(CX:CXT)(k:Nat)(G:Gam):Prop where
 val:∀x v,G.val x=some v->∃u,mg x=some u/\RelV v u
 fn:∀x n sp dvs,G.fn x n=some (sp,dvs)->∃f fd ps ds j,j<=k/\ju P w K mg base CX j f fd ps sp/\mg x=some (.ref f)/\cw K (.ref f)=true/\Binds K fd ps ds/\bM dvs ds
 ini:∀x n C sp dvs,G.ini x n=some (C,sp,dvs)->∃f fd ps ds j,j+1<=k/\MkX K C f/\ju P w K mg base CX j f fd ps sp/\mg x=some (.ref C)/\Binds K fd ps ds/\bM dvs ds
 dic:∀a kvs,G.dic a=some kvs->DkIn P w K a kvs
 blt:∀x∈iA,mg x=none
noncomputable def mH(N ps:List Str)(sc:Scope):Bool:=
 decide (sc.kind=.function)&&decide (sc.isCoroutine=false)&&decide (sc.isGenerator=false)&&decide N.Nodup&&decide (N.take ps.length=ps)&&
 ps.all (fun x=>sc.names.lookup x==some .local ||sc.names.lookup x==some .cell)&&sc.names.all (fun y=>decide (y.2≠.free))
theorem yu{N ps:List Str}{sc:Scope}(h:mH N ps sc=true):xD N ps sc:=by
 unfold mH at h;simp only[ah,bK,decide_eq_true_eq,beq_iff_eq,cD]at h;obtain⟨⟨⟨⟨⟨⟨h1,h2⟩,h3⟩,h4⟩,h5⟩,h6⟩,h7⟩:=h;exact⟨h1,h2,h3,h4,h5,h6,h7⟩
section
variable {P:Program}{w:World}{K:ae}{mg:Str->Option Value}{base:Heap}
theorem yX{x qual:Str}{st:Stmt}{f:Addr}{oc dV kV doc pm cdv ct:Value}{od an:Option Addr}{osl:Array (Option Value)}{N ps:List Str}{k:Nat}{G:Gam}{sp:Sp}{code:CB}(lk:K.lookup f=some ⟨oc,od,.func (aH x qual (bF st) (bc st) (aJ st) dV kV doc pm an cdv ct),osl⟩)(hcd:ek K cdv qual=true)(hd:mH N ps (aJ st)=true)(hc:lu (aJ st) N code (bc st)=true)
  (g:GOk P w K mg base (CXx P w) k G)(len:∀vs H Q E,sp vs H Q E->vs.length=ps.length)
  (h:∀vs H Q E,sp vs H Q E->wpB G K (fun _=>E) code {nx:=fun _ H'=>Q .non H',rt:=Q} (start N vs) H):ju P w K mg base (CXx P w) (k+1) f (aH x qual (bF st) (bc st) (aJ st) dV kV doc pm an cdv ct) ps sp:=by
 have S:=yu hd;refine fn_of lk hcd S len fun A outer s H vs Q E hr hsp=>?_;have o:Ok (CXx P w) G (fun _=>E) (aJ st) N true (uo (CXx P w) P w K mg base N qual (aJ st) f cdv A outer s H E):=
  {names:=rfl,top:=fun _=>⟨rfl,rfl,rfl⟩,nd:=S.nd,loc:=fun _ z=>z,cel:=fun _ z=>z,fre:=fun y z=>absurd rfl (S.nofree _ (bf z)),glo:=fun _ z=>z,all:=fun _ _=>rfl,own:=fun _ _=>rfl,calm:=rfl,
   hu:=by have :=hr.units;show _+50<cLine;exact cy (Nat.add_le_add_left (by decide) _) this
   val:=g.val
   fn:=fun y n sp' dvs e=>by
    obtain⟨f',fd',ps',ds',j,hj,F',hm,hk,hb,hv⟩:=g.fn y n sp' dvs e;exact⟨f',fd',ps',ds',j,F',hr.mono hj,hm,hk,hb,hv⟩
   ini:=fun y n C sp' dvs e=>by
    obtain⟨f',fd',ps',ds',j,hj,M,F',hm,hb,hv⟩:=g.ini y n C sp' dvs e;exact⟨f',fd',ps',ds',j,M,F',hr.mono hj,hm,hb,hv⟩
   dic:=g.dic
   blt:=g.blt,px:=Ct,pass:=vy,made:=vz,madeX:=tB,cx:=rfl}
 exact⟨_,nh (fun _ _ _ _ _ z=>DN z) code _ o (fun _ _ _ _ _=>S.kind) hc,h vs H Q E hsp⟩
theorem B3{x qual:Str}{st:Stmt}{f:Addr}{fd:fh}{N ps:List Str}{k:Nat}{G:Gam}{sp:Sp}{code:CB}(F:Fun K x qual st f fd)(hd:mH N ps (aJ st)=true)(hc:lu (aJ st) N code (bc st)=true)
  (g:GOk P w K mg base (CXx P w) k G)(len:∀vs H Q E,sp vs H Q E->vs.length=ps.length)
  (h:∀vs H Q E,sp vs H Q E->wpB G K (fun _=>E) code {nx:=fun _ H'=>Q .non H',rt:=Q} (start N vs) H):ju P w K mg base (CXx P w) (k+1) f fd ps sp:=by
 obtain⟨oc,od,kV,doc,pm,an,cdv,ct,osl,rfl,lk,hcd⟩:=F.ex;exact yX lk hcd hd hc g len h
end
noncomputable def gam(vals:List (Str×V))(fns:List ((Str×Nat)×(Sp×List V)))(inis:List ((Str×Nat)×(Addr×Sp×List V)):=[]) (dics:List (Addr×List (Key×V)):=[]):Gam:=⟨fun x=>vals.lookup x,fun x n=>fns.lookup (x,n),fun x n=>inis.lookup (x,n),fun a=>dics.lookup a⟩
theorem yG{β:Type}{a:Addr}{b:β}:∀{l:List (Addr×β)},l.lookup a=some b->(a,b)∈l
 | [],h=>nomatch h
 | (k,v)::l,h=>by
  rw[aP]at h;cases q:(a==k)with
  |true=>
   rw[q]at h;cases h;rw[beq_iff_eq.mp q];exact aS
  |false=>
   rw[q]at h;exact aN _ (yG h)
section
variable {P:Program}{w:World}{K:ae}{mg:Str->Option Value}{base:Heap}{CX:CXT}
theorem GOk.start{vals:List (Str×V)}(hv:∀x v,(x,v)∈vals->∃u,mg x=some u/\RelV v u)(hb:∀x∈iA,mg x=none){dics:List (Addr×List (Key×V))}(hd:∀a kvs,(a,kvs)∈dics->DkIn P w K a kvs:=by intro a kvs h;exact nomatch h):GOk P w K mg base CX 0 (gam vals [] [] dics):=
 ⟨fun x v e=>hv x v (bf e),fun x n sp dvs e=>(nomatch e),fun x n C sp dvs e=>(nomatch e),fun a kvs e=>hd a kvs (yG (show cP a dics=some kvs from e)),hb⟩
theorem GOk.add{k n:Nat}{vals:List (Str×V)}{fns:List ((Str×Nat)×(Sp×List V))}{x:Str}{f:Addr}{fd:fh}{ps:List Str}{sp:Sp}{ds:List Value}{dvs:List V}{inis:List ((Str×Nat)×(Addr×Sp×List V))}{dics:List (Addr×List (Key×V))}(g:GOk P w K mg base CX k (gam vals fns inis dics))
  (F:ju P w K mg base CX (k+1) f fd ps sp)(hm:mg x=some (.ref f))(hk:cw K (.ref f)=true)(hb:Binds K fd ps ds)(hd:bM dvs ds):GOk P w K mg base CX (k+1) (gam vals (((x,n),(sp,dvs))::fns) inis dics):=by
 refine⟨g.val,fun y m sp' dvs' e=>?_,fun y m C sp' dvs' e=>?_,g.dic,g.blt⟩
 rotate_left
 ·obtain⟨f',fd',ps',ds',j,hj,r⟩:=g.ini y m C sp' dvs' e
  exact⟨f',fd',ps',ds',j,iB hj,r⟩
 have e':cP (y,m) (((x,n),(sp,dvs))::fns)=some (sp',dvs'):=e;rw[aP]at e';cases q:((y,m)==(x,n))with
 |true=>
  rw[q]at e';have e2:(y,m)=(x,n):=eq_of_beq q;cases e2;cases e';exact⟨f,fd,ps,ds,k+1,aw _,F,hm,hk,hb,hd⟩
 |false=>
  rw[q]at e';obtain⟨f',fd',ps',ds',j,hj,r⟩:=g.fn y m sp' dvs' e';exact⟨f',fd',ps',ds',j,iB hj,r⟩
theorem GOk.addI{k n:Nat}{vals:List (Str×V)}{fns:List ((Str×Nat)×(Sp×List V))}{x:Str}{C f:Addr}{fd:fh}{ps:List Str}{sp:Sp}{ds:List Value}{dvs:List V}{inis:List ((Str×Nat)×(Addr×Sp×List V))}{dics:List (Addr×List (Key×V))}(g:GOk P w K mg base CX k (gam vals fns inis dics))
  (M:MkX K C f)(F:ju P w K mg base CX (k+1) f fd ps sp)(hm:mg x=some (.ref C))(hb:Binds K fd ps ds)(hd:bM dvs ds):GOk P w K mg base CX (k+2) (gam vals fns (((x,n),(C,sp,dvs))::inis) dics):=by
 refine⟨g.val,fun y m sp' dvs' e=>?_,fun y m C' sp' dvs' e=>?_,g.dic,g.blt⟩
 ·obtain⟨f',fd',ps',ds',j,hj,r⟩:=g.fn y m sp' dvs' e
  exact⟨f',fd',ps',ds',j,aX hj (by omega),r⟩
 have e':cP (y,m) (((x,n),(C,sp,dvs))::inis)=some (C',sp',dvs'):=e;rw[aP]at e';cases q:((y,m)==(x,n))with
 |true=>
  rw[q]at e';have e2:(y,m)=(x,n):=eq_of_beq q;cases e2;cases e';exact⟨f,fd,ps,ds,k+1,aw _,M,F,hm,hb,hd⟩
 |false=>
  rw[q]at e';obtain⟨f',fd',ps',ds',j,hj,r⟩:=g.ini y m C' sp' dvs' e';exact⟨f',fd',ps',ds',j,aX hj (by omega),r⟩
end
section
variable {K:ae}{H:Hp}{Q:VK}{i j:Int}
theorem HG:iy K .Add (.int i) (.int j) H Q↔Q (.int (i+j)) H:=by
 simp[iy,rI0,rCat,By,Bz]
theorem sub_ii:iy K .Sub (.int i) (.int j) H Q↔Q (.int (i-j)) H:=by simp[iy,rI0]
theorem mul_ii:iy K .Mult (.int i) (.int j) H Q↔Bh i j/\Q (.int (i*j)) H:=by simp[iy,rI,rRep,rRepS]
theorem AD:iy K .Mod (.int i) (.int j) H Q↔0<j/\Q (.int (i%j)) H:=by simp[iy,rI]
theorem div_ii:iy K .FloorDiv (.int i) (.int j) H Q↔HL i j/\Q (.int (i/j)) H:=by simp[iy,rI]
theorem pow_ii:iy K .Pow (.int i) (.int j) H Q↔D7 i j/\Q (.int (i^j.toNat)) H:=by simp[iy,rI]
theorem shr_ii:iy K .RShift (.int i) (.int j) H Q↔0<=j/\Q (.int (i/2^j.toNat)) H:=by simp[iy,rI]
theorem HF{x y:Str}:iy K .Add (.str x) (.str y) H Q↔x.length+y.length<=sizeLine/\Q (.str (x++y)) H:=by simp[iy,rI0,rCat,By,Bz]
theorem Gu:fX K .Lt (.int i) (.int j) H Q↔Q (.bl (decide (i<j))) H:=by simp[fX,rI0]
theorem GH:fX K .LtE (.int i) (.int j) H Q↔Q (.bl (decide (i<=j))) H:=by simp[fX,rI0]
theorem G4:fX K .Gt (.int i) (.int j) H Q↔Q (.bl (decide (j<i))) H:=by simp[fX,rI0]
theorem Bu{d:D}:Rep K H d (.int i)↔d=.int i:=by
 cases d<;>simp[Rep,eq_comm]
theorem rep_str{d:D}{x:Str}:Rep K H d (.str x)↔d=.str x:=by
 cases d<;>simp[Rep,eq_comm]
theorem sN:fX K .Eq (.int i) (.int j) H Q↔Q (.bl (decide (i=j))) H:=by
 simp only[fX,rEqD,Bu];constructor
 ·rintro⟨_,_,rfl,rfl,_,q⟩;exact q
 ·intro q;exact⟨_,_,rfl,rfl,bA _,q⟩
theorem ne_ii:fX K .NotEq (.int i) (.int j) H Q↔Q (.bl (!decide (i=j))) H:=by
 simp only[fX,rNeD,Bu];constructor
 ·rintro⟨_,_,rfl,rfl,_,q⟩;exact q
 ·intro q;exact⟨_,_,rfl,rfl,bA _,q⟩
theorem eq_ss{x y:Str}:fX K .Eq (.str x) (.str y) H Q↔Q (.bl (decide (x=y))) H:=by
 simp only[fX,rEqD,rep_str];constructor
 ·rintro⟨_,_,rfl,rfl,_,q⟩
  simpa[eqD,En]using q
 ·intro q
  exact⟨_,_,rfl,rfl,bA _,by simpa[eqD,En]using q⟩
theorem is_n{x:V}:fX K .Is x .non H Q↔Q (.bl (decide (x=.non))) H:=by simp[fX]
theorem isnot_n{x:V}:fX K .IsNot x .non H Q↔Q (.bl (!decide (x=.non))) H:=by simp[fX]
theorem len_s{z:Str}:rBf K .len [.str z] H Q↔z.length<=sizeLine/\Q (.int z.length) H:=by simp[rBf]
theorem idx_s{z:Str}:rIx K (.str z) (.int i) H Q↔∃c,z.length<=sizeLine/\atI z.cps.toList i=some c/\Q (.str ⟨#[c]⟩) H:=by
 simp[rIx,rIxL,rIxT,rIxS]
theorem cut_s{z:Str}{lo hi:Option Int}:rSlc K (.str z) lo hi H Q↔z.length<=sizeLine/\Q (.str (A3 z lo hi)) H:=by
 simp[rSlc,rSlL,rSlS]
end
structure tG(J:It)(n:Nat)(it:Nat->V->Hp->Prop)(Hc:Hp->Prop):Prop where
 go:∀i H,Hc H->i<n->J.go i H
 stop:∀i H,Hc H->n<=i->J.stop i H
 yld:∀i H x H',Hc H->i<n->J.yld i H x H'->it i x H'/\aG H H'
section
variable {K:ae}
theorem fN{a:Addr}{xs:List V}:tG (Itl K a) xs.length (fun i x _=>xs[i]? =some x) (fun H=>SqL K H a xs) where
 go:=fun i H h hi=>⟨xs,xs[i],h,by simp[hi]⟩
 stop:=fun i H h hi=>⟨xs,h,hi⟩
 yld:=fun i H x H' h hi y=>by
  obtain⟨e,y⟩:=y;subst e;exact⟨y xs h,aG.refl _⟩
theorem wk{a:Addr}{xs:List V}:tG (Itt K a) xs.length (fun i x _=>xs[i]? =some x) (fun H=>SqT K H a xs) where
 go:=fun i H h hi=>⟨xs,xs[i],h,by simp[hi]⟩
 stop:=fun i H h hi=>⟨xs,h,hi⟩
 yld:=fun i H x H' h hi y=>by
  obtain⟨e,y⟩:=y;subst e;exact⟨y xs h,aG.refl _⟩
theorem du{lo:Int}{n:Nat}:tG (Itr lo n) n (fun i x _=>x=.int (lo+i)) (fun _=>True) where
 go:=fun i H _ hi=>hi
 stop:=fun i H _ hi=>hi
 yld:=fun i H x H' _ hi y=>by
  obtain⟨e,y⟩:=y;subst e;exact⟨y,aG.refl _⟩
theorem seq_str{z:Str}:tG (Its z) z.length (fun i x _=>∃c,z.cps[i]? =some c/\x=.str ⟨#[c]⟩) (fun _=>True) where
 go:=fun i H _ hi=>hi
 stop:=fun i H _ hi=>hi
 yld:=fun i H x H' _ hi y=>by
  obtain⟨e,y⟩:=y;subst e;exact⟨y,aG.refl _⟩
theorem aA{H:Hp}{p:Addr}{o:HO}(h:H p=none):aG H (upd H p o):=fun b u e=>by rw[aL (bx e h)];exact e
theorem jf{H H1:Hp}{p:Addr}{o:HO}(h:upd H p o=H1)(hp:H p=none):aG H H1/\H1 p=some o:=by subst h;exact⟨aA hp,ax⟩
noncomputable def ForB(J:It)(g:TG)(tb:TS)(D:Ends)(σ:L2.St)(H:Hp):Prop:=∃W:Nat->Nat->L2.St->Hp->Prop,(∃m,W 0 m σ H)/\∀i m σ H,W i m σ H->
 (J.stop i H/\D.nx σ H)\/(J.go i H/\∃N:L2.St->Hp->Prop,(∀σ' H',N σ' H'->∃m',m'<m/\W (i+1) m' σ' H')/\∀x H',J.yld i H x H'->g x σ H' fun σ2 H2=>tb {D with nx:=N,ct:=N,bk:=D.nx} σ2 H2)
noncomputable def Cm(J:It)(g:TG)(tc:TT)(te:TE)(τ0:L2.St)(H1:Hp)(Q:VK):Prop:=∃W:Nat->Nat->L2.St->List V->Hp->Prop,(∃m,W 0 m τ0 [] H1)/\
 ∀i m τ acc H2,W i m τ acc H2->(J.stop i H2/\∀l,H2 l=none->Q (.ref l) (upd H2 l (.lst acc)))\/(J.go i H2/\∃N:L2.St->List V->Hp->Prop,(∀τ' acc' H',N τ' acc' H'->∃m',m'<m/\W (i+1) m' τ' acc' H')/\
  ∀x H3,J.yld i H2 x H3->g x τ H3 fun τ4 H4=>tc τ4 H4 fun b H5=>if b=true then te τ4 H5 fun v H6=>acc.length<sizeLine/\N τ4 (acc++[v]) H6 else N τ4 acc H5)
theorem B1{J:It}{n:Nat}{it:Nat->V->Hp->Prop}{Hc:Hp->Prop}{g:TG}{tb:TS}{D:Ends}{σ:L2.St}{H:Hp}(S:tG J n it Hc)(Pv:Nat->L2.St->Hp->Prop)(h0:Pv 0 σ H)(hl:∀i σ H,i<=n->Pv i σ H->Hc H)
  (hs:∀i x σ H H',i<n->Pv i σ H->it i x H'->aG H H'->g x σ H' fun σ2 H2=>tb {D with nx:=Pv (i+1),ct:=Pv (i+1),bk:=D.nx} σ2 H2) (hd:∀σ H,Pv n σ H->D.nx σ H):
  ForB J g tb D σ H:=by
 refine⟨fun i m σ H=>m=n-i/\i<=n/\Pv i σ H,⟨n,by simp,bA _,h0⟩,?_⟩;rintro i m σ H ⟨rfl,hi,p⟩;have q:=hl i σ H hi p;by_cases hlt:i<n
 ·refine .inr ⟨S.go i H q hlt,Pv (i+1),fun σ' H' p'=>⟨n-(i+1),by omega,rfl,hlt,p'⟩,fun x H' y=>?_⟩
  obtain⟨y1,y2⟩:=S.yld i H x H' q hlt y;exact hs i x σ H H' hlt p y1 y2
 ·have e:i=n:=by omega
  subst e;exact .inl ⟨S.stop i H q (aw _),hd σ H p⟩
theorem dZ{J:It}{n:Nat}{it:Nat->V->Hp->Prop}{Hc:Hp->Prop}{g:TG}{te:TE}{Q:VK}{τ0:L2.St}{H1:Hp}(S:tG J n it Hc)(hn:n<=sizeLine)(hc:∀H,aG H1 H->Hc H)
  (F:Nat->V->Hp->Prop)(Fm:∀i v H H',aG H H'->F i v H->F i v H')(T:L2.St->Prop)(hT:T τ0)
  (step:∀i x τ H3 (R:L2.St->V->Hp->Prop),i<n->T τ->aG H1 H3->it i x H3->(∀τ' v H6,T τ'->aG H3 H6->F i v H6->R τ' v H6)->g x τ H3 fun τ4 H4=>te τ4 H4 (R τ4))
  (fin:∀vs H2 l,vs.length=n->(∀(i:Nat) v,vs[i]? =some v->F i v H2)->aG H1 H2->H2 l=none->Q (.ref l) (upd H2 l (.lst vs))):
  Cm J g tYes te τ0 H1 Q:=by
 refine⟨fun i m τ acc H2=>m=n-i/\i<=n/\T τ/\acc.length=i/\aG H1 H2/\∀(k:Nat) v,acc[k]? =some v->F k v H2,⟨n,by simp,bA _,hT,rfl,aG.refl _,fun k v e=>by simp at e⟩,?_⟩;rintro i m τ acc H2 ⟨rfl,hi,ht,hl,sm,hF⟩;have q:=hc H2 sm;by_cases hlt:i<n
 ·refine .inr ⟨S.go i H2 q hlt,fun τ' acc' H'=>T τ'/\acc'.length=i+1/\aG H1 H'/\∀(k:Nat) v,acc'[k]? =some v->F k v H',fun τ' acc' H' ⟨a,b,c,d⟩=>⟨n-(i+1),by omega,rfl,hlt,a,b,c,d⟩,fun x H3 y=>?_⟩
  obtain⟨y1,y2⟩:=S.yld i H2 x H3 q hlt y;refine step i x τ H3 (fun τ' v H6=>acc.length<sizeLine/\T τ'/\(acc++[v]).length=i+1/\aG H1 H6/\∀(k:Nat) v',(acc++[v])[k]? =some v'->F k v' H6) hlt ht (sm.trans y2) y1 fun τ' v H6 ht' s6 f6=>⟨by omega,ht',by simp[hl],(sm.trans y2).trans s6,fun k v' e=>?_⟩;by_cases hk:k<acc.length
  ·rw[gB hk]at e
   exact Fm k v' H2 H6 (y2.trans s6) (hF k v' e)
  ·rw[eE (by omega)]at e
   have hk0:k-acc.length=0:=by
    have :=(aM.mp e).1
    simp at this;omega
   rw[hk0]at e;have hk':k=i:=by omega
   simp at e;subst e;rw[hk'];exact f6
 ·have e:i=n:=by omega
  subst e;exact .inl ⟨S.stop i H2 q (aw _),fun l hl'=>fin acc H2 l hl hF sm hl'⟩
theorem d8{wi:TI}{g:TG}{tc:TT}{te:TE}{mk:L2.St->L2.St}{σ:L2.St}{H:Hp}{Q:VK}(h:wi σ H fun J H1=>Cm J g tc te (mk σ) H1 Q):uF wi g tc te mk σ H Q:=h
theorem hJ{wi:TI}{g:TG}{tb:TS}{D:Ends}{σ:L2.St}{H:Hp}(h:wi σ H fun J H1=>ForB J g tb D σ H1):tFor wi g tb D σ H:=h
theorem zv{i:Nat}{z:Str}{σ:L2.St}{H:Hp}{R:It->Hp->Prop}(hv:σ[i]? =some (some (.str z)))(h:R (Its z) H):DJ K (uc i) σ H R:=⟨_,hv,.inr (.inr ⟨z,rfl,h⟩)⟩
theorem dS{i:Nat}{a:Addr}{xs:List V}{σ:L2.St}{H:Hp}{R:It->Hp->Prop}(hv:σ[i]? =some (some (.ref a)))(hq:SqL K H a xs)(h:R (Itl K a) H):DJ K (uc i) σ H R:=⟨_,hv,.inl ⟨a,rfl,⟨xs,hq⟩,h⟩⟩
theorem qu{i:Nat}{a:Addr}{xs:List V}{σ:L2.St}{H:Hp}{R:It->Hp->Prop}(hv:σ[i]? =some (some (.ref a)))(hq:SqT K H a xs)(h:R (Itt K a) H):DJ K (uc i) σ H R:=⟨_,hv,.inr (.inl ⟨a,rfl,⟨xs,hq⟩,h⟩)⟩
theorem bool_list{vs:List V}{n:Nat}{b:Nat->Bool}(hl:vs.length=n)(h:∀(i:Nat) v,vs[i]? =some v->v=.bl (b i)):vs=((az n).map b).map V.bl:=by
 apply cU
 ·simp[hl]
 ·intro i h1 h2
  have :=h i vs[i] (by simp[h1])
  simp[this]
theorem tF{α:Type}(l:List α)(d:α)(f:α->Bool):((az l.length).map fun i=>f (l.getD i d)).all id=l.all f:=by
 rw[List.all_map,js];simp only[bK,cC,Function.comp,id];constructor
 ·intro h c hc
  obtain⟨i,hi,rfl⟩:=eQ.mp hc;have :=h i hi;rw[aj,ag hi]at this;exact this
 ·intro h i hi
  have :=h _ (bq hi)
  rw[aj,ag hi];exact this
theorem getD_some{α:Type}{l:List α}{i:Nat}{d x:α}(h:l[i]? =some x):l.getD i d=x:=by
 rw[aj,h];rfl
theorem vb:∀ns:List Int,fF (ns.map D.int)=0
 | []=>rfl
 |n::ns=>by rw[bB,fF,vb ns];rfl
theorem sv(x y:Str):(x++y).length=x.length+y.length:=by
 show(x.cps++y.cps).size=_;rw[Array.size_append];rfl
end
noncomputable def HasFn(K:ae)(x:Str)(st:Stmt):Prop:=∃(f:Addr)(oc:Value)(od an:Option Addr)(osl:Array (Option Value))(kV doc pm cdv ct:Value),cF K bg x=some (some (.ref f))/\
 K.lookup f=some ⟨oc,od,.func (aH x x (bF st) (bc st) (aJ st) .none kV doc pm an cdv ct),osl⟩/\ek K cdv x=true/\cw K (.ref f)=true
theorem G3{K:ae}{x:Str}{st:Stmt}{f:Addr}{oc:Value}{od an:Option Addr}{osl:Array (Option Value)}{kV doc pm cdv ct:Value}(a:cF K bg x=some (some (.ref f)))
  (l:K.lookup f=some ⟨oc,od,.func (aH x x (bF st) (bc st) (aJ st) .none kV doc pm an cdv ct),osl⟩)(c:ek K cdv x=true)(k:cw K (.ref f)=true):HasFn K x st:=
 ⟨f,oc,od,an,osl,kV,doc,pm,cdv,ct,a,l,c,k⟩
structure Def(K:ae)(mg:Str->Option Value)(x:Str)(st:Stmt):Prop where
 ex:∃f fd,Fun K x x st f fd/\mg x=some (.ref f)
theorem HasFn.def{K:ae}{h:Heap}{mg:Str->Option Value}{x:Str}{st:Stmt}(X:K.In h)(Gm:h.Ns bg mg)(H:HasFn K x st):Def K mg x st:=by
 obtain⟨f,oc,od,an,osl,kV,doc,pm,cdv,ct,a,l,c,k⟩:=H;exact⟨f,_,AZ l c k,cB X Gm a⟩
section
variable {P:Program}{w:World}{K:ae}{mg:Str->Option Value}{base:Heap}
theorem dH{k:Nat}{vals:List (Str×V)}{fns:List ((Str×Nat)×(Sp×List V))}{x:Str}{st:Stmt}{N ps:List Str}{sp:Sp}{code:CB}{inis:List ((Str×Nat)×(Addr×Sp×List V))}{dics:List (Addr×List (Key×V))}(g:GOk P w K mg base (CXx P w) k (gam vals fns inis dics))(d:Def K mg x st)
  (hc:(mH N ps (aJ st)&&lu (aJ st) N code (bc st))=true)
  (hb:∀(kV doc pm:Value)(an:Option Addr)(cdv ct:Value)(us:List Value),us.length=ps.length->nK (aH x x (bF st) (bc st) (aJ st) .none kV doc pm an cdv ct) ⟨us,[]⟩=pure (ps.zip us))
  (len:∀vs H Q E,sp vs H Q E->vs.length=ps.length)
  (h:∀vs H Q E,sp vs H Q E->wpB (gam vals fns inis dics) K (fun _=>E) code {nx:=fun _ H'=>Q .non H',rt:=Q} (L2.start N vs) H):GOk P w K mg base (CXx P w) (k+1) (gam vals (((x,ps.length),(sp,[]))::fns) inis dics):=by
 rw[ah]at hc;obtain⟨f,fd,F,hm⟩:=d.ex;exact g.add (n:=ps.length) (B3 F hc.1 hc.2 g len h) hm F.kp (F.binds hb) .nil
end
end R
set_option hygiene false in
local macro_rules | `(tactic| walk_at "wp") => `(tactic| simp only [_root_.R.wpB, _root_.R.wpS, _root_.R.wpE, _root_.R.wpT, _root_.R.wpL, _root_.R.wpO, _root_.R.wpC, _root_.R.wpG, _root_.R.wpGs, _root_.R.wpI, _root_.L2.qD, _root_.L2.tRet, _root_.L2.EM, _root_.L2.ya, _root_.L2.rC, _root_.L2.ER, _root_.L2.tIfS, _root_.L2.EV, _root_.L2.EO, _root_.L2.tNot, _root_.L2.tAnd, _root_.L2.tOr, _root_.L2.x8, _root_.R.x6, _root_.L2.tIf, _root_.L2.tCB, _root_.L2.kh, _root_.L2.qE, _root_.L2.uc, _root_.L2.tC, _root_.L2.tOp, _root_.L2.rB, _root_.L2.tTup, _root_.L2.tLst, _root_.L2.yb, _root_.L2.tBM, _root_.L2.tSl, _root_.L2.EN, _root_.L2.vR, _root_.R.cv, _root_.L2.kj, _root_.L2.gSub, _root_.L2.gTup, _root_.L2.G6, _root_.L2.gNil, _root_.R.CGs.len, _root_.L2.GZ, _root_.L2.GY, _root_.L2.G0, _root_.List.getElem?_cons_zero, _root_.List.getElem?_cons_succ, _root_.Option.some.injEq, _root_.exists_eq_left', _root_.exists_eq_left, _root_.L2.V.bl.injEq, _root_.L2.V.int.injEq, _root_.L2.V.str.injEq, _root_.List.set_cons_zero, _root_.List.set_cons_succ, _root_.R.CL.len, _root_.R.Ty.t, _root_.R.HG, _root_.R.sub_ii, _root_.R.mul_ii, _root_.R.AD, _root_.R.div_ii, _root_.R.pow_ii, _root_.R.shr_ii, _root_.R.HF, _root_.R.Gu, _root_.R.GH, _root_.R.G4, _root_.R.sN, _root_.R.ne_ii, _root_.R.eq_ss, _root_.R.is_n, _root_.R.isnot_n, _root_.R.len_s, _root_.R.idx_s, _root_.R.cut_s, _root_.List.append_nil, _root_.R.me, _root_.List.map_cons, _root_.List.map_nil, _root_.List.nil_append, _root_.List.cons_append])
namespace Cp
open PySem R
noncomputable def As:List Str:=["thing"]
noncomputable def r8:List Str:=["thing"]
noncomputable def tm:CB:=
  (.cons (.ret (.and (.bfn .isinstance (.cons (.var 0) (.cons (.ty .int) .nil))) (.not (.bfn .isinstance (.cons (.var 0) (.cons (.ty .bool) .nil))))))
  .nil)
noncomputable def Dg:List Str:=["thing"]
noncomputable def uW:List Str:=["thing"]
noncomputable def vj:CB:=
  (.cons (.iff (.not (.bfn .isinstance (.cons (.var 0) (.cons (.ty .str) .nil))))
  (.cons (.ret (.con (.bool false)))
  .nil)
  .nil)
  (.cons (.iff (.not (.chain .LtE .LtE (.con (.int 1)) (.bfn .len (.cons (.var 0) .nil)) (.glo "LONGEST_NAME")))
  (.cons (.ret (.con (.bool false)))
  .nil)
  .nil)
  (.cons (.ret (.bfn .all (.cons (.comp ["sign"] [] (.name 0) (.seq (.var 0)) .no (.cmp .In (.var 0) (.glo "LETTERS"))) .nil)))
  .nil)))
noncomputable def wH:List Str:=["thing"]
noncomputable def ou:List Str:=["thing"]
noncomputable def oR:CB:=
  (.cons (.ret (.and (.call "is_whole" (.cons (.var 0) .nil)) (.cmp .In (.var 0) (.tup (.cons (.con (.int 0)) (.cons (.con (.int 1)) .nil))))))
  .nil)
noncomputable def rV:List Str:=["thing"]
noncomputable def lK:List Str:=["thing"]
noncomputable def md:CB:=
  (.cons (.iff (.or (.not (.bfn .isinstance (.cons (.var 0) (.cons (.ty .tuple) .nil)))) (.cmp .Gt (.bfn .len (.cons (.var 0) .nil)) (.glo "MOST_PLACES")))
  (.cons (.ret (.con (.bool false)))
  .nil)
  .nil)
  (.cons (.ret (.bfn .all (.cons (.comp ["part"] [] (.name 0) (.seq (.var 0)) .no (.call "is_reading" (.cons (.var 0) .nil))) .nil)))
  .nil))
end Cp
set_option maxHeartbeats 1000000
namespace Cp
open PySem PySem.Spec PyProof.Rows L2 R
noncomputable def gp:Option HO->String
 |some (.lst _)=>"list"
 |some (.frz _ (.lst _))=>"list"
 |some (.tup _)=>"tuple"
 |some (.dK _)=>"dict"
 |some (.dT _)=>"dict"
 |_=>"?"
noncomputable def tyName(H:Hp):V->String
 |.non=>"NoneType"
 |.bl _=>"bool"
 |.int _=>"int"
 |.str _=>"str"
 |.ref a=>gp (H a)
 |_=>"?"
noncomputable def Known(H:Hp)(x:V):Prop:=tyName H x≠"?"
theorem Known.same{H H':Hp}{x:V}(h:Known H x)(s:aG H H'):Known H' x/\tyName H' x=tyName H x:=by
 cases x with
 |ref a=>
  have h':gp (H a)≠"?":=h;show gp (H' a)≠"?"/\gp (H' a)=gp (H a);cases e:H a with
  |none=>rw[e]at h';exact absurd rfl h'
  |some o=>rw[s a o e];rw[e]at h';exact⟨h',rfl⟩
 |_=>exact⟨h,rfl⟩
theorem Known.ty{K:ae}{H:Hp}{x:V}(h:Known H x):ly K H x (.type (tyName H x)):=by
 cases x with
 |non=>exact .non
 |bl b=>exact .bl b
 |int i=>exact .int i
 |str s=>exact .str s
 |ref a=>
  have h':gp (H a)≠"?":=h;show ly K H (.ref a) (.type (gp (H a)));cases e:H a with
  |none=>rw[e]at h';exact absurd rfl h'
  |some o=>
   rw[e]at h';cases o with
   |lst xs=>exact .lst e
   |tup xs=>exact .tup e
   |dK kvs=>exact .dK e
   |dT kvs=>exact .dT e
   |frz ob u=>
    cases u with
    |lst xs=>exact .frz e
    |_=>exact absurd rfl h'
   |_=>exact absurd rfl h'
 |_=>exact absurd rfl h
theorem Known.mem{H:Hp}{x:V}(h:Known H x):tyName H x∈["NoneType","bool","int","str","list","tuple","dict"]:=by
 cases x with
 |ref a=>
  have h':gp (H a)≠"?":=h;show gp (H a)∈_;cases e:H a with
  |none=>rw[e]at h';exact absurd rfl h'
  |some o=>
   rw[e]at h';cases o with
   |lst xs=>simp[gp]
   |tup xs=>simp[gp]
   |dK kvs=>simp[gp]
   |dT kvs=>simp[gp]
   |frz ob u=>
    cases u with
    |lst xs=>simp[gp]
    |_=>exact absurd rfl h'
   |_=>exact absurd rfl h'
 |_=>first
  |exact absurd rfl h
  |simp[tyName]
noncomputable def iu(a b:String):Bool:=a==b||(a=="bool"&&b=="int")
theorem kit_ty(K:ae):∀(a:String)(t:Ty),a∈["NoneType","bool","int","str","list","tuple","dict"]->cj K (.type a) (.type t.t)=some (iu a t.t):=by
 intro a t h;simp only[aC,dj,or_false]at h;rcases h with rfl|rfl|rfl|rfl|rfl|rfl|rfl<;>cases t<;>rfl
theorem isi{K:ae}{H:Hp}{x:V}{Q:VK}(h:Known H x)(t:Ty)(q:Q (.bl (iu (tyName H x) t.t)) H):rBf K .isinstance [x,.ty t.t] H Q:=
 .inl ⟨x,t.t,_,_,rfl,h.ty,kit_ty K _ t h.mem,q⟩
theorem sx{H:Hp}{i:Int}:Known H (.int i):=by show "int"≠"?";decide
theorem kn_bl{H:Hp}{i:Bool}:Known H (.bl i):=by show "bool"≠"?";decide
theorem kn_non{H:Hp}:Known H .non:=by show "NoneType"≠"?";decide
theorem lQ{H:Hp}{x:Str}:Known H (.str x):=by show "str"≠"?";decide
theorem nj{H:Hp}{a:Addr}{xs:List V}(h:H a=some (.tup xs)):Known H (.ref a):=by show gp (H a)≠"?";rw[h];show "tuple"≠"?";decide
theorem AO{H:Hp}{a:Addr}{xs:List V}(h:H a=some (.lst xs)):Known H (.ref a):=by show gp (H a)≠"?";rw[h];show "list"≠"?";decide
theorem kn_dK{H:Hp}{a:Addr}{xs:List (Key×V)}(h:H a=some (.dK xs)):Known H (.ref a):=by show gp (H a)≠"?";rw[h];show "dict"≠"?";decide
theorem fm{H H1:Hp}{l:Addr}{o:HO}(s:aG H H1)(h:H l=none):aG H (upd H1 l o):=fun b u e=>by rw[aL (bx e h)];exact s b u e
noncomputable def isWhole:V->Bool
 |.int _=>true
 |_=>false
noncomputable def bj:V->Bool
 |.int i=>i==0||i==1
 |_=>false
noncomputable def spB(f:V->Bool):Sp:=fun vs H Q _=>∃x,vs=[x]/\Known H x/\∀H',aG H H'->Q (.bl (f x)) H'
theorem sub_int{H:Hp}{x:V}(h:Known H x):(iu (tyName H x) "int"&& !iu (tyName H x) "bool")=isWhole x:=by
 cases x with
 |ref a=>
  have h':gp (H a)≠"?":=h;show(iu (gp (H a)) "int"&& !iu (gp (H a)) "bool")=false;unfold gp;split <;>rfl
 |_=>rfl
theorem pZ{G:Gam}{K:ae}:Sat G K (spB isWhole) tm r8:=by
 rintro vs H Q E ⟨x,rfl,hk,q⟩;unfold tm;change wpB G K _ _ _ [some x] H;walk_at "wp";refine isi hk .int ⟨_,rfl,?_⟩;have e:=sub_int hk;cases h1:iu (tyName H x) "int" with
 |false=>
  rw[h1,cQ]at e;have q1:=q H (aG.refl H);rw[<-e]at q1;simpa[Ty.t,h1]using q1
 |true=>
  rw[h1,eA]at e;have q1:=q H (aG.refl H);rw[<-e]at q1;simp only[Ty.t,h1,if_true];exact isi hk .bool ⟨_,rfl,q1⟩
theorem tZ{G:Gam}{K:ae}(g1:G.fn "is_whole" 1=some (spB isWhole,[])):
  Sat G K (spB bj) oR ou:=by
 rintro vs H Q E ⟨x,rfl,hk,q⟩;unfold oR;change wpB G K _ _ _ [some x] H;walk_at "wp";refine⟨_,_,g1,x,rfl,hk,fun H1 s1=>⟨_,rfl,?_⟩⟩;cases x with
 |int i=>
  refine⟨by decide,fun p hp=>.inr ⟨p,_,rfl,.inr (SqT.of ax),rfl,rfl,?_⟩⟩;have q1:=q _ (s1.trans (aA (o:=.tup [.int 0,.int 1]) hp));have e:(if false=true then !inV (.int i) [.int 0,.int 1]else inV (.int i) [.int 0,.int 1])=bj (.int i):=by
   show((0:Int)==i||((1:Int)==i||false))=(i==0||i==1);rw[Bool.or_false,Bool.beq_comm,Bool.beq_comm (a:=(1:Int))]
  rw[e];exact q1
 |_=>exact q H1 s1
noncomputable def iI(c:Nat):Bool:=decide (97<=c/\c<=122)
noncomputable def eR(z:Str):Bool:=decide (1<=z.length/\z.length<=8)&&z.cps.toList.all iI
noncomputable def isName:V->Bool
 |.str z=>eR z
 |_=>false
noncomputable def LETTERS:Str:="abcdefghijklmnopqrstuvwxyz"
theorem yM(c:Nat):decide (c∈LETTERS.cps.toList)=iI c:=by
 unfold iI;rw[show LETTERS.cps.toList=List.range' 97 26 by decide+kernel,decide_eq_decide,List.mem_range'_1];exact⟨fun h=>⟨h.1,Nat.le_of_lt_succ h.2⟩,fun h=>⟨h.1,Nat.lt_succ_of_le h.2⟩⟩
theorem AX{K:ae}{H:Hp}{c:Nat}{Q:VK}(q:Q (.bl (iI c)) H):fX K .In (.str ⟨#[c]⟩) (.str LETTERS) H Q:=by
 refine .inl ⟨_,_,rfl,rfl,?_⟩;rw[StrLaws.found_one,yM];exact q
theorem AK:(20000:Nat)<=sizeLine:=by decide
noncomputable def spN:Sp:=fun vs H Q _=>∃x,vs=[x]/\Known H x/\(∀z,x=.str z->z.length<=20000)/\∀H',aG H H'->Q (.bl (isName x)) H'
theorem sub_str{H:Hp}{x:V}(h:Known H x):iu (tyName H x) "str"=(match x with |.str _=>true|_=>false):=by
 cases x with
 |ref a=>
  show iu (gp (H a)) "str"=false;unfold gp;split <;>rfl
 |_=>rfl
theorem zS{G:Gam}{K:ae}(v1:G.val "LETTERS"=some (.str LETTERS))(v2:G.val "LONGEST_NAME"=some (.int 8)):
  Sat G K spN vj uW:=by
 rintro vs H Q E ⟨x,rfl,hk,hz,q⟩;unfold vj;change wpB G K _ _ _ [some x] H;walk_at "wp";refine isi hk .str ⟨_,rfl,?_⟩;rw[show Ty.t .str="str" from rfl,sub_str hk];cases x with
 |str z=>
  have hz:=hz z rfl;have hl:z.length<=sizeLine:=aX hz AK;have all:∀R:VK,(∀H',aG H H'->R (.bl (z.cps.toList.all iI)) H')->uF (DJ K (uc 0)) (kj 0) tYes (tOp (fX K .In) (uc 0) fun σ H Q=>∃v,G.val "LETTERS"=some v/\Q v H) (me ["sign"] []) [some (.str z)] H fun x H2=>rBf K .all [x] H2 R:=by
   intro R hR;refine d8 (zv rfl (dZ seq_str hl (fun _ _=>trivial) (fun i v _=>v=.bl (iI (z.cps.toList.getD i 0))) (fun _ _ _ _ _ h=>h) (fun τ=>∃t,τ=[t]) ⟨none,rfl⟩ ?_ ?_))
   ·rintro i x τ H3 R hi ⟨t,rfl⟩ s3 ⟨c,hc,rfl⟩ k
    refine⟨_,rfl,_,v1,AX (k _ _ _ ⟨_,rfl⟩ (aG.refl _) ?_)⟩;have :z.cps.toList[i]? =some c:=by simpa using hc
    rw[aj,this];rfl
   ·intro vs H2 l hvl hF s2 hl2
    have e:=bool_list hvl hF;subst e;refine⟨l,_,rfl,SqL.of ax,?_⟩;have e2:((az z.length).map fun i=>iI (z.cps.toList.getD i 0)).all id=z.cps.toList.all iI:=by
     have :=tF z.cps.toList 0 iI
     rw[show z.cps.toList.length=z.length by simp[Str.length]]at this;exact this
    rw[e2];exact hR _ (s2.trans (aA hl2))
  simp only[eB,aI,if_false,v2,jq,exists_eq_left',exists_eq_left,V.bl.injEq,V.int.injEq,GH,len_s,hl,true_and];have q':∀H',aG H H'->Q (.bl (eR z)) H':=q;unfold eR at q';by_cases h1:1<=z.length
  ·by_cases h2:z.length<=8
   ·have e1:decide ((1:Int)<=z.length)=true:=decide_eq_true (by omega)
    have e2:decide ((z.length:Int)<=8)=true:=decide_eq_true (by omega);rw[decide_eq_true (And.intro h1 h2),eA]at q';simp only[e1,e2,if_true,eB,aI,if_false];exact all Q q'
   ·have e1:decide ((1:Int)<=z.length)=true:=decide_eq_true (by omega)
    have e2:decide ((z.length:Int)<=8)=false:=decide_eq_false (by omega);rw[decide_eq_false (fun h=>h2 h.2),cQ]at q';simp only[e1,e2,if_true,Bool.not_false];exact q' H (aG.refl H)
  ·have e1:decide ((1:Int)<=z.length)=false:=decide_eq_false (by omega)
   rw[decide_eq_false (fun h=>h1 h.1),cQ]at q';simp only[e1,aI,if_false,Bool.not_false,if_true];exact q' H (aG.refl H)
 |_=>exact q H (aG.refl H)
noncomputable def cz:Option HO->Option (List V)
 |some (.tup xs)=>some xs
 |_=>none
theorem kO{o:Option HO}{xs:List V}(h:cz o=some xs):o=some (.tup xs):=by
 unfold cz at h;split at h
 ·cases h;rfl
 ·cases h
theorem uG(o:Option HO):iu (gp o) "tuple"=(cz o).isSome:=by
 unfold gp;split <;>first
  |rfl
  |skip
 unfold cz;split <;>simp_all
 rfl
noncomputable def bQ(H:Hp):V->Bool
 |.ref a=>match cz (H a)with
  |some xs=>decide (xs.length<=60)&&xs.all bj
  |none=>false
 |_=>false
noncomputable def spR:Sp:=fun vs H Q _=>∃x,vs=[x]/\Known H x/\(∀a xs,x=.ref a->H a=some (.tup xs)->xs.length<=20000/\∀y∈xs,Known H y)/\∀H',aG H H'->Q (.bl (bQ H x)) H'
theorem qC{G:Gam}{K:ae}(g1:G.fn "is_reading" 1=some (spB bj,[]))(v1:G.val "MOST_PLACES"=some (.int 60)):
  Sat G K spR md lK:=by
 rintro vs H Q E ⟨x,rfl,hk,hx,q⟩;unfold md;change wpB G K _ _ _ [some x] H;walk_at "wp";refine isi hk .tuple ⟨_,rfl,?_⟩;rw[show Ty.t .tuple="tuple" from rfl];cases x with
 |ref a=>
  show if(!iu (gp (H a)) "tuple")=true then _ else _
  rw[uG];have q0:∀H',aG H H'->Q (.bl (match cz (H a)with |some xs=>decide (xs.length<=60)&&xs.all bj|none=>false)) H':=q;cases e0:cz (H a)with
  |none=>
   rw[e0]at q0;exact q0 H (aG.refl H)
  |some xs=>
    rw[e0]at q0;have e:=kO e0;have q':∀H',aG H H'->Q (.bl (decide (xs.length<=60)&&xs.all bj)) H':=q0;obtain⟨hl,hy⟩:=hx a xs rfl e;have hl':xs.length<=sizeLine:=aX hl AK;simp only[fw,eB,aI,if_false];refine Or.inl ⟨a,xs,rfl,.inr (SqT.of e),_,v1,?_⟩;rw[G4];refine⟨_,rfl,?_⟩;by_cases hle:xs.length<=60
    ·rw[decide_eq_true hle,eA]at q'
     have e1:decide ((60:Int)<xs.length)=false:=decide_eq_false (by omega);rw[e1];simp only[aI,if_false];refine d8 (qu rfl (SqT.of e) (dZ wk hl' (fun H1 s1=>s1.tup (SqT.of e)) (fun i v _=>v=.bl (bj (xs.getD i .non))) (fun _ _ _ _ _ h=>h) (fun τ=>∃t,τ=[t]) ⟨none,rfl⟩ ?_ ?_))
     ·rintro i y τ H3 R hi ⟨t,rfl⟩ s3 hy3 k
      have hym:y∈xs:=aU hy3;exact⟨_,_,g1,y,rfl,y,rfl,((hy y hym).same s3).1,fun H4 s4=>k _ _ _ ⟨_,rfl⟩ s4 (by rw[getD_some hy3])⟩
     ·intro vs H2 l hvl hF s2 hl2
      have e:=bool_list hvl hF;subst e;refine⟨l,_,rfl,SqL.of ax,?_⟩;rw[tF xs .non bj];exact q' _ (s2.trans (aA hl2))
    ·rw[decide_eq_false hle,cQ]at q'
     have e1:decide ((60:Int)<xs.length)=true:=decide_eq_true (by omega);rw[e1];simpa using q' H (aG.refl H)
 |_=>exact q H (aG.refl H)
end Cp
namespace Cp
open PySem R
noncomputable def Dh:List Str:=["thing"]
noncomputable def uX:List Str:=["thing"]
noncomputable def vk:CB:=
  (.cons (.iff (.or (.not (.bfn .isinstance (.cons (.var 0) (.cons (.ty .tuple) .nil)))) (.cmp .NotEq (.bfn .len (.cons (.var 0) .nil)) (.con (.int 2))))
  (.cons (.ret (.con (.bool false)))
  .nil)
  .nil)
  (.cons (.ret (.and (.call "is_name" (.cons (.idx (.var 0) (.con (.int 0))) .nil)) (.call "are_readings" (.cons (.idx (.var 0) (.con (.int 1))) .nil))))
  .nil))
noncomputable def Au:List Str:=["thing"]
noncomputable def r9:List Str:=["thing","names","counts"]
noncomputable def tu:CB:=
  (.cons (.iff (.or (.not (.bfn .isinstance (.cons (.var 0) (.cons (.ty .list) .nil)))) (.cmp .Gt (.bfn .len (.cons (.var 0) .nil)) (.glo "MOST_COPIES")))
  (.cons (.ret (.con (.bool false)))
  .nil)
  .nil)
  (.cons (.iff (.not (.bfn .all (.cons (.comp ["part"] [] (.name 0) (.seq (.var 0)) .no (.call "is_copy" (.cons (.var 0) .nil))) .nil)))
  (.cons (.ret (.con (.bool false)))
  .nil)
  .nil)
  (.cons (.asgc 1 (.comp ["name","readings"] [] (.tup (.cons (.name 0) (.cons (.name 1) .nil))) (.seq (.var 0)) .no (.var 0)))
  (.cons (.asgc 2 (.comp ["name","readings"] [] (.tup (.cons (.name 0) (.cons (.name 1) .nil))) (.seq (.var 0)) .no (.bfn .len (.cons (.var 1) .nil))))
  (.cons (.ret (.and (.cmp .Eq (.bfn .len (.cons (.bfn .set (.cons (.var 1) .nil)) .nil)) (.bfn .len (.cons (.var 1) .nil))) (.cmp .LtE (.bfn .len (.cons (.bfn .set (.cons (.var 2) .nil)) .nil)) (.con (.int 1)))))
  .nil)))))
noncomputable def wD:List Str:=["table"]
noncomputable def oo:List Str:=["table"]
noncomputable def oK:CB:=
  (.cons (.iff (.not (.call "is_table" (.cons (.var 0) .nil)))
  (.cons (.rais "NoTable" (.cons (.con (.str "this is no table")) .nil))
  .nil)
  .nil)
  .nil)
noncomputable def uf:List Str:=["table"]
noncomputable def mJ:List Str:=["table"]
noncomputable def mR:CB:=
  (.cons (.expr (.call "need_table" (.cons (.var 0) .nil)))
  (.cons (.iff (.cmp .Eq (.bfn .len (.cons (.var 0) .nil)) (.con (.int 0)))
  (.cons (.ret (.con (.int 0)))
  .nil)
  .nil)
  (.cons (.ret (.bfn .len (.cons (.idx (.idx (.var 0) (.con (.int 0))) (.con (.int 1))) .nil)))
  .nil)))
end Cp
namespace Cp
open PySem PySem.Spec PyProof.Rows L2 R
noncomputable def Kn1(H:Hp)(x:V):Prop:=Known H x/\∀z,x=.str z->z.length<=20000
noncomputable def Kn2(H:Hp)(x:V):Prop:=Kn1 H x/\∀a xs,x=.ref a->H a=some (.tup xs)->xs.length<=20000/\∀y∈xs,Kn1 H y
noncomputable def Kn3(H:Hp)(x:V):Prop:=Kn1 H x/\∀a xs,x=.ref a->H a=some (.tup xs)->xs.length<=20000/\∀y∈xs,Kn2 H y
noncomputable def cn:Option HO->Option (List V)
 |some (.lst xs)=>some xs
 |some (.frz _ (.lst xs))=>some xs
 |_=>none
noncomputable def Kn4(H:Hp)(x:V):Prop:=Kn1 H x/\∀a xs,x=.ref a->cn (H a)=some xs->xs.length<=20000/\∀y∈xs,Kn3 H y
theorem vF{H H':Hp}{a:Addr}{o:HO}(s:aG H H')(k:H a≠none)(h:H' a=some o):H a=some o:=by
 cases e:H a with
 |none=>exact absurd e k
 |some u=>rw[s a u e]at h;exact h
theorem Known.some{H:Hp}{a:Addr}(k:Known H (.ref a)):H a≠none:=fun e=>by
 have k':gp (H a)≠"?":=k;rw[e]at k';exact k' rfl
theorem Kn1.same{H H':Hp}{x:V}(h:Kn1 H x)(s:aG H H'):Kn1 H' x:=⟨(h.1.same s).1,h.2⟩
theorem Kn2.same{H H':Hp}{x:V}(h:Kn2 H x)(s:aG H H'):Kn2 H' x:=⟨h.1.same s,fun a xs e hx=>by
 subst e;obtain⟨l,k⟩:=h.2 a xs rfl (vF s h.1.1.some hx);exact⟨l,fun y hy=>(k y hy).same s⟩⟩
theorem Kn3.same{H H':Hp}{x:V}(h:Kn3 H x)(s:aG H H'):Kn3 H' x:=⟨h.1.same s,fun a xs e hx=>by
 subst e;obtain⟨l,k⟩:=h.2 a xs rfl (vF s h.1.1.some hx);exact⟨l,fun y hy=>(k y hy).same s⟩⟩
theorem pP{H H':Hp}{x:V}(h:Known H x)(s:aG H H'):bQ H' x=bQ H x:=by
 cases x with
 |ref a=>
  show(match cz (H' a)with |some xs=>_|none=>_)=(match cz (H a)with |some xs=>_|none=>_);cases e:H a with
  |none=>exact absurd e h.some
  |some o=>rw[s a o e]
 |_=>rfl
noncomputable def cm(H:Hp):V->Bool
 |.ref a=>match cz (H a)with
  |some [n,r]=>isName n&&bQ H r
  |_=>false
 |_=>false
theorem mo{H H':Hp}{x:V}(h:Kn3 H x)(s:aG H H'):cm H' x=cm H x:=by
 cases x with
 |ref a=>
  show(match cz (H' a)with |some [n,r]=>_|_=>_)=(match cz (H a)with |some [n,r]=>_|_=>_);cases e:H a with
  |none=>exact absurd e h.1.1.some
  |some o=>
   rw[s a o e];cases o with
   |tup xs=>
    match xs with
    | []=>rfl
    | [_]=>rfl
    | [n,r]=>
     have k:=(h.2 a _ rfl e).2 r (by simp);show(isName n&&bQ H' r)=(isName n&&bQ H r);rw[pP k.1.1 s]
    |_::_::_::_=>rfl
   |_=>rfl
 |_=>rfl
noncomputable def spC:Sp:=fun vs H Q _=>∃x,vs=[x]/\Kn3 H x/\∀H',aG H H'->Q (.bl (cm H x)) H'
theorem zT{G:Gam}{K:ae}(g1:G.fn "is_name" 1=some (spN,[]))(g2:G.fn "are_readings" 1=some (spR,[])):
  Sat G K spC vk uX:=by
 rintro vs H Q E ⟨x,rfl,hk,q⟩;unfold vk;change wpB G K _ _ _ [some x] H;walk_at "wp";refine isi hk.1.1 .tuple ⟨_,rfl,?_⟩;rw[show Ty.t .tuple="tuple" from rfl];cases x with
 |ref a=>
  show if(!iu (gp (H a)) "tuple")=true then _ else _
  rw[uG];have q0:∀H',aG H H'->Q (.bl (match cz (H a)with |some [n,r]=>isName n&&bQ H r|_=>false)) H':=q;cases e0:cz (H a)with
  |none=>
   rw[e0]at q0;exact q0 H (aG.refl H)
  |some xs=>
   have e:=kO e0;rw[e0]at q0;obtain⟨hl,hy⟩:=hk.2 a xs rfl e;simp only[fw,eB,aI,if_false];refine Or.inl ⟨a,xs,rfl,.inr (SqT.of e),?_⟩;show fX K .NotEq (.int (xs.length:Int)) (.int 2) H _;rw[ne_ii];refine⟨_,rfl,?_⟩
   match xs,hl,hy,e,q0 with
   | [],_,_,_,q0=>exact q0 H (aG.refl H)
   | [_],_,_,_,q0=>exact q0 H (aG.refl H)
   |_::_::_::r,_,_,_,q0=>
    rw[if_pos (by simp;omega)];exact q0 H (aG.refl H)
   | [n,r],_,hy,e,q0=>
    rw[if_neg (by simp)];have kn:=hy n (by simp);have kr:=hy r (by simp);refine⟨_,_,g1,.inr (.inl ⟨a,[n,r],0,n,rfl,rfl,SqT.of e,rfl,n,rfl,kn.1.1,kn.1.2,fun H1 s1=>⟨_,rfl,?_⟩⟩)⟩;have q1:∀H',aG H H'->Q (.bl (isName n&&bQ H r)) H':=q0;cases en:isName n with
    |false=>
     rw[en,cQ]at q1;rw[if_neg aq];exact q1 H1 s1
    |true=>
     rw[en,eA]at q1;rw[if_pos rfl];have kr1:=kr.same s1;refine⟨_,_,g2,.inr (.inl ⟨a,[n,r],1,r,rfl,rfl,s1.tup (SqT.of e),rfl,r,rfl,kr1.1.1,fun b ys eb hb=>?_,fun H2 s2=>?_⟩)⟩
     ·obtain⟨l,k⟩:=kr1.2 b ys eb hb
      exact⟨l,fun y hy=>(k y hy).1⟩
     ·rw[pP kr.1.1 s1]
      exact q1 H2 (s1.trans s2)
 |_=>exact q H (aG.refl H)
theorem yI{xs vs:List V}{f:V->V}(hl:vs.length=xs.length)(h:∀(i:Nat) v,vs[i]? =some v->v=f (xs.getD i .non)):vs=xs.map f:=by
 apply cU
 ·simp[hl]
 ·intro i h1 h2
  have h3:i<xs.length:=by omega
  have :=h i vs[i] (by simp[h1])
  rw[this,dJ,aj,ag h3];rfl
theorem uT:∀(l:List Str),(l.map (eS:Str->Key)).Nodup↔l.Nodup
 | []=>by simp
 |x::l=>by
  rw[bB,cS,cS,uT l];have e:eS x∈l.map (eS:Str->Key)↔x∈l:=by
   constructor
   ·intro h
    obtain⟨y,hy,e⟩:=aV.mp h;injection e with e
    rw[<-e];exact hy
   ·exact fun h=>aV.mpr ⟨x,h,rfl⟩
  rw[e]
theorem iz{K:ae}{H:Hp}{a:Addr}{xs:List V}(h:cn (H a)=some xs):SqL K H a xs:=by
 unfold cn at h;split at h
 ·rename_i e;cases h;exact .inl (.inl e)
 ·rename_i o _ e;cases h;exact .inl (.inr ⟨o,e⟩)
 ·cases h
theorem EW(o:Option HO):iu (gp o) "list"=(cn o).isSome:=by
 unfold gp;split <;>first
  |rfl
  |skip
 unfold cn;split <;>simp_all
 rfl
noncomputable def aE(H:Hp):V->Str
 |.ref a=>match cz (H a)with
  |some (.str z::_)=>z
  |_=>""
 |_=>""
noncomputable def bE(H:Hp):V->Nat
 |.ref a=>match cz (H a)with
  |some [_,.ref b]=>(cz (H b)).elim 0 fz
  |_=>0
 |_=>0
theorem gz{H:Hp}{x:V}(h:cm H x=true):∃a z b ys,x=.ref a/\H a=some (.tup [.str z,.ref b])/\H b=some (.tup ys)/\eR z=true/\ys.length<=60/\(∀y∈ys,bj y=true)/\aE H x=z/\bE H x=ys.length:=by
 cases x with
 |ref a=>
  have h':(match cz (H a)with |some [n,r]=>isName n&&bQ H r|_=>false)=true:=h;split at h'
  ·rename_i n r e
   rw[ah]at h';obtain⟨h1,h2⟩:=h';cases n with
   |str z=>
    cases r with
    |ref b=>
     have h3:(match cz (H b)with |some xs=>decide (xs.length<=60)&&xs.all bj|none=>false)=true:=h2;split at h3
     ·rename_i ys eb
      rw[ah,decide_eq_true_eq,bK]at h3;refine⟨a,z,b,ys,rfl,kO e,kO eb,h1,h3.1,h3.2,?_,?_⟩
      ·show(match cz (H a)with |some (.str z::_)=>z|_=>"")=z
       rw[e]
      ·show(match cz (H a)with |some [_,.ref b]=>(cz (H b)).elim 0 fz|_=>0)=ys.length
       rw[e];show(cz (H b)).elim 0 fz=ys.length;rw[eb];rfl
     ·cases h3
    |_=>cases h2
   |_=>cases h1
  ·cases h'
 |_=>cases h
noncomputable def bO(H:Hp):V->Bool
 |.ref a=>match cn (H a)with
  |some xs=>decide (xs.length<=40)&&(xs.all (cm H)&&(decide ((xs.map (aE H)).Nodup)&&decide (∀y∈xs,∀z∈xs,bE H y=bE H z)))
  |none=>false
 |_=>false
noncomputable def spT:Sp:=fun vs H Q _=>∃x,vs=[x]/\Kn4 H x/\∀H',aG H H'->Q (.bl (bO H x)) H'
theorem xZ{G:Gam}{K:ae}(g1:G.fn "is_copy" 1=some (spC,[]))(v1:G.val "MOST_COPIES"=some (.int 40)):
  Sat G K spT tu r9:=by
 rintro vs H Q E ⟨x,rfl,hk,q⟩;unfold tu;change wpB G K _ _ _ [some x,none,none] H;walk_at "wp";refine isi hk.1.1 .list ⟨_,rfl,?_⟩;rw[show Ty.t .list="list" from rfl];cases x with
 |ref a=>
  show if(!iu (gp (H a)) "list")=true then _ else _
  rw[EW];have q0:∀H',aG H H'->Q (.bl (match cn (H a)with |some xs=>decide (xs.length<=40)&&(xs.all (cm H)&&(decide ((xs.map (aE H)).Nodup)&&decide (∀y∈xs,∀z∈xs,bE H y=bE H z))) |none=>false)) H':=q;cases e0:cn (H a)with
  |none=>
   rw[e0]at q0;exact q0 H (aG.refl H)
  |some xs=>
   rw[e0]at q0;obtain⟨hl,hy⟩:=hk.2 a xs rfl e0;have hl':xs.length<=sizeLine:=aX hl AK;simp only[fw,eB,aI,if_false];refine Or.inl ⟨a,xs,rfl,.inl (iz e0),_,v1,?_⟩;rw[G4];refine⟨_,rfl,?_⟩;by_cases hle:xs.length<=40
   ·rw[decide_eq_false (by omega:¬(40:Int)<xs.length),if_neg aq]
    have qq:∀H',aG H H'->Q (.bl (xs.all (cm H)&&(decide ((xs.map (aE H)).Nodup)&&decide (∀y∈xs,∀z∈xs,bE H y=bE H z)))) H':=fun H' s'=>by
     have z:Q (.bl (decide (xs.length<=40)&&(xs.all (cm H)&&(decide ((xs.map (aE H)).Nodup)&&decide (∀y∈xs,∀z∈xs,bE H y=bE H z))))) H':=q0 H' s';rw[decide_eq_true hle,eA]at z;exact z
    have sq:∀{H1:Hp},aG H H1->SqL K H1 a xs:=fun s1=>s1.seq (iz e0);refine d8 (dS rfl (iz e0) (dZ fN hl' (fun H1 s1=>sq s1) (fun i v _=>v=.bl (cm H (xs.getD i .non))) (fun _ _ _ _ _ h=>h) (fun τ=>∃t,τ=[t]) ⟨none,rfl⟩ ?_ ?_))
    ·rintro i y τ H3 R hi ⟨t,rfl⟩ s3 hy3 k
     have ky:=hy y (aU hy3);exact⟨_,_,g1,y,rfl,y,rfl,ky.same s3,fun H4 s4=>k _ _ _ ⟨_,rfl⟩ s4 (by rw[getD_some hy3,mo ky s3])⟩
    intro vs H2 l hvl hF s2 hl2;have e:=bool_list hvl hF;subst e;refine⟨l,_,rfl,SqL.of ax,_,rfl,?_⟩;rw[tF xs .non (cm H)];have s3:aG H (upd H2 l (.lst (((az xs.length).map fun i=>cm H (xs.getD i .non)).map V.bl))):=s2.trans (aA hl2);generalize upd H2 l (.lst (((az xs.length).map fun i=>cm H (xs.getD i .non)).map V.bl))=H3 at s3;cases ea:xs.all (cm H)with
    |false=>
     rw[ea,cQ]at qq;rw[if_pos (by rfl)];exact qq H3 s3
    |true=>
     rw[ea,eA]at qq;rw[if_neg (by simp)];rw[bK]at ea;have sh:∀{i:Nat}{y:V},xs[i]? =some y->∃a z b ys,y=.ref a/\H a=some (.tup [.str z,.ref b])/\H b=some (.tup ys)/\aE H y=z/\bE H y=ys.length:=fun hy3=>by
      obtain⟨a,z,b,ys,h1,h2,h3,_,_,_,h7,h8⟩:=gz (ea _ (aU hy3));exact⟨a,z,b,ys,h1,h2,h3,h7,h8⟩
     refine d8 (dS rfl (sq s3) (dZ fN hl' (fun H1 s1=>sq (s3.trans s1)) (fun i v _=>v=.str (aE H (xs.getD i .non))) (fun _ _ _ _ _ h=>h) (fun τ=>∃t u,τ=[t,u]) ⟨none,none,rfl⟩ ?_ ?_))
     ·rintro i y τ H4 R hi ⟨t,u,rfl⟩ s4 hy3 k
      obtain⟨b,z,c,ys,rfl,h1,h2,h3,h4⟩:=sh hy3;refine⟨b,_,rfl,(s3.trans s4).tup (SqT.of h1),rfl,_,_,rfl,_,_,rfl,rfl,_,rfl,k _ _ _ ⟨_,_,rfl⟩ (aG.refl _) ?_⟩;rw[getD_some hy3,h3]
     intro vs1 H4 l1 hvl1 hF1 s4 hl4;have e1:vs1=xs.map fun y=>V.str (aE H y):=yI hvl1 hF1;subst e1;have s5:aG H (upd H4 l1 (.lst (xs.map fun y=>V.str (aE H y)))):=s3.trans (s4.trans (aA hl4));have n1:SqL K (upd H4 l1 (.lst (xs.map fun y=>V.str (aE H y)))) l1 (xs.map fun y=>V.str (aE H y)):=SqL.of ax;generalize upd H4 l1 (.lst (xs.map fun y=>V.str (aE H y)))=H5 at s5 n1;refine d8 (dS rfl (sq s5) (dZ fN hl' (fun H1 s1=>sq (s5.trans s1)) (fun i v _=>v=.int (bE H (xs.getD i .non))) (fun _ _ _ _ _ h=>h) (fun τ=>∃t u,τ=[t,u]) ⟨none,none,rfl⟩ ?_ ?_))
     ·rintro i y τ H6 R hi ⟨t,u,rfl⟩ s6 hy3 k
      obtain⟨b,z,c,ys,rfl,h1,h2,h3,h4⟩:=sh hy3;refine⟨b,_,rfl,(s5.trans s6).tup (SqT.of h1),rfl,_,_,rfl,_,_,rfl,rfl,_,rfl,Or.inl ⟨c,ys,rfl,.inr ((s5.trans s6).tup (SqT.of h2)),k _ _ _ ⟨_,_,rfl⟩ (aG.refl _) ?_⟩⟩;rw[getD_some hy3,h4]
     intro vs2 H6 l2 hvl2 hF2 s6 hl6;have e2:vs2=xs.map fun y=>V.int (bE H y):=yI hvl2 hF2;subst e2;have s7:aG H5 (upd H6 l2 (.lst (xs.map fun y=>V.int (bE H y)))):=s6.trans (aA hl6);have n2:SqL K (upd H6 l2 (.lst (xs.map fun y=>V.int (bE H y)))) l2 (xs.map fun y=>V.int (bE H y)):=SqL.of ax;generalize upd H6 l2 (.lst (xs.map fun y=>V.int (bE H y)))=H7 at s7 n2;have ek1:(xs.map fun y=>(eS (aE H y):Key)).map kV=xs.map fun y=>V.str (aE H y):=by rw[dB];rfl
     have ek2:(xs.map fun y=>(eT (bE H y:Int):Key)).map kV=xs.map fun y=>V.int (bE H y):=by rw[dB];rfl
     refine⟨l1,xs.map fun y=>(eS (aE H y):Key),rfl,by rw[ek1];exact s7.seq n1,by rw[ao];omega,fun c1 hc1=>?_⟩;refine .inr (.inr ⟨c1,_,rfl,ax,?_⟩);have s8:aG H7 (upd H7 c1 (_root_.Q.Af c1 (_root_.Q.met (xs.map fun y=>(eS (aE H y):Key))).length)):=aA hc1;generalize upd H7 c1 (_root_.Q.Af c1 (_root_.Q.met (xs.map fun y=>(eS (aE H y):Key))).length)=H8 at s8;refine Or.inl ⟨l1,_,rfl,.inl (s8.seq (s7.seq n1)),?_⟩;show fX K .Eq (.int ((_root_.Q.met (xs.map fun y=>(eS (aE H y):Key))).length:Int)) (.int ((xs.map fun y=>V.str (aE H y)).length:Int)) H8 _;rw[sN];refine⟨_,rfl,?_⟩;have hnd:decide (((_root_.Q.met (xs.map fun y=>(eS (aE H y):Key))).length:Int)=((xs.map fun y=>V.str (aE H y)).length:Int))=decide ((xs.map (aE H)).Nodup):=by
      rw[decide_eq_decide,ao];have hm:(xs.map fun y=>(eS (aE H y):Key)).Nodup↔(xs.map (aE H)).Nodup:=by
       have :(xs.map fun y=>(eS (aE H y):Key))=(xs.map (aE H)).map eS:=by rw[dB];rfl
       rw[this];exact uT _
      constructor
      ·intro z
       refine hm.mp (_root_.Q.wN ?_);rw[ao];exact Int.ofNat.inj z
      ·intro z
       rw[_root_.Q.Dw (hm.mpr z),ao]
     rw[hnd];have s9:aG H H8:=s5.trans (s7.trans s8);cases en:decide ((xs.map (aE H)).Nodup)with
     |false=>
      rw[en,cQ]at qq;rw[if_neg aq];exact qq H8 s9
     |true=>
      rw[en,eA]at qq;rw[if_pos rfl];refine⟨l2,xs.map fun y=>(eT (bE H y:Int):Key),rfl,by rw[ek2];exact s8.seq n2,by rw[ao];omega,fun c2 hc2=>?_⟩;refine .inr (.inr ⟨c2,_,rfl,ax,?_⟩);show fX K .LtE (.int ((_root_.Q.met (xs.map fun y=>(eT (bE H y:Int):Key))).length:Int)) (.int 1) _ Q;rw[GH];have hone:decide (((_root_.Q.met (xs.map fun y=>(eT (bE H y:Int):Key))).length:Int)<=1)=decide (∀y∈xs,∀z∈xs,bE H y=bE H z):=by
       rw[decide_eq_decide];have h1:((_root_.Q.met (xs.map fun y=>(eT (bE H y:Int):Key))).length:Int)<=1↔(_root_.Q.met (xs.map fun y=>(eT (bE H y:Int):Key))).length<=1:=by omega
       rw[h1,_root_.Q.met_one];constructor
       ·intro z y hy1 y' hy2
        have :=z _ (aV.mpr ⟨y,hy1,rfl⟩) _ (aV.mpr ⟨y',hy2,rfl⟩)
        injection this with this;omega
       ·intro z k1 hk1 k2 hk2
        obtain⟨y,hy1,rfl⟩:=aV.mp hk1;obtain⟨y',hy2,rfl⟩:=aV.mp hk2;rw[z y hy1 y' hy2]
      rw[hone];exact qq _ (s9.trans (aA hc2))
   ·rw[decide_eq_true (by omega:(40:Int)<xs.length),if_pos rfl]
    have q1:Q (.bl (decide (xs.length<=40)&&(xs.all (cm H)&&(decide ((xs.map (aE H)).Nodup)&&decide (∀y∈xs,∀z∈xs,bE H y=bE H z))))) H:=q0 H (aG.refl H);rw[decide_eq_false hle,cQ]at q1;exact q1
 |_=>exact q H (aG.refl H)
noncomputable def XC(K:ae)(C:Addr):Prop:=cw K (.ref C)=true/\PySem.W.excIn K C bmV "ValueError.__new__"=true
theorem Kn4.same{H H':Hp}{x:V}(h:Kn4 H x)(s:aG H H'):Kn4 H' x:=⟨h.1.same s,fun a xs e hx=>by
 subst e;have hx':cn (H a)=some xs:=by
  cases e:H a with
  |none=>exact absurd e h.1.1.some
  |some o=>rw[s a o e]at hx;exact hx
 obtain⟨l,k⟩:=h.2 a xs rfl hx';exact⟨l,fun y hy=>(k y hy).same s⟩⟩
theorem F7:(1:Nat)<=sizeLine:=by decide
noncomputable def rJ(C:Addr):Sp:=fun vs H Q E=>∃x,vs=[x]/\Kn4 H x/\(bO H x=true->∀H',aG H H'->Q .non H')/\(bO H x=false->∀H',aG H H'->E (.ref C) none H')
theorem tY{G:Gam}{K:ae}{C:Addr}(g1:G.fn "is_table" 1=some (spT,[]))(v1:G.val "NoTable"=some (.ref C))(xc:XC K C):
  Sat G K (rJ C) oK oo:=by
 rintro vs H Q E ⟨x,rfl,hk,q1,q2⟩;unfold oK;change wpB G K _ _ _ [some x] H;walk_at "wp";refine⟨_,_,g1,x,rfl,hk,fun H1 s1=>⟨_,rfl,?_⟩⟩;cases e:bO H x with
 |true=>
  rw[if_neg (by simp)];exact q1 e H1 s1
 |false=>
  rw[if_pos (by rfl)];exact⟨C,v1,xc.1,xc.2,F7,q2 e H1 s1⟩
noncomputable def count(H:Hp):V->Nat
 |.ref a=>match cn (H a)with
  |some (y::_)=>bE H y
  |_=>0
 |_=>0
theorem cT{H:Hp}{x:V}(h:bO H x=true):∃a xs,x=.ref a/\cn (H a)=some xs/\xs.length<=40/\(∀y∈xs,cm H y=true)/\(xs.map (aE H)).Nodup/\∀y∈xs,bE H y=count H x:=by
 cases x with
 |ref a=>
  have h':(match cn (H a)with |some xs=>decide (xs.length<=40)&&(xs.all (cm H)&&(decide ((xs.map (aE H)).Nodup)&&decide (∀y∈xs,∀z∈xs,bE H y=bE H z))) |none=>false)=true:=h;split at h'
  ·rename_i xs e
   rw[ah,ah,ah,decide_eq_true_eq,decide_eq_true_eq,decide_eq_true_eq,bK]at h';obtain⟨h1,h2,h3,h4⟩:=h';refine⟨a,xs,rfl,e,h1,h2,h3,fun y hy=>?_⟩;show _=(match cn (H a)with |some (y::_)=>bE H y|_=>0);rw[e];cases xs with
   |nil=>cases hy
   |cons z r=>exact h4 y hy z (.head _)
  ·cases h'
 |_=>cases h
noncomputable def vZ(C:Addr):Sp:=fun vs H Q E=>∃x,vs=[x]/\Kn4 H x/\(bO H x=true->∀H',aG H H'->Q (.int (count H x)) H')/\(bO H x=false->∀H',aG H H'->E (.ref C) none H')
theorem rh{G:Gam}{K:ae}{C:Addr}(g1:G.fn "need_table" 1=some (rJ C,[])):
  Sat G K (vZ C) mR mJ:=by
 rintro vs H Q E ⟨x,rfl,hk,q1,q2⟩;unfold mR;change wpB G K _ _ _ [some x] H;walk_at "wp";refine⟨_,_,g1,x,rfl,hk,fun e H1 s1=>?_,q2⟩;obtain⟨a,xs,rfl,h1,h2,h3,h4,h5⟩:=cT e;have sq:SqL K H1 a xs:=s1.seq (iz h1);refine Or.inl ⟨a,xs,rfl,.inl sq,?_⟩;show fX K .Eq (.int (xs.length:Int)) (.int 0) H1 _;rw[sN];refine⟨_,rfl,?_⟩;cases xs with
 |nil=>
  rw[if_pos (by rfl)];have z:=q1 e H1 s1;have ec:count H (.ref a)=0:=by
   show(match cn (H a)with |some (y::_)=>bE H y|_=>0)=0;rw[h1]
  rw[ec]at z;exact z
 |cons y r=>
  rw[if_neg (by simp;omega)];obtain⟨b,z,c,ys,rfl,k1,k2,_,_,_,_,k8⟩:=gz (h3 y (.head _));refine .inl ⟨a,_,0,.ref b,rfl,rfl,sq,cH (j:=0) rfl,?_⟩;refine .inr (.inl ⟨b,_,1,.ref c,rfl,rfl,s1.tup (SqT.of k1),rfl,?_⟩);refine Or.inl ⟨c,ys,rfl,.inr (s1.tup (SqT.of k2)),?_⟩;have w:=q1 e H1 s1;rw[<-h5 _ (.head _),k8]at w;exact w
noncomputable def isPlace(H:Hp)(x:V):V->Bool
 |.int i=>decide (0<=i/\i<count H x)
 |_=>false
noncomputable def kK(H:Hp):V->List V
 |.ref a=>match cz (H a)with
  |some [_,.ref b]=>(cz (H b)).getD []
  |_=>[]
 |_=>[]
noncomputable def at_(H:Hp)(i:Int)(y:V):V:=(kK H y).getD i.toNat .non
theorem gP{H:Hp}{x:V}(h:cm H x=true):∃a b,x=.ref a/\H a=some (.tup [.str (aE H x),.ref b])/\H b=some (.tup (kK H x))/\(kK H x).length=bE H x/\∀y∈kK H x,bj y=true:=by
 obtain⟨a,z,b,ys,rfl,h1,h2,_,_,h6,h7,h8⟩:=gz h;have e:kK H (.ref a)=ys:=by
  show(match cz (H a)with |some [_,.ref b]=>(cz (H b)).getD [] |_=>[])=ys;rw[h1];show(cz (H b)).getD []=ys;rw[h2];rfl
 refine⟨a,b,rfl,by rw[h7];exact h1,by rw[e];exact h2,by rw[e,h8],by rw[e];exact h6⟩
theorem Bc{H:Hp}{x y:V}{i:Int}(h:cm H y=true)(hc:bE H y=count H x)(hi:isPlace H x (.int i)=true):atI (kK H y) i=some (at_ H i y)/\bj (at_ H i y)=true:=by
 have hi':0<=i/\i<count H x:=of_decide_eq_true hi;obtain⟨a,b,_,_,_,h4,h5⟩:=gP h;have hlt:i.toNat<(kK H y).length:=by omega
 have e:(kK H y)[i.toNat]? =some (at_ H i y):=by
  unfold at_;rw[aj,ag hlt];rfl
 refine⟨?_,h5 _ (aU e)⟩;have :=cH (j:=i.toNat) e
 rwa [show((i.toNat:Nat):Int)=i by omega]at this
theorem fu{v:V}(h:bj v=true):v=.int 0\/v=.int 1:=by
 cases v with
 |int i=>
  have h':(i==0||i==1)=true:=h;rw[cD,beq_iff_eq,beq_iff_eq]at h';rcases h' with rfl|rfl
  ·exact .inl rfl
  ·exact .inr rfl
 |_=>cases h
theorem ve{J:It}{Hc:Hp->Prop}{g:TG}{tc:TT}{te:TE}{Q:VK}{τ0:L2.St}{H1:Hp}{xs:List V}(S:tG J xs.length (fun i x _=>xs[i]? =some x) Hc)(hn:xs.length<=sizeLine)(hc:∀H,aG H1 H->Hc H)
  (t:V->Bool)(f:V->V)(T:L2.St->Prop)(hT:T τ0)
  (step:∀x τ H3 (Rt:L2.St->V->Hp->Prop)(Rf:L2.St->Hp->Prop),x∈xs->T τ->aG H1 H3->(∀τ' H6,T τ'->aG H3 H6->t x=true->Rt τ' (f x) H6)->(∀τ' H6,T τ'->aG H3 H6->t x=false->Rf τ' H6)->
   g x τ H3 fun τ4 H4=>tc τ4 H4 fun b H5=>if b=true then te τ4 H5 (Rt τ4)else Rf τ4 H5)
  (fin:∀H2 l,aG H1 H2->H2 l=none->Q (.ref l) (upd H2 l (.lst ((xs.filter t).map f)))):Cm J g tc te τ0 H1 Q:=by
 refine⟨fun i m τ acc H2=>m=xs.length-i/\i<=xs.length/\T τ/\acc=((xs.take i).filter t).map f/\aG H1 H2,⟨xs.length,by simp,bA _,hT,by simp,aG.refl _⟩,?_⟩;rintro i m τ acc H2 ⟨rfl,hi,ht,rfl,sm⟩;have q:=hc H2 sm;by_cases hlt:i<xs.length
 ·refine .inr ⟨S.go i H2 q hlt,fun τ' acc' H'=>T τ'/\acc'=((xs.take (i+1)).filter t).map f/\aG H1 H',fun τ' acc' H' ⟨a,b,c⟩=>⟨xs.length-(i+1),by omega,rfl,hlt,a,b,c⟩,fun x H3 y=>?_⟩
  obtain⟨y1,y2⟩:=S.yld i H2 x H3 q hlt y;have e:xs.take (i+1)=xs.take i++[x]:=by rw[dU,y1];rfl
  have hlen:(((xs.take i).filter t).map f).length<=i:=by
   rw[ao];refine aX (List.length_filter_le _ _) ?_;rw[dk];omega
  refine step x τ H3 _ _ (aU y1) ht (sm.trans y2) (fun τ' H6 h1 h2 h3=>⟨by omega,h1,?_,(sm.trans y2).trans h2⟩) (fun τ' H6 h1 h2 h3=>⟨h1,?_,(sm.trans y2).trans h2⟩)
  ·rw[e,kc,de]
   simp[h3]
  ·rw[e,kc,de]
   simp[h3]
 ·have e:i=xs.length:=by omega
  subst e;rw[fj];exact .inl ⟨S.stop _ H2 q (aw _),fun l hl'=>fin H2 l sm hl'⟩
end Cp
namespace Lt
open PySem R
noncomputable def ug:List Str:=["_law_script","_law_k"]
noncomputable def mK:List Str:=["_law_script","_law_k"]
noncomputable def m6:CB:=
  (.cons (.iff (.cmp .Lt (.var 1) (.bfn .len (.cons (.var 0) .nil)))
  (.cons (.ret (.idx (.var 0) (.var 1)))
  .nil)
  .nil)
  (.cons (.ret (.con (.int 0)))
  .nil))
end Lt
namespace Lt
open PySem PySem.Spec PyProof.Rows L2 R Cp
theorem B8{i j:Int}(h0:0<=j)(h1:j<18446744073709551616):Bh i j:=.inr ⟨by omega,by omega⟩
theorem mP{i j:Int}(h0:0<=i)(h1:i<18446744073709551616):Bh i j:=.inl ⟨by omega,by omega⟩
noncomputable def Aa(K:ae):Sp:=fun vs H Q _=>∃(a:Addr)(ns:List Int)(k:Nat),vs=[.ref a,.int k]/\SqL K H a (ns.map V.int)/\Q (.int (ns.getD k 0)) H
theorem wp_cell{G:Gam}{K:ae}:Sat G K (Aa K) m6 mK:=by
 rintro vs H Q E ⟨a,ns,k,rfl,hs,q⟩;unfold m6;change wpB G K _ _ _ [some (.ref a),some (.int k)] H;walk_at "wp";refine Or.inl ⟨a,_,rfl,.inl hs,?_⟩;show fX K .Lt (.int (k:Int)) (.int ((ns.map V.int).length:Int)) H _;rw[Gu,ao];refine⟨_,rfl,?_⟩;by_cases hk:k<ns.length
 ·rw[decide_eq_true (by omega:(k:Int)<(ns.length:Int)),if_pos rfl]
  refine .inl ⟨a,_,k,_,rfl,rfl,hs,cH (j:=k) (v:=.int (ns.getD k 0)) ?_,q⟩;rw[aF,ag hk,aj,ag hk];rfl
 ·rw[decide_eq_false (by omega:¬(k:Int)<(ns.length:Int)),if_neg aq]
  rw[aj,dc (by omega)]at q;exact q
theorem mod2(x:Int):bj (.int (x%2))=true:=by
 have h0:0<=x%2:=bw _ (by decide);have h1:x%2<2:=bL _ (by decide);have h:x%2=0\/x%2=1:=by omega
 rcases h with h|h<;>rw[h]<;>rfl
noncomputable def wW(x:Int):Nat:=97+(x%26).toNat
theorem lett_ok(x:Int):iI (wW x)=true:=by
 have h0:0<=x%26:=bw _ (by decide);have h1:x%26<26:=bL _ (by decide);unfold iI wW;exact decide_eq_true (by omega)
theorem GG{x y:Int}(h:wW x=wW y):x%26=y%26:=by
 have h0:0<=x%26:=bw _ (by decide);have h1:0<=y%26:=bw _ (by decide);unfold wW at h;have e:=Nat.add_left_cancel h;rw[<-Int.toNat_of_nonneg h0,<-Int.toNat_of_nonneg h1,e]
noncomputable abbrev mkS(l:List Nat):Str:=⟨l.toArray⟩
theorem mk_app(a b:List Nat):mkS a++mkS b=mkS (a++b):=by
 show(⟨a.toArray++b.toArray⟩:Str)=⟨(a++b).toArray⟩;rw[List.append_toArray]
theorem sg(a:List Nat):(mkS a).length=a.length:=by show a.toArray.size=_;simp
theorem Hm(l:List Nat)(k:Nat):A3 (mkS l) none (some (k:Int))=mkS (l.take k):=by
 unfold A3;rw[HT.n9,HT.rO,sg];show mkS _=_;congr 1;show((l.toArray.toList.drop 0).take (min k l.length-0))=l.take k;rw[List.drop_zero,Nat.sub_zero];show l.take (min k l.length)=l.take k;by_cases h:k<=l.length
 ·rw[Nat.min_eq_left h]
 ·rw[Nat.min_eq_right (by omega),fj,fE (by omega)]
theorem AL:∀j:Fin 26,LETTERS.cps.toList[j.val]? =some (97+j.val):=by decide+kernel
theorem Bb(x:Int):atI LETTERS.cps.toList (x%26)=some (wW x):=by
 have h0:0<=x%26:=bw _ (by decide);have h1:x%26<26:=bL _ (by decide);obtain⟨j,hj⟩:=cN h0;rw[hj];refine cH ?_;have :=AL ⟨j,by omega⟩;rw[this];unfold wW;rw[hj];rfl
theorem wV:LETTERS.length<=sizeLine:=by decide+kernel
theorem short{n:Nat}(h:n<=40):n<=sizeLine:=aX h (by decide)
theorem mk1(x:Nat):(⟨#[x]⟩:Str)=mkS [x]:=rfl
end Lt
namespace Q
open PySem PySem.Spec PySem.W PyProof.Rows L2
theorem yr{ks:List Str}(nd:ks.Nodup):(ord ks).Perm (az ks.length):=by
 unfold ord;split
 ·exact d4 _
 ·have P:=(fO (rq nd) (by omega)).1
  have :=gc.mp P.perm
  simpa using this
theorem range_getD{α:Type}(d:α)(ys:List α):(az ys.length).map (fun i=>ys.getD i d)=ys:=by
 apply cU
 ·simp
 ·intro i h1 h2
  simp[h2]
theorem eG{α:Type}(d:α){ks:List Str}{ys:List α}(nd:ks.Nodup)(hl:ks.length=ys.length):(sortBy d ks ys).Perm ys:=by
 unfold sortBy;have h:=(yr nd).map fun i=>ys.getD i d;rw[hl,range_getD]at h;exact h
theorem ie{ks:List Str}(nd:ks.Nodup):(sortBy ("":Str) ks ks).Pairwise fun a b=>tlt a b=true:=by
 unfold sortBy ord;split
 ·rename_i h
  rw[range_getD]
  match ks,h with
  | [],_=>exact .nil
  | [x],_=>simp
  |_::_::_,h=>simp at h;omega
 ·rename_i h
  obtain⟨P,U,_⟩:=fO (rq nd) (by omega:1<=ks.length);rw[kH];intro i j hi hj hij;have hi':i<ks.length:=by simpa[P.size]using hi
  have hj':j<ks.length:=by simpa[P.size]using hj
  have u:=U i j hij hj';rw[dJ,dJ];have e:∀(k:Nat)(hk:k<(run (lN ks) (dz ks.length)).toList.length),(run (lN ks) (dz ks.length)).toList[k]=at' (run (lN ks) (dz ks.length)) k:=fun k hk=>by
   have hk':k<(run (lN ks) (dz ks.length)).size:=by simpa using hk
   simp[at',hk']
  rw[e,e];exact u
theorem CV{x y:Str}(a:tlt x y=true)(b:tlt y x=true):False:=by
 have c:=uE a b;unfold tlt at c;exact List.lt_irrefl _ (of_decide_eq_true c)
theorem jO:∀{l m:List Str},l.Perm m->l.Pairwise (fun a b=>tlt a b=true)->m.Pairwise (fun a b=>tlt a b=true)->l=m
 | [],m,p,_,_=>by rw[List.nil_perm.mp p]
 |x::l,[],p,_,_=>by simpa using p.length_eq
 |x::l,y::m,p,h1,h2=>by
  rw[List.pairwise_cons]at h1 h2;have e:x=y:=by
   by_cases e:x=y
   ·exact e
   ·have hx:x∈m:=by
     have :=p.mem_iff.mp (aS (a:=x) (l:=l))
     rcases aC.mp this with z|z
     ·exact absurd z e
     ·exact z
    have hy:y∈l:=by
     have :=p.mem_iff.mpr (aS (a:=y) (l:=m))
     rcases aC.mp this with z|z
     ·exact absurd z.symm e
     ·exact z
    exact(CV (h1.1 y hy) (h2.1 x hx)).elim
  subst e;rw[jO (List.perm_cons x |>.mp p) h1.2 h2.2]
theorem p6{α:Type}(d:α)(f:α->Str)(p:α->Bool){ys:List α}(nd:(ys.map f).Nodup):((sortBy d (ys.map f) ys).filter p).map f=sortBy ("":Str) ((ys.filter p).map f) ((ys.filter p).map f):=by
 have nd2:((ys.filter p).map f).Nodup:=nd.sublist (ph.map _);refine jO ?_ ?_ (ie nd2)
 ·exact(((eG d nd (by simp)).filter p).map f).trans (eG ("":Str) nd2 rfl).symm
 ·have h:((sortBy d (ys.map f) ys).map f).Pairwise fun a b=>tlt a b=true:=by
   have r:=ie nd;unfold sortBy at r⊢;rw[dB];have e:(ord (ys.map f)).map (f∘fun i=>ys.getD i d)=(ord (ys.map f)).map fun i=>(ys.map f).getD i ("":Str):=by
    apply bP
    intro i hi;have hi':i<ys.length:=by
     have :=(yr nd).mem_iff.mp hi
     simpa using this
    show f (ys.getD i d)=(ys.map f).getD i ("":Str);rw[aj,aj,aF,ag hi'];rfl
   rw[e];exact r
  exact h.sublist (ph.map _)
end Q
namespace Lt
open PySem PySem.Spec PyProof.Rows L2 R Cp
theorem Ds{H H':Hp}{x:V}(h:Known H x)(s:aG H H'):aE H' x=aE H x:=by
 cases x with
 |ref a=>
  show(match cz (H' a)with |some (.str z::_)=>z|_=>"")=(match cz (H a)with |some (.str z::_)=>z|_=>"");cases e:H a with
  |none=>exact absurd e h.some
  |some o=>rw[s a o e]
 |_=>rfl
theorem lV{H H':Hp}{x:V}(h:Kn3 H x)(s:aG H H'):bE H' x=bE H x:=by
 cases x with
 |ref a=>
  show(match cz (H' a)with |some [_,.ref b]=>(cz (H' b)).elim 0 fz|_=>0)=(match cz (H a)with |some [_,.ref b]=>(cz (H b)).elim 0 fz|_=>0);cases e:H a with
  |none=>exact absurd e h.1.1.some
  |some o=>
   rw[s a o e];cases o with
   |tup xs=>
    match xs with
    | []=>rfl
    | [_]=>rfl
    | [n,r]=>
     cases r with
     |ref b=>
      have k:=(h.2 a _ rfl e).2 (.ref b) (by simp);show(cz (H' b)).elim 0 fz=(cz (H b)).elim 0 fz;cases eb:H b with
      |none=>exact absurd eb k.1.1.some
      |some ob=>rw[s b ob eb]
     |_=>rfl
    |_::y::_::_=>cases y<;>rfl
   |_=>rfl
 |_=>rfl
theorem yJ{H H':Hp}{a:Addr}(h:Known H (.ref a))(s:aG H H'):cn (H' a)=cn (H a):=by
 cases e:H a with
 |none=>exact absurd e h.some
 |some o=>rw[s a o e]
theorem m9{H H':Hp}{x:V}(h:Kn4 H x)(s:aG H H'):bO H' x=bO H x:=by
 cases x with
 |ref a=>
  show(match cn (H' a)with |some xs=>decide (xs.length<=40)&&(xs.all (cm H')&&(decide ((xs.map (aE H')).Nodup)&&decide (∀y∈xs,∀z∈xs,bE H' y=bE H' z))) |none=>false)=
   (match cn (H a)with |some xs=>decide (xs.length<=40)&&(xs.all (cm H)&&(decide ((xs.map (aE H)).Nodup)&&decide (∀y∈xs,∀z∈xs,bE H y=bE H z))) |none=>false)
  rw[yJ h.1.1 s];cases e:cn (H a)with
  |none=>rfl
  |some xs=>
   have hy:=(h.2 a xs rfl e).2;have e1:xs.all (cm H')=xs.all (cm H):=by
    rw[js,bK,bK];exact⟨fun z y hm=>by rw[<-mo (hy y hm) s];exact z y hm,fun z y hm=>by rw[mo (hy y hm) s];exact z y hm⟩
   have e2:xs.map (aE H')=xs.map (aE H):=bP fun y hm=>Ds (hy y hm).1.1 s;have e3:decide (∀y∈xs,∀z∈xs,bE H' y=bE H' z)=decide (∀y∈xs,∀z∈xs,bE H y=bE H z):=by
    rw[decide_eq_decide];exact⟨fun w y hm z hz=>by rw[<-lV (hy y hm) s,<-lV (hy z hz) s];exact w y hm z hz,fun w y hm z hz=>by rw[lV (hy y hm) s,lV (hy z hz) s];exact w y hm z hz⟩
   show(decide (xs.length<=40)&&(xs.all (cm H')&&(decide ((xs.map (aE H')).Nodup)&&decide (∀y∈xs,∀z∈xs,bE H' y=bE H' z))))=(decide (xs.length<=40)&&(xs.all (cm H)&&(decide ((xs.map (aE H)).Nodup)&&decide (∀y∈xs,∀z∈xs,bE H y=bE H z))));rw[e1,e2,e3]
 |_=>rfl
theorem sS{H H':Hp}{x:V}(h:Kn4 H x)(s:aG H H'):count H' x=count H x:=by
 cases x with
 |ref a=>
  show(match cn (H' a)with |some (y::_)=>bE H' y|_=>0)=(match cn (H a)with |some (y::_)=>bE H y|_=>0);rw[yJ h.1.1 s];cases e:cn (H a)with
  |none=>rfl
  |some xs=>
   cases xs with
   |nil=>rfl
   |cons y r=>exact lV ((h.2 a _ rfl e).2 y (.head _)) s
 |_=>rfl
theorem Bv{K:ae}{H:Hp}:∀bs:List Bool,gE K H (bs.map D.bl) (bs.map V.bl)
 | []=>rfl
 |b::bs=>⟨_,_,rfl,rfl,Bv bs⟩
theorem sD:∀bs:List Bool,fF (bs.map D.bl)=0
 | []=>rfl
 |b::bs=>by show max 0 (fF (bs.map D.bl))=0;rw[sD bs];rfl
theorem sO:∀bs:List Bool,km (bs.map D.bl) (bs.map D.bl)=true
 | []=>rfl
 |b::bs=>by show(eqD (.bl b) (.bl b)&&km (bs.map D.bl) (bs.map D.bl))=true;rw[sO bs];cases b<;>rfl
theorem Bt{K:ae}{H:Hp}{l:Addr}{bs:List Bool}(h:H l=some (.lst (bs.map V.bl))):Rep K H (.lst (bs.map D.bl)) (.ref l):=⟨l,_,rfl,SqL.of h,Bv bs⟩
theorem AB{K:ae}{H:Hp}{l m:Addr}{bs:List Bool}{Q:VK}(h1:H l=some (.lst (bs.map V.bl)))(h2:H m=some (.lst (bs.map V.bl)))(q:Q (.bl false) H):fX K .NotEq (.ref l) (.ref m) H Q:=by
 refine⟨.lst (bs.map D.bl),.lst (bs.map D.bl),Bt h1,Bt h2,?_,?_⟩
 ·show fF (bs.map D.bl)+1<=30
  rw[sD];decide
 ·have e:eqD (.lst (bs.map D.bl)) (.lst (bs.map D.bl))=true:=sO bs
  rw[e];exact q
theorem eq_bls{K:ae}{H:Hp}{l m:Addr}{bs:List Bool}{Q:VK}(h1:H l=some (.lst (bs.map V.bl)))(h2:H m=some (.lst (bs.map V.bl)))(q:Q (.bl true) H):fX K .Eq (.ref l) (.ref m) H Q:=by
 refine⟨.lst (bs.map D.bl),.lst (bs.map D.bl),Bt h1,Bt h2,?_,?_⟩
 ·show fF (bs.map D.bl)+1<=30
  rw[sD];decide
 ·have e:eqD (.lst (bs.map D.bl)) (.lst (bs.map D.bl))=true:=sO bs
  rw[e];exact q
mutual
theorem sP:∀d:D,eqD d d=true
 |.non=>rfl
 |.bl b=>by cases b<;>rfl
 |.int i=>by show(i==i)=true;simp
 |.str x=>by show(x==x)=true;simp
 |.tup ds=>pK ds
 |.lst ds=>pK ds
theorem pK:∀ds:List D,km ds ds=true
 | []=>rfl
 |d::ds=>by show(eqD d d&&km ds ds)=true;rw[sP d,pK ds];rfl
end
theorem Bs{K:ae}{H:Hp}:∀zs:List V,(∀z∈zs,bj z=true)->∃ds,gE K H ds zs/\fF ds=0
 | [],_=>⟨[],rfl,rfl⟩
 |z::zs,h=>by
  obtain⟨ds,h1,h2⟩:=Bs zs fun y hy=>h y (.tail _ hy);rcases fu (h z (.head _))with rfl|rfl
  ·exact⟨.int 0::ds,⟨_,_,rfl,rfl,h1⟩,by show max 0 (fF ds)=0;rw[h2];rfl⟩
  ·exact⟨.int 1::ds,⟨_,_,rfl,rfl,h1⟩,by show max 0 (fF ds)=0;rw[h2];rfl⟩
theorem p7{K:ae}{H:Hp}:∀ys:List V,(∀y∈ys,cm H y=true)->∃ds,gE K H ds ys/\fF ds<=2
 | [],_=>⟨[],rfl,by decide⟩
 |y::ys,h=>by
  obtain⟨ds,h1,h2⟩:=p7 ys fun z hz=>h z (.tail _ hz);obtain⟨a,b,rfl,k1,k2,_,k4⟩:=gP (h y (.head _));obtain⟨es,g1,g2⟩:=Bs (K:=K) (H:=H) _ k4;refine⟨.tup [.str (aE H (.ref a)),.tup es]::ds,⟨_,_,rfl,⟨a,_,rfl,SqT.of k1,_,_,rfl,rfl,_,_,rfl,⟨b,_,rfl,SqT.of k2,g1⟩,rfl⟩,h1⟩,?_⟩;show max (max 0 (max (fF es+1) 0)+1) (fF ds)<=2;rw[g2];omega
end Lt
namespace L2
open PySem PySem.Spec PyProof.Rows
section
variable {κ α:Type}[DecidableEq κ](kf:α->κ)(vf:α->V)
noncomputable def oG(acc:List (κ×V))(y:α):List (κ×V):=if(dX acc (kf y)).isSome then acc else putK acc (kf y) (vf y)
noncomputable def fnd(ys:List α):List (κ×V):=ys.foldl (oG kf vf) []
theorem G9(acc:List (κ×V))(y:α)(k:κ):dX (oG kf vf acc y) k=if(dX acc k).isSome then dX acc k else if k=kf y then some (vf y)else none:=by
 unfold oG;cases h:dX acc (kf y)with
 |some v=>
  show dX acc k=_;cases hk:dX acc k with
  |some u=>rfl
  |none=>
   rw[if_neg (by simp),if_neg];intro e;rw[e,h]at hk;cases hk
 |none=>
  rw[if_neg (by simp),EF];by_cases e:k=kf y
  ·rw[if_pos e,e,h]
   simp
  ·rw[if_neg e]
   cases hk:dX acc k<;>simp[e]
theorem fndS_nd{acc:List (κ×V)}(y:α)(h:(acc.map (·.1)).Nodup):((oG kf vf acc y).map (·.1)).Nodup:=by
 unfold oG;cases e:dX acc (kf y)with
 |some v=>exact h
 |none=>rw[if_neg (by simp)];exact nd_putK _ h e
theorem Ha(acc:List (κ×V))(y:α):(oG kf vf acc y).length<=acc.length+1:=by
 unfold oG;split
 ·omega
 ·exact lP _ _ _
theorem yW:∀(ys:List α)(acc:List (κ×V)),(ys.foldl (oG kf vf) acc).length<=acc.length+ys.length
 | [],acc=>aw _
 |y::ys,acc=>by
  have :=yW ys (oG kf vf acc y)
  have :=Ha kf vf acc y
  simp only[eP,bJ];omega
theorem B2:∀(ys:List α){acc:List (κ×V)},(acc.map (·.1)).Nodup->((ys.foldl (oG kf vf) acc).map (·.1)).Nodup
 | [],_,h=>h
 |y::ys,_,h=>B2 ys (fndS_nd kf vf y h)
theorem yV:∀(ys:List α)(acc:List (κ×V))(k:κ),dX (ys.foldl (oG kf vf) acc) k=if(dX acc k).isSome then dX acc k else(ys.find? fun y=>decide (kf y=k)).map vf
 | [],acc,k=>by
  show dX acc k=_;cases dX acc k<;>rfl
 |y::ys,acc,k=>by
  rw[eP,yV ys,G9];cases hk:dX acc k with
  |some u=>simp
  |none=>
   simp only[Er,aI,if_false];by_cases e:k=kf y
   ·rw[if_pos e,gT]
    simp[e]
   ·have e':¬kf y=k:=fun z=>e z.symm
    rw[if_neg e,gT];simp[e']
theorem w4(ys:List α)(k:κ):dX (fnd kf vf ys) k=(ys.find? fun y=>decide (kf y=k)).map vf:=by
 unfold fnd;rw[yV];rfl
theorem fnd_nd(ys:List α):((fnd kf vf ys).map (·.1)).Nodup:=B2 kf vf ys j9
theorem fnd_len(ys:List α):(fnd kf vf ys).length<=ys.length:=by
 have :=yW kf vf ys []
 rw[jr,tN]at this;exact this
theorem w6{ys:List α}{k:κ}:k∈(fnd kf vf ys).map (·.1)↔∃y∈ys,kf y=k:=by
 constructor
 ·intro h
  cases e:dX (fnd kf vf ys) k with
  |none=>exact absurd h (x3 e)
  |some v=>
   rw[w4]at e;obtain⟨y,hy,_⟩:=lC.mp e;exact⟨y,List.mem_of_find?_eq_some hy,by have :=List.find?_some hy;simpa using this⟩
 ·rintro⟨y,hy,e⟩
  cases h:dX (fnd kf vf ys) k with
  |some v=>exact valV_in h
  |none=>
   rw[w4,Option.map_eq_none_iff,qz]at h;exact absurd e (by have :=h y hy;simpa using this)
theorem Gb:∀{l m:List κ},l.Nodup->(∀x∈l,x∈m)->l.length<=m.length
 | [],_,_,_=>bA _
 |a::l,m,h,hs=>by
  obtain⟨h1,h2⟩:=cS.mp h;have ha:=hs a (.head _);have :=Gb (l:=l) (m:=m.erase a) h2 fun x hx=>(Et (fun e:x=a=>h1 (by rw[<-e];exact hx))).mpr (hs x (.tail _ hx));rw[List.length_erase_of_mem ha]at this;have :=List.length_pos_of_mem ha;simp only[bJ];omega
theorem fnd_all{ys:List α}{ks:List κ}(hk:ks.Nodup)(hs:∀y∈ys,kf y∈ks):(fnd kf vf ys).length<ks.length↔∃k∈ks,∀y∈ys,kf y≠k:=by
 have hsub:∀k∈(fnd kf vf ys).map (·.1),k∈ks:=fun k h=>by
  obtain⟨y,hy,e⟩:=(w6 kf vf).mp h;rw[<-e];exact hs y hy
 have hnd:=fnd_nd kf vf ys;constructor
 ·intro hl
  apply tT
  intro hno;have hall:∀k∈ks,k∈(fnd kf vf ys).map (·.1):=fun k hk=>by
   apply tT
   intro hn;exact hno ⟨k,hk,fun y hy e=>hn ((w6 kf vf).mpr ⟨y,hy,e⟩)⟩
  have :=Gb hk hall
  rw[ao]at this;omega
 ·rintro⟨k,hkm,hk2⟩
  have hn:k∉(fnd kf vf ys).map (·.1):=fun h=>by
   obtain⟨y,hy,e⟩:=(w6 kf vf).mp h;exact hk2 y hy e
  have :(k::(fnd kf vf ys).map (·.1)).Nodup:=cS.mpr ⟨hn,hnd⟩;have :=Gb this (fun x hx=>by
   rcases aC.mp hx with rfl|hx
   ·exact hkm
   ·exact hsub x hx)
  rw[bJ,ao]at this;omega
end
end L2
namespace Kc
open PySem R
noncomputable def pC:List Str:=["copies","one","other"]
noncomputable def ki:List Str:=["copies","one","other","found","name","readings"]
noncomputable def kB:CB:=
  (.cons (.asg (.name 3) (.dicT))
  (.cons (.forr (.tup (.cons (.name 4) (.cons (.name 5) .nil))) (.seq (.var 0))
  (.cons (.expr (.setd (.var 3) (.tup (.cons (.idx (.var 5) (.var 1)) (.cons (.idx (.var 5) (.var 2)) .nil))) (.var 4)))
  .nil))
  (.cons (.iff (.cmp .Lt (.bfn .lend (.cons (.var 3) .nil)) (.bfn .len (.cons (.glo "KINDS") .nil)))
  (.cons (.ret (.con .none))
  .nil)
  .nil)
  (.cons (.ret (.bfn .tuple (.cons (.comp ["kind"] [3] (.name 0) (.seq (.glo "KINDS")) .no (.idxd (.var 1) (.var 0))) .nil)))
  .nil))))
end Kc
namespace Kc
open PySem PySem.Spec PyProof.Rows L2 R Cp Lt
theorem gu{J:It}{n:Nat}{it:Nat->V->Hp->Prop}{Hc:Hp->Prop}{g:TG}{tb:TS}{D:Ends}{σ:L2.St}{H:Hp}(S:tG J n it Hc)(Pv:Nat->L2.St->Hp->Prop)(h0:Pv 0 σ H)(hl:∀i σ H,i<=n->Pv i σ H->Hc H)
  (hs:∀i x σ H H' (D2:Ends),i<n->Pv i σ H->it i x H'->aG H H'->(∀σ2 H2,Pv (i+1) σ2 H2->D2.nx σ2 H2)->D2.rt=D.rt->g x σ H' fun σ2 H2=>tb D2 σ2 H2)(hd:∀σ H,Pv n σ H->D.nx σ H):ForB J g tb D σ H:=
 B1 S Pv h0 hl (fun i x σ H H' a b c d=>hs i x σ H H' _ a b c d (fun _ _ h=>h) rfl) hd
theorem gy{us:List Value}(h:us.length=1):∃a,us=[a]:=by
 cases us with
 |nil=>exact nomatch h
 |cons a r=>exact⟨a,by rw[bW.mp (pb h)]⟩
theorem ja{us:List Value}(h:us.length=2):∃a b,us=[a,b]:=by
 cases us with
 |nil=>exact nomatch h
 |cons a r=>
  obtain⟨b,e⟩:=gy (pb h);exact⟨a,b,by rw[e]⟩
theorem nV{us:List Value}(h:us.length=3):∃a b c,us=[a,b,c]:=by
 cases us with
 |nil=>exact nomatch h
 |cons a r=>
  obtain⟨b,c,e⟩:=ja (pb h);exact⟨a,b,c,by rw[e]⟩
theorem cR{α:Type}{F:α->Prop}{vs:List V}{n:Nat}(h:∃a,F a)(k:∀a,F a->vs.length=n):vs.length=n:=let⟨a,f⟩:=h;k a f
theorem gO{P:Prop}{l vs:List V}{n:Nat}(h:vs=l/\P)(e:l.length=n):vs.length=n:=by rw[h.1];exact e
noncomputable def num(H:Hp)(i:Int)(y:V):Int:=match at_ H i y with
 |.int n=>n
 |_=>0
noncomputable def KP:List (Int×Int):=[(0,0),(0,1),(1,0),(1,1)]
noncomputable def nq(k:Int×Int):List Key:=[.inl k.1,.inl k.2]
noncomputable def kf(H:Hp)(i j:Int)(y:V):List Key:=nq (num H i y,num H j y)
noncomputable def jQ(H:Hp)(xs:List V)(i j:Int):Bool:=KP.all fun k=>xs.any fun y=>decide (num H i y=k.1/\num H j y=k.2)
noncomputable def firstOf(H:Hp)(xs:List V)(i j:Int)(k:Int×Int):V:=((xs.find? fun y=>decide (kf H i j y=nq k)).map fun y=>V.str (aE H y)).getD .non
noncomputable def Kinds(K:ae)(kd:Addr):Prop:=∃a0 a1 a2 a3:Addr,∀H:Hp,SqT K H kd [.ref a0,.ref a1,.ref a2,.ref a3]/\SqT K H a0 [.int 0,.int 0]/\SqT K H a1 [.int 0,.int 1]/\SqT K H a2 [.int 1,.int 0]/\SqT K H a3 [.int 1,.int 1]
theorem Kinds.at{K:ae}{kd:Addr}(h:Kinds K kd):∃as:List V,as.length=4/\(∀H:Hp,SqT K H kd as)/\∀(H:Hp)(i:Nat) x,as[i]? =some x->∃(b:Addr)(k:Int×Int),x=.ref b/\KP[i]? =some k/\SqT K H b ((nq k).map kV):=by
 obtain⟨a0,a1,a2,a3,h⟩:=h;refine⟨[.ref a0,.ref a1,.ref a2,.ref a3],rfl,fun H=>(h H).1,fun H i x e=>?_⟩;obtain⟨_,h0,h1,h2,h3⟩:=h H
 match i,e with
 | 0,e=>cases e;exact⟨a0,_,rfl,rfl,h0⟩
 | 1,e=>cases e;exact⟨a1,_,rfl,rfl,h1⟩
 | 2,e=>cases e;exact⟨a2,_,rfl,rfl,h2⟩
 | 3,e=>cases e;exact⟨a3,_,rfl,rfl,h3⟩
 |n+4,e=>simp at e
theorem wL{H:Hp}{x y:V}{i:Int}(h:cm H y=true)(hc:bE H y=count H x)(hi:isPlace H x (.int i)=true):at_ H i y=.int (num H i y)/\(num H i y=0\/num H i y=1):=by
 have :=(Bc h hc hi).2
 unfold num;rcases fu this with e|e
 ·rw[e];exact⟨rfl,.inl rfl⟩
 ·rw[e];exact⟨rfl,.inr rfl⟩
theorem GR{k l:Int×Int}(h:nq k=nq l):k=l:=by
 unfold nq at h;injection h with h1 h2
 injection h2 with h2 _;injection h1 with h1;injection h2 with h2;exact Prod.ext h1 h2
theorem GO:(KP.map nq).Nodup:=by decide+kernel
theorem kf_eq{H:Hp}{i j:Int}{y:V}{k:Int×Int}:kf H i j y=nq k↔(num H i y=k.1/\num H j y=k.2):=by
 constructor
 ·intro h
  have :=GR h
  rw[<-this];exact⟨rfl,rfl⟩
 ·rintro⟨h1,h2⟩
  unfold kf;rw[h1,h2]
theorem G7{H:Hp}{xs:List V}{i j:Int}(vf:V->V)(hs:∀y∈xs,kf H i j y∈KP.map nq):(fnd (kf H i j) vf xs).length<4↔jQ H xs i j=false:=by
 rw[show(4:Nat)=(KP.map nq).length from rfl,fnd_all (kf H i j) vf GO hs];unfold jQ;rw[List.all_eq_false];constructor
 ·rintro⟨k,hk,h⟩
  obtain⟨p,hp,rfl⟩:=aV.mp hk;refine⟨p,hp,?_⟩;intro z;obtain⟨y,hy,e⟩:=cE.mp z;exact h y hy (kf_eq.mpr (of_decide_eq_true e))
 ·rintro⟨p,hp,h⟩
  refine⟨nq p,aV.mpr ⟨p,hp,rfl⟩,fun y hy e=>h ?_⟩;exact cE.mpr ⟨y,hy,decide_eq_true (kf_eq.mp e)⟩
theorem kf_in{H:Hp}{x:V}{xs:List V}{i j:Int}(h3:∀y∈xs,cm H y=true)(h5:∀y∈xs,bE H y=count H x)(hi:isPlace H x (.int i)=true)(hj:isPlace H x (.int j)=true):∀y∈xs,kf H i j y∈KP.map nq:=by
 intro y hy;have ei:=(wL (h3 y hy) (h5 y hy) hi).2;have ej:=(wL (h3 y hy) (h5 y hy) hj).2;unfold kf;refine aV.mpr ⟨_,?_,rfl⟩;rcases ei with e|e<;>rcases ej with f|f<;>rw[e,f]<;>simp[KP]
noncomputable def vY:Sp:=fun vs H Q _=>∃a xs i j H0,vs=[.ref a,.int i,.int j]/\aG H0 H/\bO H0 (.ref a)=true/\cn (H0 a)=some xs/\isPlace H0 (.ref a) (.int i)=true/\isPlace H0 (.ref a) (.int j)=true/\
 (jQ H0 xs i j=false->∀H',aG H H'->Q .non H')/\(jQ H0 xs i j=true->∀H' l,aG H H'->H l=none->H' l=some (.tup (KP.map (firstOf H0 xs i j)))->Q (.ref l) H')
theorem EC{G:Gam}{K:ae}{kd:Addr}(v1:G.val "KINDS"=some (.ref kd))(hk:Kinds K kd):
  Sat G K vY kB ki:=by
 rintro vs H Q E ⟨a,xs,i,j,H0,rfl,s0,ht,hx,hi,hj,q1,q2⟩;unfold kB;change wpB G K _ _ _ [some (.ref a),some (.int i),some (.int j),none,none,none] H;walk_at "wp";intro d hd;obtain⟨a',xs',ea,h1,h2,h3,h4,h5⟩:=cT ht;cases ea;rw[hx]at h1;cases h1;obtain⟨as,hal,hka,hkb⟩:=hk.at;have sq:∀{H1:Hp},aG H0 H1->SqL K H1 a xs:=fun s1=>s1.seq (iz hx);have sd:aG H (upd H d (.dT [])):=aA hd;refine hJ (dS rfl (sq (s0.trans sd)) (gu fN (fun k σ H'=>aG H H'/\H' d=some (.dT (fnd (kf H0 i j) (fun y=>V.str (aE H0 y)) (xs.take k)))/\∃u v,σ=[some (.ref a),some (.int i),some (.int j),some (.ref d),u,v])
  ⟨sd,ax,none,none,rfl⟩ (fun k σ H' _ p=>sq (s0.trans p.1)) ?_ ?_))
 ·rintro k y σ H1 H2 D2 hk1 ⟨s1,e1,u,v,rfl⟩ hy s2 hD _
  have hm:=aU hy;have ei:=wL (h3 y hm) (h5 y hm) hi;have ej:=wL (h3 y hm) (h5 y hm) hj;have gi:=(Bc (h3 y hm) (h5 y hm) hi).1;have gj:=(Bc (h3 y hm) (h5 y hm) hj).1;obtain⟨b,c,rfl,k1,k2,k3,k4⟩:=gP (h3 y hm);have s3:=s0.trans (s1.trans s2);refine⟨b,_,rfl,s3.tup (SqT.of k1),rfl,_,_,rfl,_,_,rfl,rfl,?_⟩;walk_at "wp";refine⟨.inr (.inr (.inl ⟨rfl,.inr ⟨_,s2 _ _ e1⟩⟩)),?_⟩;refine .inr (.inl ⟨c,_,i,_,rfl,rfl,s3.tup (SqT.of k2),gi,?_⟩);refine .inr (.inl ⟨c,_,j,_,rfl,rfl,s3.tup (SqT.of k2),gj,short (by simp),fun p hp=>?_⟩);have s4:aG H2 (upd H2 p (.tup [at_ H0 i (.ref b),at_ H0 j (.ref b)])):=aA hp;have hf:(fnd (kf H0 i j) (fun y=>V.str (aE H0 y)) (xs.take k)).length<=40:=aX (fnd_len _ _ _) (by rw[dk];omega);have et:xs.take (k+1)=xs.take k++[V.ref b]:=by rw[dU,hy];rfl
  have ef:fnd (kf H0 i j) (fun y=>V.str (aE H0 y)) (xs.take (k+1))=oG (kf H0 i j) (fun y=>V.str (aE H0 y)) (fnd (kf H0 i j) (fun y=>V.str (aE H0 y)) (xs.take k)) (.ref b):=by
   unfold fnd;rw[et,List.foldl_append];rfl
  refine⟨d,p,_,kf H0 i j (.ref b),_,rfl,rfl,s4 _ _ (s2 _ _ e1),?_,cy hf (by decide),fun z hz=>?_,fun hz=>?_⟩
  ·rw[ax,ei.1,ej.1]
   rfl
  ·refine hD _ _ ⟨s1.trans (s2.trans s4),?_,_,_,rfl⟩
   rw[ef];unfold oG;rw[hz];exact s4 _ _ (s2 _ _ e1)
  ·refine hD _ _ ⟨fm (s1.trans (s2.trans s4)) hd,?_,_,_,rfl⟩
   rw[ef];unfold oG;rw[hz];exact ax
 ·rintro σ H1 ⟨s1,e1,u,v,rfl⟩
  rw[fj]at e1;walk_at "wp";refine⟨d,_,rfl,e1,_,v1,Or.inl ⟨kd,as,rfl,.inr (hka _),?_⟩⟩;rw[hal];show fX K .Lt (.int _) (.int ((4:Nat):Int)) H1 _;rw[Gu];refine⟨_,rfl,?_⟩;have hfi:=G7 (fun y=>V.str (aE H0 y)) (kf_in h3 h5 hi hj);cases hf:jQ H0 xs i j with
  |false=>
   have :=hfi.mpr hf
   rw[decide_eq_true (by omega),if_pos rfl];exact q1 hf H1 s1
  |true=>
   have hge:¬(fnd (kf H0 i j) (fun y=>V.str (aE H0 y)) xs).length<4:=fun z=>by rw[hfi.mp z]at hf;cases hf
   rw[decide_eq_false (by omega),if_neg aq];refine d8 ⟨_,v1,.inr (.inl ⟨kd,rfl,⟨_,hka _⟩,?_⟩)⟩;refine dZ wk (by rw[hal];exact short (by decide)) (fun H2 _=>hka H2) (fun n v _=>v=firstOf H0 xs i j (KP.getD n (0,0))) (fun _ _ _ _ _ h=>h) (fun τ=>∃t,τ=[t,some (.ref d)]) ⟨none,rfl⟩ ?_ ?_
   ·rintro n y τ H2 R hn ⟨t,rfl⟩ s2 hy k
    obtain⟨b,p,rfl,hp,hb⟩:=hkb H2 n y hy;walk_at "wp";have hall:xs.any (fun y=>decide (num H0 i y=p.1/\num H0 j y=p.2))=true:=by
     unfold jQ at hf;exact bK.mp hf p (aU hp)
    obtain⟨y0,hy0,e0⟩:=cE.mp hall;cases hfi:xs.find? (fun y=>decide (kf H0 i j y=nq p))with
    |none=>
     rw[qz]at hfi;exact absurd (decide_eq_true (kf_eq.mpr (of_decide_eq_true e0))) (hfi y0 hy0)
    |some y1=>
     refine⟨d,b,_,nq p,V.str (aE H0 y1),rfl,rfl,s2 _ _ e1,hb,?_,?_⟩
     ·rw[w4,hfi]
      rfl
     ·refine k _ _ _ ⟨_,rfl⟩ (aG.refl _) ?_
      rw[getD_some hp];unfold firstOf;rw[hfi];rfl
   ·intro vs H2 l hvl hF s2 hl2
    have ev:vs=KP.map (firstOf H0 xs i j):=by
     rw[hal]at hvl;apply cU
     ·rw[hvl];rfl
     ·intro n m1 m2
      have :=hF n vs[n] (by simp[m1])
      rw[this,dJ,aj,ag (by simpa using m2)];rfl
    subst ev;refine⟨l,_,rfl,.inl ⟨SqL.of ax,fun b hb=>?_⟩⟩;have s3:aG H (upd H2 l (.lst (KP.map (firstOf H0 xs i j)))):=s1.trans (s2.trans (aA hl2));exact q2 hf _ b (s3.trans (aA hb)) (s3.free hb) ax
end Kc
namespace K21
open PySem R
noncomputable def Ar:List Str:=["_law_cell","_law_place"]
noncomputable def r6:List Str:=["_law_cell","_law_place","_law_own","_law_number"]
noncomputable def oQ:CB:=
  (.cons (.ret (.bin .Mod (.bin .Mult (.var 3) (.var 3)) (.con (.int 2147483587))))
  .nil)
noncomputable def kQ:CB:=
  (.cons (.asg (.name 3) (.bin .Mod (.bin .Mult (.bin .Add (.bin .Mod (.bin .FloorDiv (.var 0) (.con (.int 2))) (.bin .Pow (.con (.int 10)) (.con (.int 30)))) (.con (.int 1))) (.bin .Add (.con (.int 48271)) (.bin .Mult (.bin .Mult (.con (.int 7919)) (.var 1)) (.var 1)))) (.con (.int 2147483629))))
  oQ)
noncomputable def kR:CB:=
  (.cons (.iff (.and (.cmp .Eq (.bin .Mod (.var 0) (.con (.int 2))) (.con (.int 1))) (.cmp .NotEq (.var 2) (.con (.int 0))))
  (.cons (.ret (.bin .Mod (.var 2) (.con (.int 2147483648))))
  .nil)
  .nil)
  kQ)
noncomputable def sY:CB:=
  (.cons (.asg (.name 2) (.bin .RShift (.var 0) (.bin .Add (.con (.int 2)) (.bin .Mult (.con (.int 31)) (.bin .Mod (.var 1) (.con (.int 64)))))))
  kR)
noncomputable def yn:List Str:=["_law_cell","_law_many"]
noncomputable def qa:List Str:=["_law_cell","_law_many","_law_letters","_law_size","_law_at","_law_names_here","_law_k","_law_name","_law_j"]
noncomputable def mT:CB:=
  (.cons (.ret (.var 5))
  .nil)
noncomputable def lb:CB:=
  (.cons (.expr (.meth1 .append (.var 5) (.cut (.var 7) .no (.yes (.bin .Add (.bin .Add (.var 4) (.con (.int 1))) (.bin .Mod (.bin .Add (.bin .Mult (.var 6) (.var 6)) (.var 3)) (.bin .Sub (.var 3) (.var 4))))))))
  .nil)
noncomputable def lg:CB:=
  (.cons (.forr (.name 8) (.range1 (.var 3))
  (.cons (.asg (.name 7) (.bin .Add (.var 7) (.idx (.var 2) (.bin .Mod (.bin .Add (.call "_law_draw" (.cons (.var 0) (.cons (.bin .Add (.con (.int 10)) (.var 8)) .nil))) (.bin .Mult (.bin .Mult (.con (.int 7)) (.var 6)) (.bfn .int (.cons (.cmp .Eq (.var 8) (.var 4)) .nil)))) (.con (.int 26))))))
  .nil))
  lb)
noncomputable def mU:CB:=
  (.cons (.forr (.name 6) (.range1 (.var 1))
  (.cons (.asg (.name 7) (.con (.str "")))
  lg))
  mT)
noncomputable def mV:CB:=
  (.cons (.asg (.name 5) (.lst .nil))
  mU)
noncomputable def mW:CB:=
  (.cons (.asg (.name 4) (.bin .Mod (.call "_law_draw" (.cons (.var 0) (.cons (.con (.int 2)) .nil))) (.var 3)))
  mV)
noncomputable def mX:CB:=
  (.cons (.asg (.name 3) (.bin .Add (.con (.int 1)) (.bin .Mod (.call "_law_draw" (.cons (.var 0) (.cons (.con (.int 1)) .nil))) (.con (.int 8)))))
  mW)
noncomputable def qo:CB:=
  (.cons (.asg (.name 2) (.con (.str "abcdefghijklmnopqrstuvwxyz")))
  mX)
noncomputable def wG:List Str:=["_law_cells","_law_names_here","_law_many"]
noncomputable def ot:List Str:=["_law_cells","_law_names_here","_law_many","_law_table","_law_k","_law_number","_law_more","_law_bits"]
noncomputable def lZ:CB:=
  (.cons (.ret (.var 3))
  .nil)
noncomputable def hU:CB:=
  (.cons (.expr (.meth1 .append (.var 3) (.tup (.cons (.idx (.var 1) (.var 4)) (.cons (.bfn .tuple (.cons (.var 7) .nil)) .nil)))))
  .nil)
noncomputable def jm:CB:=
  (.cons (.iff (.cmp .Gt (.var 2) (.con (.int 0)))
  (.cons (.asg (.sub (.var 7) (.bin .Mod (.bin .FloorDiv (.var 6) (.con (.int 60))) (.var 2))) (.bin .Mod (.var 5) (.con (.int 2))))
  .nil)
  .nil)
  .nil)
noncomputable def hV:CB:=
  (.cons (.iff (.and (.cmp .NotEq (.var 3) (.lst .nil)) (.cmp .Eq (.bin .Mod (.var 6) (.con (.int 3))) (.con (.int 0))))
  (.cons (.asg (.name 7) (.bfn .list (.cons (.idx (.idx (.var 3) (.bin .Mod (.bin .FloorDiv (.var 6) (.con (.int 3))) (.bfn .len (.cons (.var 3) .nil)))) (.con (.int 1))) .nil)))
  jm)
  .nil)
  hU)
noncomputable def hW:CB:=
  (.cons (.asgc 7 (.comp ["_law_j"] [5] (.name 0) (.range1 (.var 2)) .no (.bin .Mod (.bin .FloorDiv (.var 1) (.bin .LShift (.con (.int 1)) (.var 0))) (.con (.int 2)))))
  hV)
noncomputable def kA:CB:=
  (.cons (.asg (.name 6) (.call "_law_draw" (.cons (.idx (.var 0) (.var 4)) (.cons (.bin .Add (.con (.int 31)) (.bin .Mult (.con (.int 4)) (.var 4))) .nil))))
  hW)
noncomputable def l5:CB:=
  (.cons (.forr (.name 4) (.range1 (.bfn .min (.cons (.bfn .len (.cons (.var 0) .nil)) (.cons (.bfn .len (.cons (.var 1) .nil)) .nil))))
  (.cons (.asg (.name 5) (.call "_law_draw" (.cons (.idx (.var 0) (.var 4)) (.cons (.bin .Add (.con (.int 30)) (.bin .Mult (.con (.int 4)) (.var 4))) .nil))))
  kA))
  lZ)
noncomputable def oN:CB:=
  (.cons (.asg (.name 3) (.lst .nil))
  l5)
end K21
namespace K21
open PySem PySem.Spec PyProof.Rows L2 R Cp Lt Kc
theorem E7{K:ae}{H:Hp}{Q:VK}{i j:Int}:iy K .LShift (.int i) (.int j) H Q↔D7 i j/\Q (.int (i*2^j.toNat)) H:=by simp[iy,rI]
theorem int_b{K:ae}{H:Hp}{Q:VK}{b:Bool}:rBf K .int [.bl b] H Q↔Q (.int (if b then 1 else 0)) H:=by simp[rBf]
noncomputable def own(c k:Int):Int:=c/2^(2+31*(k%64)).toNat
noncomputable def nb(c k:Int):Int:=(c/2%10^Int.toNat 30+1)*(48271+7919*k*k)%2147483629
noncomputable def draw(c k:Int):Int:=if c%2=1/\own c k≠0 then own c k%2147483648 else nb c k*nb c k%2147483587
theorem w8(c k:Int):0<=draw c k:=by
 unfold draw;split
 ·exact bw _ (by decide)
 ·exact bw _ (by decide)
noncomputable def gN:Sp:=fun vs H Q _=>∃c k:Int,vs=[.int c,.int k]/\0<=k/\k<=200/\Q (.int (draw c k)) H
theorem wp_draw{G:Gam}{K:ae}:Sat G K gN sY r6:=by
 rintro vs H Q E ⟨c,k,rfl,hk0,hk1,q⟩;unfold sY;change wpB G K _ _ _ [some (.int c),some (.int k),none,none] H;walk_at "wp";have hm:0<=k%64:=bw _ (by decide);refine⟨by decide,mP (by decide) (by decide),by omega,?_⟩;have rest:¬(c%2=1/\own c k≠0)->wpB G K (fun _=>E) kQ {nx:=fun _ H'=>Q .non H',rt:=Q} [some (.int c),some (.int k),some (.int (own c k)),none] H:=fun z=>by
  have hkk:0<=7919*k*k/\7919*k*k<=316760000:=by
   have h1:0<=k*k:=Int.mul_nonneg hk0 hk0;have h2:k*k<=200*200:=Int.mul_le_mul hk1 hk1 hk0 (by decide);rw[Int.mul_assoc];omega
  have hnb:0<=nb c k/\nb c k<2147483629:=⟨bw _ (by decide),bL _ (by decide)⟩;unfold draw at q;rw[if_neg z]at q;unfold kQ oQ;walk_at "wp";exact⟨⟨by decide,by decide⟩,⟨by decide,by decide,by decide⟩,by decide,mP (by decide) (by decide),B8 hk0 (by omega),B8 (by omega) (by omega),by decide,mP hnb.1 (by omega),by decide,q⟩
 change wpB G K _ kR _ [some (.int c),some (.int k),some (.int (own c k)),none] H;generalize ho:own c k=w at rest⊢;unfold kR;walk_at "wp";refine⟨by decide,?_⟩;by_cases h1:c%2=1
 ·rw[decide_eq_true h1,if_pos rfl]
  by_cases h2:w=0
  ·rw[decide_eq_true h2]
   exact rest fun z=>z.2 h2
  ·rw[decide_eq_false h2]
   unfold draw at q;rw[ho,if_pos ⟨h1,h2⟩]at q;exact⟨by decide,q⟩
 ·rw[decide_eq_false h1]
  exact rest fun z=>h1 z.1
noncomputable def size(c:Int):Nat:=(1+draw c 1%8).toNat
noncomputable def att(c:Int):Nat:=(draw c 2%(size c:Int)).toNat
theorem size_eq(c:Int):1+draw c 1%8=(size c:Int)/\1<=size c/\size c<=8:=by
 have h0:0<=draw c 1%8:=bw _ (by decide);have h1:draw c 1%8<8:=bL _ (by decide);unfold size;omega
theorem Ba(c:Int):draw c 2%(size c:Int)=(att c:Int)/\att c<size c:=by
 have hs:=size_eq c;have h0:0<=draw c 2%(size c:Int):=bw _ (by omega);have h1:draw c 2%(size c:Int)<(size c:Int):=bL _ (by omega);unfold att;omega
noncomputable def sgn(c:Int)(k j:Nat):Nat:=wW (draw c (10+(j:Int))+7*(k:Int)*(if(j:Int)=(att c:Int)then 1 else 0))
noncomputable def full(c:Int)(k:Nat):List Nat:=(az (size c)).map (sgn c k)
noncomputable def sR(c:Int)(k:Nat):Nat:=att c+1+(k*k+size c)%(size c-att c)
noncomputable def nm(c:Int)(k:Nat):Str:=mkS ((full c k).take (sR c k))
theorem oF(c:Int)(k:Nat):(full c k).length=size c:=by unfold full;simp
theorem w9(c:Int)(k:Nat):att c+1<=sR c k/\sR c k<=size c:=by
 have h:=(Ba c).2;have :=Nat.mod_lt (k*k+size c) (show 0<size c-att c by omega);unfold sR;omega
theorem mI(c:Int)(k:Nat):eR (nm c k)=true:=by
 have h1:=w9 c k;have h2:=size_eq c;have hl:(nm c k).length=sR c k:=by
  unfold nm;rw[sg,dk,oF];omega
 unfold eR;rw[hl,ah];refine⟨decide_eq_true (by omega),?_⟩;show((full c k).take (sR c k)).toArray.toList.all iI=true;rw[pd,bK];intro y hy;have hy':=Es hy;unfold full at hy';obtain⟨j,_,rfl⟩:=aV.mp hy';exact lett_ok _
theorem AA{c:Int}{i j:Nat}(hi:i<15)(hj:j<15)(h:nm c i=nm c j):i=j:=by
 have e:(full c i).take (sR c i)=(full c j).take (sR c j):=by
  have :=congrArg (fun z:Str=>z.cps.toList) h
  simpa[nm]using this
 have ha:=(Ba c).2;have at_i:∀k:Nat,((full c k).take (sR c k))[att c]? =some (wW (draw c (10+(att c:Int))+7*(k:Int))):=fun k=>by
  have hc:=w9 c k;rw[lq (by omega)];unfold full;rw[aF,cG ha];show some (sgn c k (att c))=_;unfold sgn;rw[if_pos rfl,Int.mul_one]
 have e2:=congrArg (fun l:List Nat=>l[att c]?) e;simp only[at_i]at e2;have e3:=GG (aY e2);omega
noncomputable def vU:Sp:=fun vs H Q _=>∃(c:Int)(m:Nat),vs=[.int c,.int m]/\m<=15/\∀H' l,aG H H'->H l=none->H' l=some (.lst ((az m).map fun k=>V.str (nm c k)))->Q (.ref l) H'
theorem Ew{G:Gam}{K:ae}(g1:G.fn "_law_draw" 2=some (gN,[])):
  Sat G K vU qo qa:=by
 rintro vs H Q E ⟨c,m,rfl,hm,q⟩;unfold qo mX mW mV;change wpB G K _ _ _ [some (.int c),some (.int m),none,none,none,none,none,none,none] H;walk_at "wp";refine⟨_,_,g1,c,1,rfl,by decide,by decide,?_⟩;have hs:=size_eq c;have ha:=Ba c;walk_at "wp";refine⟨by decide,?_⟩;rw[hs.1];refine⟨_,_,g1,c,2,rfl,by decide,by decide,?_⟩;walk_at "wp";refine⟨by omega,?_⟩;rw[ha.1];refine⟨short (by simp),fun l hl=>?_⟩;unfold mU;walk_at "wp";refine hJ ?_;walk_at "wp";refine⟨(m:Int),rfl,by omega,by omega,?_⟩;refine gu du (fun k σ H'=>aG H H'/\H' l=some (.lst ((az k).map fun k=>V.str (nm c k)))/\∃u v w,σ=[some (.int c),some (.int m),some (.str LETTERS),some (.int (size c)),some (.int (att c)),some (.ref l),u,v,w])
  ⟨aA hl,ax,none,none,none,rfl⟩ (fun _ _ _ _ _=>trivial) ?_ ?_
 ·rintro k x σ H1 H2 D2 hk ⟨s1,e1,u,v,w,rfl⟩ rfl s2 hD _
  have e2:H2 l=some (.lst ((az k).map fun k=>V.str (nm c k))):=s2 _ _ e1;have s12:aG H H2:=s1.trans s2;walk_at "wp";simp only[dD];unfold lg;walk_at "wp";refine hJ ?_;walk_at "wp";refine⟨(size c:Int),rfl,by omega,by omega,?_⟩;refine gu du (fun j σ H'=>aG H2 H'/\∃w,σ=[some (.int c),some (.int m),some (.str LETTERS),some (.int (size c)),some (.int (att c)),some (.ref l),some (.int k),some (.str (mkS ((full c k).take j))),w])
   ⟨aG.refl _,w,rfl⟩ (fun _ _ _ _ _=>trivial) ?_ ?_
  ·rintro j x σ H3 H4 D3 hj ⟨s3,w,rfl⟩ rfl s4 hD3 _
   have hj':j<size c:=by omega
   walk_at "wp"
   simp only[dD];refine⟨_,_,g1,c,10+(j:Int),rfl,by omega,by omega,?_⟩;walk_at "wp";refine⟨mP (by decide) (by decide),?_⟩;rw[int_b];walk_at "wp";have ei:(if decide ((j:Int)=(att c:Int))=true then(1:Int)else 0)=if(j:Int)=(att c:Int)then 1 else 0:=by
    by_cases z:(j:Int)=(att c:Int)
    ·rw[decide_eq_true z,if_pos rfl,if_pos z]
    ·rw[decide_eq_false z,if_neg aq,if_neg z]
   rw[ei];refine⟨B8 (by split <;>omega) (by split <;>omega),by decide,_,wV,Bb _,?_,hD3 _ _ ⟨s3.trans s4,some (.int j),?_⟩⟩
   ·rw[mk1,sg,sg,dk,oF]
    exact short (by simp;omega)
   ·have ef:(full c k)[j]? =some (sgn c k j):=by
     unfold full;rw[aF,cG hj'];rfl
    rw[mk1,mk_app,dU,ef];rfl
  ·rintro σ H3 ⟨s3,w,rfl⟩
   unfold lb;walk_at "wp";have hc:=w9 c k;have ec:(att c:Int)+1+((k:Int)*(k:Int)+(size c:Int))%((size c:Int)-(att c:Int))=(sR c k:Int):=by
    unfold sR;have :(size c:Int)-(att c:Int)=((size c-att c:Nat):Int):=by omega
    rw[this];push_cast;rfl
   have ef:(full c k).take (size c)=full c k:=fE (by rw[oF];exact aw _);rw[show((size c:Int)).toNat=size c from aR _,ef];refine⟨.inl ⟨rfl,_,SqL.of (s3 _ _ e2)⟩,mP (by omega) (by omega),by omega,?_⟩;rw[ec,Hm];refine⟨by rw[sg,oF];exact short (by omega),l,_,_,rfl,rfl,s3 _ _ e2,cy (by simp;omega:((az k).map fun k=>V.str (nm c k)).length<=40) (by decide),hD _ _ ⟨fm (s12.trans s3) hl,?_,_,_,_,rfl⟩⟩;rw[ax,List.range_succ,de];rfl
 ·rintro σ H1 ⟨s1,e1,u,v,w,rfl⟩
  unfold mT;walk_at "wp";rw[show((m:Int)).toNat=m from aR _]at e1;exact q H1 l s1 hl e1
noncomputable def Dr(H:Hp)(nf:Nat->Str)(n:Nat)(ys:List V):Prop:=∀(i:Nat) y,ys[i]? =some y->∃b r zs,y=.ref b/\H b=some (.tup [.str (nf i),.ref r])/\H r=some (.tup zs)/\zs.length=n/\∀z∈zs,bj z=true
theorem Dr.same{H H':Hp}{nf:Nat->Str}{n:Nat}{ys:List V}(d:Dr H nf n ys)(s:aG H H'):Dr H' nf n ys:=fun i y e=>by
 obtain⟨b,r,zs,h1,h2,h3,h4⟩:=d i y e;exact⟨b,r,zs,h1,s _ _ h2,s _ _ h3,h4⟩
theorem Dr.set{H:Hp}{nf:Nat->Str}{n:Nat}{ys vs us:List V}{t:Addr}(d:Dr H nf n ys)(h:H t=some (.lst vs)):Dr (upd H t (.lst us)) nf n ys:=fun i y e=>by
 obtain⟨b,r,zs,h1,h2,h3,h4⟩:=d i y e;refine⟨b,r,zs,h1,?_,?_,h4⟩
 ·rw[aL (fun z=>by rw[z,h]at h2;cases h2)];exact h2
 ·rw[aL (fun z=>by rw[z,h]at h3;cases h3)];exact h3
theorem ik{H:Hp}{nf:Nat->Str}{n:Nat}{ys:List V}(hnf:∀i,eR (nf i)=true)(d:Dr H nf n ys)(hn:n<=60){i:Nat}{y:V}(e:ys[i]? =some y):cm H y=true/\aE H y=nf i/\bE H y=n/\Kn3 H y:=by
 obtain⟨b,r,zs,rfl,h1,h2,h3,h4⟩:=d i y e;have ar:bQ H (.ref r)=true:=by
  show(match cz (H r)with |some xs=>decide (xs.length<=60)&&xs.all bj|none=>false)=true;rw[h2];show(decide (zs.length<=60)&&zs.all bj)=true;rw[decide_eq_true (by omega),eA,bK];exact h4
 have hl:(nf i).length<=20000:=by
  have :=hnf i
  unfold eR at this;rw[ah,decide_eq_true_eq]at this;omega
 refine⟨?_,?_,?_,⟨nj h1,fun z e=>nomatch e⟩,fun a xs e hx=>?_⟩
 ·show(match cz (H b)with |some [n,r]=>isName n&&bQ H r|_=>false)=true
  rw[h1];show(eR (nf i)&&bQ H (.ref r))=true;rw[hnf,ar];rfl
 ·show(match cz (H b)with |some (.str z::_)=>z|_=>("":Str))=_
  rw[h1];rfl
 ·show(match cz (H b)with |some [_,.ref b]=>(cz (H b)).elim 0 fz|_=>0)=n
  rw[h1];show(cz (H r)).elim 0 fz=n;rw[h2];exact h3
 ·injection e with e
  subst e;rw[h1]at hx;cases hx;refine⟨by show 2<=20000;decide,fun y hy=>?_⟩;simp only[aC,dj,or_false]at hy;rcases hy with rfl|rfl
  ·exact⟨⟨lQ,fun z e=>by injection e with e;rw[<-e];exact hl⟩,fun a xs e=>nomatch e⟩
  ·refine⟨⟨nj h2,fun z e=>nomatch e⟩,fun a xs e hx=>?_⟩
   injection e with e;subst e;rw[h2]at hx;cases hx;refine⟨by omega,fun z hz=>?_⟩;rcases fu (h4 z hz)with rfl|rfl
   ·exact⟨sx,fun z e=>nomatch e⟩
   ·exact⟨sx,fun z e=>nomatch e⟩
theorem lU{H:Hp}{nf:Nat->Str}{n:Nat}{ys:List V}{t:Addr}(hnf:∀i,eR (nf i)=true)(hinj:∀i j,i<ys.length->j<ys.length->nf i=nf j->i=j)(ht:H t=some (.lst ys))(d:Dr H nf n ys)(hl:ys.length<=40)(hn:n<=60):Kn4 H (.ref t)/\bO H (.ref t)=true/\(∀y∈ys,cm H y=true)/\∀y∈ys,bE H y=n:=by
 have at':∀y∈ys,∃i,ys[i]? =some y:=fun y hy=>bH.mp hy;have cp:∀y∈ys,cm H y=true:=fun y hy=>let⟨i,e⟩:=at' y hy;(ik hnf d hn e).1;have ct:∀y∈ys,bE H y=n:=fun y hy=>let⟨i,e⟩:=at' y hy;(ik hnf d hn e).2.2.1;refine⟨⟨⟨AO ht,fun z e=>nomatch e⟩,fun a xs e hx=>?_⟩,?_,cp,ct⟩
 ·injection e with e
  subst e;rw[ht]at hx;cases hx;exact⟨by omega,fun y hy=>let⟨i,e⟩:=at' y hy;(ik hnf d hn e).2.2.2⟩
 ·show(match cn (H t)with |some xs=>decide (xs.length<=40)&&(xs.all (cm H)&&(decide ((xs.map (aE H)).Nodup)&&decide (∀y∈xs,∀z∈xs,bE H y=bE H z))) |none=>false)=true
  rw[ht];show(decide (ys.length<=40)&&(ys.all (cm H)&&(decide ((ys.map (aE H)).Nodup)&&decide (∀y∈ys,∀z∈ys,bE H y=bE H z))))=true;rw[decide_eq_true hl,eA,ah,ah,bK,decide_eq_true_eq,decide_eq_true_eq];refine⟨cp,?_,fun y hy z hz=>by rw[ct y hy,ct z hz]⟩;show List.Pairwise (fun a b=>a≠b) _;rw[kH];intro i j hi hj hij e;rw[ao]at hi hj;rw[dJ,dJ,(ik hnf d hn (ag hi)).2.1,(ik hnf d hn (ag hj)).2.1]at e;have :=hinj i j hi hj e;omega
theorem Dr.snoc{H:Hp}{nf:Nat->Str}{n:Nat}{ys zs:List V}{b r:Addr}(d:Dr H nf n ys)(hb:H b=some (.tup [.str (nf ys.length),.ref r]))(hr:H r=some (.tup zs))(hl:zs.length=n)(hz:∀z∈zs,bj z=true):Dr H nf n (ys++[.ref b]):=by
 intro k y e;by_cases hk:k<ys.length
 ·rw[gB hk]at e
  exact d k y e
 ·rw[eE (by omega)]at e
  have hk0:k-ys.length=0:=by
   have :=(aM.mp e).1
   simp at this;omega
  rw[hk0]at e;have e':V.ref b=y:=by simpa using e
  have hki:k=ys.length:=by omega
  subst e' hki;exact⟨b,r,zs,rfl,hb,hr,hl,hz⟩
theorem A4{K:ae}{H:Hp}{t p:Addr}{ys:List V}(et:H t=some (.lst ys))(ep:H p=some (.lst []))(cp:∀y∈ys,cm H y=true):∃d d',Rep K H d (.ref t)/\Rep K H d' (.ref p)/\hgt d<=30/\eqD d d'=decide (ys=[]):=by
 obtain⟨ds,h1,h2⟩:=p7 (K:=K) ys cp;refine⟨.lst ds,.lst [],⟨t,ys,rfl,SqL.of et,h1⟩,⟨p,[],rfl,SqL.of ep,rfl⟩,by show fF ds+1<=30;omega,?_⟩;have hl:=gE.length h1;cases ds with
 |nil=>
  have :ys=[]:=bW.mp hl;rw[decide_eq_true this];rfl
 |cons d ds=>
  rw[decide_eq_false (fun z=>by rw[z]at hl;cases hl)];rfl
theorem pow2{j:Nat}(h:j<30):HL 0 ((2:Int)^j):=by
 have h1:(2:Nat)^j<2^30:=Nat.pow_lt_pow_right (by decide) h;have h2:0<(2:Nat)^j:=Nat.pow_pos (by decide);have e:((2:Int)^j)=((2^j:Nat):Int):=by push_cast;rfl
 rw[e];constructor
 ·omega
 ·exact Int.ofNat_lt.mpr h1
noncomputable def Rw(H:Hp)(a b t:Addr)(n:Nat)(nf:Nat->Str)(i:Nat)(σ:L2.St)(H':Hp):Prop:=aG H H'/\∃ys,H' t=some (.lst ys)/\ys.length=i/\Dr H' nf n ys/\∃u v w x,σ=[some (.ref a),some (.ref b),some (.int n),some (.ref t),u,v,w,x]
section
variable {G:Gam}{K:ae}{E:XS}{D2:Ends}{H H2:Hp}{a b t:Addr}{ns:List Int}{nf:Nat->Str}{m n i:Nat}{ys:List V}{d1 d2:Int}
theorem tV(ht:H t=none)(hb:SqL K H b ((az m).map fun k=>V.str (nf k)))(hm:m<=14)(hi':i<m)(s4:aG H H2)(et2:H2 t=some (.lst ys))(hys:ys.length=i)(dr2:Dr H2 nf n ys)(hD:∀σ2 H2,Rw H a b t n nf (i+1) σ2 H2->D2.nx σ2 H2)
  {H5:Hp}{l:Addr}{zs:List V}(s6:aG H2 H5)(el:H5 l=some (.lst zs))(hzl:zs.length=n)(hz:∀z∈zs,bj z=true):
  wpB G K E hU D2 [some (.ref a),some (.ref b),some (.int n),some (.ref t),some (.int i),some (.int d1),some (.int d2),some (.ref l)] H5:=by
 unfold hU;walk_at "wp";have et5:=s6 _ _ et2;have hb':((az m).map fun k=>V.str (nf k))[i]? =some (.str (nf i)):=by
  rw[aF,cG (by omega)];rfl
 refine⟨.inl ⟨rfl,_,SqL.of et5⟩,.inl ⟨b,_,i,_,rfl,rfl,(s4.trans s6).seq hb,cH hb',?_⟩⟩;refine⟨l,zs,rfl,.inl ⟨SqL.of el,fun r hr=>⟨short (by simp),fun p hp=>?_⟩⟩⟩;have s7:aG H5 (upd (upd H5 r (.tup zs)) p (.tup [.str (nf i),.ref r])):=(aA hr).trans (aA hp);have er:upd (upd H5 r (.tup zs)) p (.tup [.str (nf i),.ref r]) r=some (.tup zs):=aA hp _ _ ax;have ep:upd (upd H5 r (.tup zs)) p (.tup [.str (nf i),.ref r]) p=some (.tup [.str (nf i),.ref r]):=ax;generalize upd (upd H5 r (.tup zs)) p (.tup [.str (nf i),.ref r])=H7 at s7 er ep⊢;have et7:=s7 _ _ et5;refine⟨t,ys,_,rfl,rfl,et7,cy (by omega:ys.length<=40) (by decide),hD _ _ ⟨fm (s4.trans (s6.trans s7)) ht,ys++[.ref p],ax,by simp[hys],?_,_,_,_,_,rfl⟩⟩;have d7:Dr H7 nf n (ys++[.ref p]):=Dr.snoc (dr2.same (s6.trans s7)) (by rw[hys];exact ep) er hzl hz;exact d7.set et7
theorem tW(ht:H t=none)(hb:SqL K H b ((az m).map fun k=>V.str (nf k)))(hm:m<=14)(hn:n<=20)(hnf:∀i,eR (nf i)=true)(hi':i<m)(s4:aG H H2)(et2:H2 t=some (.lst ys))(hys:ys.length=i)(dr2:Dr H2 nf n ys)(hD:∀σ2 H2,Rw H a b t n nf (i+1) σ2 H2->D2.nx σ2 H2)
  {H4:Hp}{l:Addr}{vs:List V}(s6:aG H2 H4)(el:H4 l=some (.lst vs))(hvl':vs.length=n)(hvr:∀z∈vs,bj z=true):
  wpB G K E hV D2 [some (.ref a),some (.ref b),some (.int n),some (.ref t),some (.int i),some (.int d1),some (.int d2),some (.ref l)] H4:=by
 have tail:=fun{H5:Hp}{l:Addr}{zs:List V}=>tV (G:=G) (E:=E) (d1:=d1) (d2:=d2) ht hb hm hi' s4 et2 hys dr2 hD (H5:=H5) (l:=l) (zs:=zs);unfold hV;walk_at "wp";refine⟨short (by simp),fun p0 hp0=>?_⟩;generalize hX:upd H4 p0 _=H5;obtain⟨s7,e0⟩:=jf hX hp0;clear hX;have s8:aG H2 H5:=s6.trans s7;have d5:=dr2.same s8;have cp:∀y∈ys,cm H5 y=true:=fun y hy=>by
  obtain⟨k,hk⟩:=bH.mp hy;exact(ik hnf d5 (by omega) hk).1
 obtain⟨d,d',r1,r2,r3,r4⟩:=A4 (K:=K) (s8 _ _ et2) e0 cp;refine⟨d,d',r1,r2,r3,_,rfl,?_⟩;rw[r4];by_cases hy0:ys=[]
 ·rw[decide_eq_true hy0]
  exact tail s8 (s7 _ _ el) hvl' hvr
 ·rw[decide_eq_false hy0]
  show if true=true then _ else _
  rw[if_pos rfl];refine⟨by decide,?_⟩;by_cases hd3:d2%3=0
  ·rw[decide_eq_true hd3,if_pos rfl]
   have hylen:0<ys.length:=cX.mpr hy0;refine⟨⟨by decide,by decide⟩,Or.inl ⟨t,ys,rfl,.inl (SqL.of (s8 _ _ et2)),?_⟩⟩;walk_at "wp";refine⟨by omega,?_⟩;have h0:0<=d2/3%(ys.length:Int):=bw _ (by omega);have h1:d2/3%(ys.length:Int)<ys.length:=bL _ (by omega);obtain⟨k,hk⟩:=cN h0;have hkl:k<ys.length:=by omega
   obtain⟨y,hy⟩:∃y,ys[k]? =some y:=⟨ys[k],ag hkl⟩;obtain⟨b1,r,zs,rfl,k1,k2,k3,k4⟩:=d5 k y hy;rw[hk];refine .inl ⟨t,ys,k,_,rfl,rfl,SqL.of (s8 _ _ et2),cH hy,?_⟩;refine .inr (.inl ⟨b1,_,1,.ref r,rfl,rfl,SqT.of k1,rfl,?_⟩);refine⟨r,zs,rfl,.inr (SqT.of k2),fun l2 hl5=>?_⟩;have s9:aG H2 (upd H5 l2 (.lst zs)):=s8.trans (aA hl5);have el2:upd H5 l2 (.lst zs) l2=some (.lst zs):=ax;have hf2:H2 l2=none:=s8.free hl5;unfold jm;walk_at "wp";by_cases hn0:(0:Int)<(n:Int)
   ·rw[decide_eq_true hn0,if_pos rfl]
    have g0:0<=d2/60%(n:Int):=bw _ (by omega);have g1':d2/60%(n:Int)<n:=bL _ hn0;obtain⟨w,hw⟩:=cN g0;refine⟨by decide,⟨by decide,by decide⟩,hn0,l2,zs,_,w,rfl,rfl,el2,?_,?_⟩
    ·rw[hw]
     unfold ixN;rw[if_pos (by omega),if_pos (by omega)];simp
    ·refine tail (zs:=zs.set w (.int (d1%2))) (fm s9 hf2) ax (by rw[List.length_set];exact k3) fun z hz=>?_
     rcases List.mem_or_eq_of_mem_set hz with hz|rfl
     ·exact k4 z hz
     ·exact mod2 _
   ·rw[decide_eq_false hn0,if_neg aq]
    exact tail s9 el2 k3 k4
  ·rw[decide_eq_false hd3]
   exact tail s8 (s7 _ _ el) hvl' hvr
theorem tX(ht:H t=none)(ha:SqL K H a (ns.map V.int))(hb:SqL K H b ((az m).map fun k=>V.str (nf k)))(hm:m<=14)(hn:n<=20)(hnf:∀i,eR (nf i)=true)(hi':i<min ns.length m)(s4:aG H H2)(et2:H2 t=some (.lst ys))(hys:ys.length=i)(dr2:Dr H2 nf n ys)(hD:∀σ2 H2,Rw H a b t n nf (i+1) σ2 H2->D2.nx σ2 H2){x:Option V}:
  wpB G K E hW D2 [some (.ref a),some (.ref b),some (.int n),some (.ref t),some (.int i),some (.int d1),some (.int d2),x] H2:=by
 unfold hW;walk_at "wp";refine d8 ?_;walk_at "wp";refine⟨(n:Int),rfl,by omega,by omega,?_⟩;refine dZ du (short (by omega)) (fun _ _=>trivial) (fun i v _=>bj v=true) (fun _ _ _ _ _ h=>h) (fun τ=>∃t,τ=[t,some (.int d1)]) ⟨none,rfl⟩ ?_ ?_
 ·rintro j y τ H3 R hj ⟨t',rfl⟩ s5 rfl k
  walk_at "wp"
  rw[E7];walk_at "wp";simp only[dD,Int.one_mul,aR];exact⟨⟨by omega,by omega,by decide⟩,pow2 (by omega),by decide,k _ _ _ ⟨_,rfl⟩ (aG.refl _) (mod2 _)⟩
 intro vs H3 l hvl hF s5 hl3;exact tW ht hb hm hn hnf (by omega) s4 et2 hys dr2 hD (s5.trans (aA hl3)) ax (by rw[hvl];omega) fun z hz=>by
  obtain⟨k,hk⟩:=bH.mp hz;exact hF k z hk
end
noncomputable def rG(K:ae):Sp:=fun vs H Q _=>∃(a b:Addr)(ns:List Int)(nf:Nat->Str)(m n:Nat),vs=[.ref a,.ref b,.int n]/\SqL K H a (ns.map V.int)/\SqL K H b ((az m).map fun k=>V.str (nf k))/\ns.length<=14/\m<=14/\n<=20/\(∀i,eR (nf i)=true)/\
 ∀(H':Hp)(t:Addr)(ys:List V),aG H H'->H t=none->H' t=some (.lst ys)->ys.length=min ns.length m->Dr H' nf n ys->Q (.ref t) H'
theorem CF{G:Gam}{K:ae}(g1:G.fn "_law_draw" 2=some (gN,[])):
  Sat G K (rG K) oN ot:=by
 rintro vs H Q E ⟨a,b,ns,nf,m,n,rfl,ha,hb,hns,hm,hn,hnf,q⟩;unfold oN l5;change wpB G K _ _ _ [some (.ref a),some (.ref b),some (.int n),none,none,none,none,none] H;walk_at "wp";refine⟨short (by simp),fun t ht=>?_⟩;refine hJ ?_;walk_at "wp";have s1:aG H (upd H t (.lst [])):=aA ht;refine Or.inl ⟨a,_,rfl,.inl (s1.seq ha),Or.inl ⟨b,_,rfl,.inl (s1.seq hb),?_⟩⟩;have emin:(if(((az m).map fun k=>V.str (nf k)).length:Int)<((ns.map V.int).length:Int)then(((az m).map fun k=>V.str (nf k)).length:Int)else((ns.map V.int).length:Int))=(min ns.length m:Nat):=by
  simp only[ao,cJ];split <;>omega
 refine⟨_,_,rfl,?_⟩;rw[emin];refine⟨_,rfl,by omega,by omega,?_⟩;refine gu du (Rw H a b t n nf)
  ⟨s1,[],ax,rfl,fun i y e=>by simp at e,none,none,none,none,rfl⟩ (fun _ _ _ _ _=>trivial) ?_ ?_
 ·rintro i x σ H1 H2 D2 hi ⟨s2,ys,et,hys,dr,u,v,w,x',rfl⟩ rfl s3 hD _
  have hi':i<min ns.length m:=by omega
  walk_at "wp"
  simp only[dD];have hc:(ns.map V.int)[i]? =some (.int (ns.getD i 0)):=by
   rw[aF,ag (by omega),aj,ag (by omega)];rfl
  have s4:aG H H2:=s2.trans s3;refine⟨_,_,g1,.inl ⟨a,_,i,_,rfl,rfl,s4.seq ha,cH hc,?_⟩⟩;walk_at "wp";refine⟨mP (by decide) (by decide),_,_,rfl,by omega,by omega,?_⟩;unfold kA;walk_at "wp";refine⟨_,_,g1,.inl ⟨a,_,i,_,rfl,rfl,s4.seq ha,cH hc,?_⟩⟩;walk_at "wp";refine⟨mP (by decide) (by decide),_,_,rfl,by omega,by omega,?_⟩;generalize draw (ns.getD i 0) (30+4*(i:Int))=d1;generalize draw (ns.getD i 0) (31+4*(i:Int))=d2;refine tX ht ha hb hm hn hnf hi' s4 (s3 _ _ et) hys (dr.same s3) hD
 ·rintro σ H1 ⟨s2,ys,et,hys,dr,u,v,w,x',rfl⟩
  unfold lZ;walk_at "wp";exact q H1 t ys s2 ht et (by omega) dr
theorem qU{vs:List V}(h:∀(i:Nat) v,vs[i]? =some v->∃m:Int,v=.int m):∃ns:List Int,vs=ns.map V.int:=by
 induction vs with
 |nil=>exact⟨[],rfl⟩
 |cons v vs ih=>
  obtain⟨m,rfl⟩:=h 0 v rfl;obtain⟨ns,rfl⟩:=ih fun i w e=>h (i+1) w (by simpa using e);exact⟨m::ns,rfl⟩
theorem y9(ns:List Int)(lo hi:Option Int):∃ms:List Int,pM (ns.map V.int) lo hi=ms.map V.int:=by
 refine qU fun i v e=>?_;have hm:=aU e;unfold pM at hm;obtain⟨m,_,rfl⟩:=aV.mp (List.mem_of_mem_drop (Es hm));exact⟨m,rfl⟩
end K21
namespace K22
open PySem R
noncomputable def qF:List Str:=["_law_readings","_law_some"]
noncomputable def k6:List Str:=["_law_readings","_law_some"]
noncomputable def la:CB:=
  (.cons (.ret (.bfn .tuple (.cons (.comp ["_law_j"] [1,0] (.name 0) (.range1 (.bfn .len (.cons (.var 0) .nil))) .no (.ite (.cmp .In (.var 0) (.var 1)) (.bin .Sub (.con (.int 1)) (.idx (.var 2) (.var 0))) (.idx (.var 2) (.var 0)))) .nil)))
  .nil)
noncomputable def yo:List Str:=["_law_cells","_law_many"]
noncomputable def qb:List Str:=["_law_cells","_law_many","_law_seed","_law_nodes","_law_links","_law_fresh","_law_k","_law_number","_law_some","_law_j","_law_at"]
noncomputable def mY:CB:=
  (.cons (.ret (.tup (.cons (.var 3) (.cons (.var 4) .nil))))
  .nil)
noncomputable def gQ:CB:=
  (.cons (.expr (.meth1 .append (.var 3) (.call "_law_otherwise" (.cons (.idx (.var 3) (.var 10)) (.cons (.var 8) .nil)))))
  .nil)
noncomputable def jG:CB:=
  (.cons (.expr (.meth1 .append (.var 4) (.tup (.cons (.var 10) (.cons (.bfn .len (.cons (.var 3) .nil)) (.cons (.bfn .sorti (.cons (.var 8) .nil)) .nil))))))
  gQ)
noncomputable def iM:CB:=
  (.cons (.iff (.cmp .NotEq (.var 8) (.lst .nil))
  (.cons (.asg (.name 10) (.bin .Mod (.call "_law_draw" (.cons (.idx (.var 0) (.var 6)) (.cons (.bin .Add (.con (.int 41)) (.bin .Mult (.con (.int 4)) (.var 6))) .nil))) (.bfn .len (.cons (.var 3) .nil))))
  jG)
  .nil)
  .nil)
noncomputable def iN:CB:=
  (.cons (.forr (.name 9) (.range1 (.bin .Add (.con (.int 1)) (.bin .FloorDiv (.bin .Mod (.var 7) (.con (.int 7))) (.con (.int 5)))))
  (.cons (.iff (.cmp .NotEq (.var 5) (.lst .nil))
  (.cons (.expr (.meth1 .append (.var 8) (.meth1 .pop (.var 5) (.bin .Mod (.bin .FloorDiv (.var 7) (.idx (.lst (.cons (.con (.int 7)) (.cons (.con (.int 112)) .nil))) (.var 9))) (.bfn .len (.cons (.var 5) .nil))))))
  .nil)
  .nil)
  .nil))
  iM)
noncomputable def lh:CB:=
  (.cons (.asg (.name 8) (.lst .nil))
  iN)
noncomputable def jU:CB:=
  (.cons (.forr (.name 6) (.range1 (.bfn .len (.cons (.var 0) .nil)))
  (.cons (.asg (.name 7) (.call "_law_draw" (.cons (.idx (.var 0) (.var 6)) (.cons (.bin .Add (.con (.int 40)) (.bin .Mult (.con (.int 4)) (.var 6))) .nil))))
  lh))
  mY)
noncomputable def mZ:CB:=
  (.cons (.asg (.name 5) (.lrng (.var 1)))
  jU)
noncomputable def m4:CB:=
  (.cons (.asg (.name 4) (.lst .nil))
  mZ)
noncomputable def jV:CB:=
  (.cons (.asg (.name 3) (.lst (.cons (.bfn .tuple (.cons (.comp ["_law_j"] [2] (.name 0) (.range1 (.var 1)) .no (.bin .Mod (.bin .FloorDiv (.var 1) (.bin .LShift (.con (.int 1)) (.var 0))) (.con (.int 2)))) .nil)) .nil)))
  m4)
noncomputable def m5:CB:=
  (.cons (.iff (.cmp .NotEq (.var 0) (.lst .nil))
  (.cons (.asg (.name 2) (.call "_law_draw" (.cons (.idx (.var 0) (.con (.int 0))) (.cons (.con (.int 20)) .nil))))
  .nil)
  .nil)
  jV)
noncomputable def qp:CB:=
  (.cons (.asg (.name 2) (.con (.int 1)))
  m5)
noncomputable def Aq:List Str:=["_law_cells","_law_nodes"]
noncomputable def rZ:List Str:=["_law_cells","_law_nodes","_law_held_here","_law_k","_law_number"]
noncomputable def oO:CB:=
  (.cons (.ret (.var 2))
  .nil)
noncomputable def l6:CB:=
  (.cons (.iff (.or (.cmp .Gt (.bin .Mod (.var 4) (.con (.int 5))) (.con (.int 0))) (.cmp .Eq (.var 2) (.lst .nil)))
  (.cons (.expr (.meth1 .append (.var 2) (.bin .Mod (.var 3) (.bfn .len (.cons (.var 1) .nil)))))
  .nil)
  (.cons (.expr (.meth1 .append (.var 2) (.bin .Mod (.bin .FloorDiv (.var 4) (.con (.int 5))) (.bfn .len (.cons (.var 1) .nil)))))
  .nil))
  .nil)
noncomputable def oP:CB:=
  (.cons (.forr (.name 3) (.range1 (.bfn .len (.cons (.var 0) .nil)))
  (.cons (.asg (.name 4) (.call "_law_draw" (.cons (.idx (.var 0) (.var 3)) (.cons (.bin .Add (.con (.int 60)) (.var 3)) .nil))))
  l6))
  oO)
noncomputable def sX:CB:=
  (.cons (.asg (.name 2) (.lst .nil))
  oP)
end K22
namespace K22
open PySem PySem.Spec PyProof.Rows L2 R Cp Lt Kc K21
theorem jE{K:ae}{H:Hp}{t p:Addr}{fs:List Int}(et:SqL K H t (fs.map V.int))(ep:H p=some (.lst [])):∃d d',Rep K H d (.ref t)/\Rep K H d' (.ref p)/\hgt d<=30/\eqD d d'=decide (fs=[]):=by
 refine⟨.lst (fs.map D.int),.lst [],⟨t,_,rfl,et,gE.ints fs⟩,⟨p,[],rfl,SqL.of ep,rfl⟩,by show fF (fs.map D.int)+1<=30;rw[vb];decide,?_⟩;cases fs with
 |nil=>rfl
 |cons x r=>
  rw[decide_eq_false (by simp)];rfl
theorem hO:∀(l:List Int)(z:Nat)(h:z<l.length),(l[z]::l.eraseIdx z).Perm l
 | [],_,h=>absurd h (fS _)
 |a::l,0,_=>d4 _
 |a::l,z+1,h=>by
  have h':z<l.length:=by simpa using h
  exact(tQ a l[z] (l.eraseIdx z)).trans ((hO l z h').cons a)
noncomputable def jD(K:ae):Sp:=fun vs H Q _=>∃(r b:Addr)(zs:List V)(ms:List Int),vs=[.ref r,.ref b]/\SqT K H r zs/\SqL K H b (ms.map V.int)/\zs.length<=40/\(∀z∈zs,bj z=true)/\
 ∀(H':Hp)(p:Addr)(ys:List V),aG H H'->H p=none->H' p=some (.tup ys)->ys.length=zs.length->(∀y∈ys,bj y=true)->Q (.ref p) H'
theorem Eu{G:Gam}{K:ae}:Sat G K (jD K) la k6:=by
 rintro vs H Q E ⟨r,b,zs,ms,rfl,hr,hb,hl,hz,q⟩;unfold la;change wpB G K _ _ _ [some (.ref r),some (.ref b)] H;walk_at "wp";refine d8 ?_;walk_at "wp";refine Or.inl ⟨r,zs,rfl,.inr hr,_,rfl,by omega,by omega,?_⟩;refine dZ du (short (by omega)) (fun _ _=>trivial) (fun i v _=>bj v=true) (fun _ _ _ _ _ h=>h) (fun τ=>∃t,τ=[t,some (.ref b),some (.ref r)]) ⟨none,rfl⟩ ?_ ?_
 ·rintro i x τ H3 R hi ⟨t,rfl⟩ s3 rfl k
  walk_at "wp"
  simp only[dD];have hi':i<zs.length:=by omega
  have hg:zs[i]? =some zs[i]:=ag hi';have fl:(ms.map V.int).all mM=true:=by
   rw[bK];intro v hv;obtain⟨m,_,rfl⟩:=aV.mp hv;rfl
  have hrd:=hz _ (bq hi');refine .inr ⟨b,_,rfl,.inl (s3.seq hb),rfl,fl,_,rfl,?_⟩;show if inV (V.int (i:Int)) (ms.map V.int)=true then _ else _
  split
  ·refine .inr (.inl ⟨r,zs,i,_,rfl,rfl,s3.tup hr,cH hg,?_⟩)
   rcases fu hrd with e|e
   ·rw[e]
    walk_at "wp"
    exact k _ _ _ ⟨_,rfl⟩ (aG.refl _) rfl
   ·rw[e]
    walk_at "wp"
    exact k _ _ _ ⟨_,rfl⟩ (aG.refl _) rfl
  ·refine .inr (.inl ⟨r,zs,i,_,rfl,rfl,s3.tup hr,cH hg,?_⟩)
   exact k _ _ _ ⟨_,rfl⟩ (aG.refl _) hrd
 ·intro vs H2 l hvl hF s2 hl2
  refine⟨l,vs,rfl,.inl ⟨SqL.of ax,fun p hp=>q _ p vs (s2.trans ((aA hl2).trans (aA hp))) ((s2.trans (aA hl2)).free hp) ax (by omega) fun y hy=>?_⟩⟩;obtain⟨i,hi⟩:=bH.mp hy;exact hF i y hi
noncomputable def Nds(H:Hp)(n:Nat)(ys:List V):Prop:=∀y∈ys,∃r zs,y=.ref r/\H r=some (.tup zs)/\zs.length=n/\∀z∈zs,bj z=true
theorem Nds.same{H H':Hp}{n:Nat}{ys:List V}(d:Nds H n ys)(s:aG H H'):Nds H' n ys:=fun y hy=>by
 obtain⟨r,zs,h1,h2,h3⟩:=d y hy;exact⟨r,zs,h1,s _ _ h2,h3⟩
theorem Nds.set{H:Hp}{n:Nat}{ys vs us:List V}{t:Addr}(d:Nds H n ys)(h:H t=some (.lst vs)):Nds (upd H t (.lst us)) n ys:=fun y hy=>by
 obtain⟨r,zs,h1,h2,h3⟩:=d y hy;refine⟨r,zs,h1,?_,h3⟩;rw[aL (fun z=>by rw[z,h]at h2;cases h2)];exact h2
noncomputable def qO(K:ae):Sp:=fun vs H Q _=>∃(a:Addr)(ns:List Int)(n:Nat),vs=[.ref a,.int n]/\SqL K H a (ns.map V.int)/\ns.length<=14/\n<=8/\
 ∀(H':Hp)(p nd lk:Addr)(ys:List V),aG H H'->H' p=some (.tup [.ref nd,.ref lk])->H nd=none->H' nd=some (.lst ys)->ys≠[]->ys.length<=15->Nds H' n ys->Q (.ref p) H'
section
variable {G:Gam}{K:ae}
structure Fs(H:Hp)(nd lk fr:Addr):Prop where
 fnd:H nd=none
 flk:H lk=none
 ffr:H fr=none
 n1:nd≠lk
 n2:nd≠fr
 n3:lk≠fr
noncomputable def Gw(H:Hp)(a nd lk fr:Addr)(n:Nat)(sd:Int)(k:Nat)(σ:L2.St)(H':Hp):Prop:=aG H H'/\∃(ys ls:List V)(fs:List Int),H' nd=some (.lst ys)/\H' lk=some (.lst ls)/\H' fr=some (.lst (fs.map V.int))/\ys≠[]/\ys.length<=k+1/\ls.length<=k/\fs.Nodup/\fs.length<=n/\Nds H' n ys/\∃u v w x y,σ=[some (.ref a),some (.int n),some (.int sd),some (.ref nd),some (.ref lk),some (.ref fr),u,v,w,x,y]
section
variable {E:XS}{D2:Ends}{H:Hp}{a nd lk fr sm:Addr}{ns:List Int}{n k:Nat}{sd d0:Int}{ys ls:List V}
noncomputable def Gi(H:Hp)(a nd lk fr sm:Addr)(n k:Nat)(sd d0:Int)(ys ls:List V)(j:Nat)(σ:L2.St)(H':Hp):Prop:=aG H H'/\H' nd=some (.lst ys)/\H' lk=some (.lst ls)/\Nds H' n ys/\∃(fs ms:List Int),H' fr=some (.lst (fs.map V.int))/\H' sm=some (.lst (ms.map V.int))/\(ms++fs).Nodup/\ms.length<=j/\fs.length<=n/\∃x y,σ=[some (.ref a),some (.int n),some (.int sd),some (.ref nd),some (.ref lk),some (.ref fr),some (.int k),some (.int d0),some (.ref sm),x,y]
theorem Gi.same{j:Nat}{σ:L2.St}{H1 H2:Hp}(g:Gi H a nd lk fr sm n k sd d0 ys ls j σ H1)(s:aG H1 H2):Gi H a nd lk fr sm n k sd d0 ys ls j σ H2:=by
 obtain⟨t1,t2,t3,t4,fs,ms,t5,t6,t7⟩:=g;exact⟨t1.trans s,s _ _ t2,s _ _ t3,t4.same s,fs,ms,s _ _ t5,s _ _ t6,t7⟩
theorem sF{ns:List Int}(hk':k<ns.length):(ns.map V.int)[k]? =some (.int (ns.getD k 0)):=by
 rw[aF,ag hk',aj,ag hk'];rfl
theorem rj(g2:G.fn "_law_otherwise" 2=some (jD K,[]))(F:Fs H nd lk fr)(hk:k<14)(hn:n<=8)(b4:ys≠[])(b5:ys.length<=k+1)(hls:ls.length<=k+1)(hD:∀σ2 H2,Gw H a nd lk fr n sd (k+1) σ2 H2->D2.nx σ2 H2){j:Nat}{H16:Hp}{z:Nat}(hzl:z<ys.length){x y:Option V}
  (g:Gi H a nd lk fr sm n k sd d0 ys ls j [some (.ref a),some (.int n),some (.int sd),some (.ref nd),some (.ref lk),some (.ref fr),some (.int k),some (.int d0),some (.ref sm),x,y] H16):
  wpB G K E gQ D2 [some (.ref a),some (.int n),some (.int sd),some (.ref nd),some (.ref lk),some (.ref fr),some (.int k),some (.int d0),some (.ref sm),x,some (.int z)] H16:=by
 obtain⟨t1',t2',t3',t4',fs,ms,t5',t6',t7,t8,t9,_⟩:=g;unfold gQ;walk_at "wp";have fsn:fs.Nodup:=(dA.mp t7).2.1;have hgz:ys[z]? =some ys[z]:=ag hzl;obtain⟨r,zs,ez,k1,k2,k3⟩:=t4' ys[z] (bq hzl);rw[ez]at hgz;refine⟨.inl ⟨rfl,_,SqL.of t2'⟩,_,_,g2,.inl ⟨nd,ys,z,_,rfl,rfl,SqL.of t2',cH hgz,?_⟩⟩;refine⟨r,sm,zs,ms,rfl,SqT.of k1,SqL.of t6',by omega,k3,fun H17 p ws s18 hp ep hwl hw=>?_⟩;have v2:=s18 _ _ t2';refine⟨nd,ys,_,rfl,rfl,v2,cy (by omega:ys.length<=40) (by decide),?_⟩;refine hD _ _ ⟨fm (t1'.trans s18) F.fnd,ys++[.ref p],ls,fs,ax,?_,?_,by simp,by simp;omega,hls,fsn,t9,?_,_,_,_,_,_,rfl⟩
 ·rw[aL (bz F.n1)];exact s18 _ _ t3'
 ·rw[aL (bz F.n2)];exact s18 _ _ t5'
 ·intro y hy
  rcases dW.mp hy with hy|hy
  ·exact((t4'.same s18).set v2) y hy
  ·rw[aO]at hy
   subst hy;refine⟨p,ws,rfl,?_,by omega,hw⟩;rw[aL (fun z=>by rw[z,v2]at ep;cases ep)];exact ep
theorem vK(g1:G.fn "_law_draw" 2=some (gN,[]))(g2:G.fn "_law_otherwise" 2=some (jD K,[]))(F:Fs H nd lk fr)(m2:lk≠sm)(ha:SqL K H a (ns.map V.int))(hk':k<ns.length)(hk:k<14)(hn:n<=8)(b4:ys≠[])(b5:ys.length<=k+1)(b6:ls.length<=k)(hD:∀σ2 H2,Gw H a nd lk fr n sd (k+1) σ2 H2->D2.nx σ2 H2){j:Nat}(hj2:j<=2){H11:Hp}{x y:Option V}
  (g:Gi H a nd lk fr sm n k sd d0 ys ls j [some (.ref a),some (.int n),some (.int sd),some (.ref nd),some (.ref lk),some (.ref fr),some (.int k),some (.int d0),some (.ref sm),x,y] H11):
  wpB G K E iM D2 [some (.ref a),some (.int n),some (.int sd),some (.ref nd),some (.ref lk),some (.ref fr),some (.int k),some (.int d0),some (.ref sm),x,y] H11:=by
 unfold iM;walk_at "wp";refine⟨short (by simp),fun p0 hp0=>?_⟩;have g:=g.same (aA (o:=.lst []) hp0);have e0:upd H11 p0 (.lst []) p0=some (.lst []):=ax;generalize upd H11 p0 (.lst [])=H13 at g e0⊢;obtain⟨t1,t2,t3,t4,fs,ms,t5,t6,t7,t8,t9,_⟩:=id g;have fsn:fs.Nodup:=(dA.mp t7).2.1;have msn:ms.Nodup:=(dA.mp t7).1;obtain⟨d,d',r1,r2,r3,r4⟩:=jE (K:=K) (SqL.of t6) e0;refine⟨d,d',r1,r2,r3,_,rfl,?_⟩;rw[r4];by_cases hf:ms=[]
 ·rw[decide_eq_true hf]
  exact hD _ _ ⟨t1,ys,ls,fs,t2,t3,t5,b4,by omega,by omega,fsn,t9,t4,_,_,_,_,_,rfl⟩
 ·rw[decide_eq_false hf]
  show if true=true then _ else _
  rw[if_pos rfl];refine⟨_,_,g1,.inl ⟨a,_,k,_,rfl,rfl,t1.seq ha,cH (sF hk'),?_⟩⟩;walk_at "wp";refine⟨mP (by decide) (by decide),_,_,rfl,by omega,by omega,?_⟩;have hyl:0<ys.length:=cX.mpr b4;generalize draw (ns.getD k 0) (41+4*(k:Int))=d1;refine Or.inl ⟨nd,ys,rfl,.inl (SqL.of t2),?_⟩;walk_at "wp";refine⟨by omega,?_⟩;have i0:0<=d1%(ys.length:Int):=bw _ (by omega);have i1:d1%(ys.length:Int)<ys.length:=bL _ (by omega);obtain⟨z,hz⟩:=cN i0;rw[hz];have hzl:z<ys.length:=by omega
  unfold jG;walk_at "wp";refine⟨.inl ⟨rfl,_,SqL.of t3⟩,Or.inl ⟨nd,ys,rfl,.inl (SqL.of t2),?_⟩⟩;have hm64:ms.length<64:=by omega
  refine⟨sm,ms,rfl,SqL.of t6,hm64,msn,fun so hso=>⟨short (by simp),fun tp htp=>?_⟩⟩;have g:=g.same ((aA (o:=.lst (_root_.Q.sortI ms)) hso).trans (aA (o:=.tup [.int z,.int ys.length,.ref so]) htp));generalize upd (upd H13 so (.lst (_root_.Q.sortI ms))) tp (.tup [.int z,.int ys.length,.ref so])=H15 at g⊢;obtain⟨t1,t2,t3,t4,fs,ms,t5,t6,t7,t8,t9,_⟩:=g;refine⟨lk,ls,_,rfl,rfl,t3,cy (by omega:ls.length<=40) (by decide),?_⟩;refine rj (j:=j) (ls:=ls++[.ref tp]) g2 F hk hn b4 b5 (by simp;omega) hD hzl (x:=x) (y:=y) ⟨fm t1 F.flk,?_,ax,t4.set t3,fs,ms,?_,?_,t7,t8,t9,_,_,rfl⟩
  ·rw[aL F.n1];exact t2
  ·rw[aL (bz F.n3)];exact t5
  ·rw[aL (bz m2)];exact t6
theorem vL(g1:G.fn "_law_draw" 2=some (gN,[]))(g2:G.fn "_law_otherwise" 2=some (jD K,[]))(F:Fs H nd lk fr)(fsm:H sm=none)(m1:nd≠sm)(m2:lk≠sm)(m3:fr≠sm)(ha:SqL K H a (ns.map V.int))(hk':k<ns.length)(hk:k<14)(hn:n<=8)(hd0:0<=d0)(b4:ys≠[])(b5:ys.length<=k+1)(b6:ls.length<=k)(hD:∀σ2 H2,Gw H a nd lk fr n sd (k+1) σ2 H2->D2.nx σ2 H2){H10:Hp}{x y:Option V}
  (g:Gi H a nd lk fr sm n k sd d0 ys ls 0 [some (.ref a),some (.int n),some (.int sd),some (.ref nd),some (.ref lk),some (.ref fr),some (.int k),some (.int d0),some (.ref sm),x,y] H10):
  wpB G K E iN D2 [some (.ref a),some (.int n),some (.int sd),some (.ref nd),some (.ref lk),some (.ref fr),some (.int k),some (.int d0),some (.ref sm),x,y] H10:=by
 unfold iN;walk_at "wp";refine hJ ?_;walk_at "wp";have hq0:0<=d0%7:=bw _ (by decide);have hq1:d0%7<7:=bL _ (by decide);refine⟨by decide,⟨by decide,by decide⟩,_,rfl,by omega,by omega,?_⟩;refine gu du (Gi H a nd lk fr sm n k sd d0 ys ls) g (fun _ _ _ _ _=>trivial) ?_ ?_
 ·rintro j x σ H11 H12 D3 hj g rfl s14 hD3 _
  have hj2:j<2:=by omega
  have g:=g.same s14;obtain⟨_,_,_,_,_,_,_,_,_,_,_,x,y,rfl⟩:=id g;walk_at "wp";simp only[dD];refine⟨short (by simp),fun p0 hp0=>?_⟩;have g:=g.same (aA (o:=.lst []) hp0);have e0:upd H12 p0 (.lst []) p0=some (.lst []):=ax;generalize upd H12 p0 (.lst [])=H13 at g e0⊢;obtain⟨t1,t2,t3,t4,fs,ms,t5,t6,t7,t8,t9,_⟩:=g;obtain⟨d,d',r1,r2,r3,r4⟩:=jE (K:=K) (SqL.of t5) e0;refine⟨d,d',r1,r2,r3,_,rfl,?_⟩;rw[r4];by_cases hf:fs=[]
  ·rw[decide_eq_true hf]
   exact hD3 _ _ ⟨t1,t2,t3,t4,fs,ms,t5,t6,t7,by omega,t9,_,_,rfl⟩
  ·rw[decide_eq_false hf]
   show if true=true then _ else _
   rw[if_pos rfl];have hfl:0<fs.length:=cX.mpr hf;refine⟨.inl ⟨rfl,_,SqL.of t6⟩,.inl ⟨rfl,_,SqL.of t5⟩,short (by simp),fun p1 hp1=>?_⟩;generalize hX:upd H13 p1 _=H14;obtain⟨s16,e1⟩:=jf hX hp1;clear hX;have t2:=s16 _ _ t2;have t3:=s16 _ _ t3;have t4:=t4.same s16;have t5:=s16 _ _ t5;have t6:=s16 _ _ t6;have t1:=t1.trans s16;obtain⟨dv,hdv,hdv2⟩:∃dv:Int,[V.int 7,V.int 112][j]? =some (.int dv)/\HL d0 dv:=by
    have :j=0\/j=1:=by omega
    rcases this with rfl|rfl
    ·exact⟨7,rfl,by decide,by decide⟩
    ·exact⟨112,rfl,by decide,by decide⟩
   refine .inl ⟨p1,_,j,_,rfl,rfl,SqL.of e1,cH hdv,?_⟩;walk_at "wp";refine⟨hdv2,Or.inl ⟨fr,_,rfl,.inl (SqL.of t5),?_⟩⟩;rw[ao];walk_at "wp";have i0:0<=d0/dv%(fs.length:Int):=bw _ (by omega);have i1:d0/dv%(fs.length:Int)<fs.length:=bL _ (by omega);obtain⟨z,hz⟩:=cN i0;rw[hz];have hzl:z<fs.length:=by omega
   have hgz:(fs.map V.int)[z]? =some (.int fs[z]):=by rw[aF,ag hzl];rfl
   refine⟨by omega,.inr ⟨fr,_,z,z,_,rfl,rfl,t5,by omega,by omega,?_,hgz,?_⟩⟩
   ·rw[ao,qK (by omega) (by omega)]
    simp
   have ee:(fs.map V.int).eraseIdx z=(fs.eraseIdx z).map V.int:=by
    rw[tO,tO,de,List.map_take,List.map_drop]
   rw[ee];have t6':upd H14 fr (.lst ((fs.eraseIdx z).map V.int)) sm=some (.lst (ms.map V.int)):=by rw[aL (bz m3)];exact t6
   refine⟨sm,ms.map V.int,_,rfl,rfl,t6',cy (by rw[ao];omega:(ms.map V.int).length<=40) (by decide),?_⟩;have pm:((ms++[fs[z]])++fs.eraseIdx z).Perm (ms++fs):=by
    rw[qY];exact(hO fs z hzl).append_left ms
   refine hD3 _ _ ⟨fm (fm t1 F.ffr) fsm,?_,?_,(t4.set t5).set t6',fs.eraseIdx z,ms++[fs[z]],?_,?_,pm.nodup_iff.mpr t7,by simp;omega,by rw[List.length_eraseIdx];split <;>omega,_,_,rfl⟩
   ·rw[aL m1,aL F.n2];exact t2
   ·rw[aL m2,aL F.n3];exact t3
   ·rw[aL m3];exact ax
   ·rw[ax,de];rfl
 ·intro σ H11 g
  obtain⟨_,_,_,_,_,_,_,_,_,_,_,x,y,rfl⟩:=id g;exact vK g1 g2 F m2 ha hk' hk hn b4 b5 b6 hD (by omega) g
end
theorem zU(g1:G.fn "_law_draw" 2=some (gN,[]))(g2:G.fn "_law_otherwise" 2=some (jD K,[])){E:XS}{Q:VK}{H0 H H7:Hp}{D:Ends}{a nd lk fr:Addr}{ns:List Int}{n:Nat}{sd:Int}(F:Fs H nd lk fr)(s0:aG H0 H)(ha:SqL K H a (ns.map V.int))(hns:ns.length<=14)(hn:n<=8)(hr:D.rt=Q)
  (q:∀(H':Hp)(p nd lk:Addr)(ys:List V),aG H0 H'->H' p=some (.tup [.ref nd,.ref lk])->H0 nd=none->H' nd=some (.lst ys)->ys≠[]->ys.length<=15->Nds H' n ys->Q (.ref p) H')
  (g:Gw H a nd lk fr n sd 0 [some (.ref a),some (.int n),some (.int sd),some (.ref nd),some (.ref lk),some (.ref fr),none,none,none,none,none] H7):
  wpB G K E jU D [some (.ref a),some (.int n),some (.int sd),some (.ref nd),some (.ref lk),some (.ref fr),none,none,none,none,none] H7:=by
 unfold jU;walk_at "wp";refine hJ ?_;walk_at "wp";refine Or.inl ⟨a,_,rfl,.inl (g.1.seq ha),_,rfl,by rw[ao];omega,by rw[ao];omega,?_⟩;refine gu du (Gw H a nd lk fr n sd) g (fun _ _ _ _ _=>trivial) ?_ ?_
 ·rintro k x σ H8 H9 D2 hk ⟨s9,ys,ls,fs,b1,b2,b3,b4,b5,b6,b7,b8,b9,u,v,w,x',y',rfl⟩ rfl s10 hD _
  have hk':k<ns.length:=by simpa using hk
  have s11:aG H H9:=s9.trans s10;walk_at "wp";simp only[dD];refine⟨_,_,g1,.inl ⟨a,_,k,_,rfl,rfl,s11.seq ha,cH (sF hk'),?_⟩⟩;walk_at "wp";refine⟨mP (by decide) (by decide),_,_,rfl,by omega,by omega,?_⟩;have hd0:=w8 (ns.getD k 0) (40+4*(k:Int));generalize draw (ns.getD k 0) (40+4*(k:Int))=d0 at hd0⊢;unfold lh;walk_at "wp";refine⟨short (by simp),fun sm hsm=>?_⟩;have c1:=s10 _ _ b1;have c2:=s10 _ _ b2;have c3:=s10 _ _ b3;have s12:aG H9 (upd H9 sm (.lst [])):=aA hsm;exact vL g1 g2 F (s11.free hsm) (fun z=>by rw[<-z,c1]at hsm;cases hsm) (fun z=>by rw[<-z,c2]at hsm;cases hsm) (fun z=>by rw[<-z,c3]at hsm;cases hsm) ha hk' (by omega) hn hd0 b4 b5 b6 hD
   ⟨s11.trans s12,s12 _ _ c1,s12 _ _ c2,(b9.same s10).same s12,fs,[],s12 _ _ c3,ax,by simpa using b7,by simp,b8,_,_,rfl⟩
 ·rintro σ H8 ⟨s9,ys,ls,fs,b1,b2,b3,b4,b5,b6,b7,b8,b9,u,v,w,x',y',rfl⟩
  unfold mY;walk_at "wp";refine⟨short (by simp),fun p hp=>?_⟩;rw[hr];exact q _ p nd lk ys (s0.trans (s9.trans (aA hp))) ax (s0.free F.fnd) (aA hp _ _ b1) b4 (by simp at b5;omega) (b9.same (aA hp))
theorem rm(g1:G.fn "_law_draw" 2=some (gN,[]))(g2:G.fn "_law_otherwise" 2=some (jD K,[])){E:XS}{Q:VK}{H0 H:Hp}{D:Ends}{a:Addr}{ns:List Int}{n:Nat}{sd:Int}(s0:aG H0 H)(ha:SqL K H a (ns.map V.int))(hns:ns.length<=14)(hn:n<=8)(hr:D.rt=Q)
  (q:∀(H':Hp)(p nd lk:Addr)(ys:List V),aG H0 H'->H' p=some (.tup [.ref nd,.ref lk])->H0 nd=none->H' nd=some (.lst ys)->ys≠[]->ys.length<=15->Nds H' n ys->Q (.ref p) H'):
  wpB G K E jV D [some (.ref a),some (.int n),some (.int sd),none,none,none,none,none,none,none,none] H:=by
 unfold jV;walk_at "wp";refine d8 ?_;walk_at "wp";refine⟨(n:Int),rfl,by omega,by omega,?_⟩;refine dZ du (short (by omega)) (fun _ _=>trivial) (fun i v _=>bj v=true) (fun _ _ _ _ _ h=>h) (fun τ=>∃t,τ=[t,some (.int sd)]) ⟨none,rfl⟩ ?_ ?_
 ·rintro j y τ H3 R hj ⟨t',rfl⟩ s5 rfl k
  walk_at "wp"
  rw[E7];walk_at "wp";simp only[dD,Int.one_mul,aR];exact⟨⟨by omega,by omega,by decide⟩,pow2 (by omega),by decide,k _ _ _ ⟨_,rfl⟩ (aG.refl _) (mod2 _)⟩
 intro vs H3 l hvl hF s3 hl3;have hvr:∀z∈vs,bj z=true:=fun z hz=>by
  obtain⟨k,hk⟩:=bH.mp hz;exact hF k z hk
 have hvl':vs.length=n:=by rw[hvl];omega
 refine⟨l,vs,rfl,.inl ⟨SqL.of ax,fun r0 hr0=>⟨short (by simp),fun nd hnd=>?_⟩⟩⟩;have s4:aG H (upd (upd H3 l (.lst vs)) r0 (.tup vs)):=s3.trans ((aA hl3).trans (aA hr0));have er0:upd (upd H3 l (.lst vs)) r0 (.tup vs) r0=some (.tup vs):=ax;generalize upd (upd H3 l (.lst vs)) r0 (.tup vs)=H4 at s4 er0 hnd⊢;have s5:aG H4 (upd H4 nd (.lst [.ref r0])):=aA hnd;have end5:upd H4 nd (.lst [.ref r0]) nd=some (.lst [.ref r0]):=ax;have fnd:H nd=none:=s4.free hnd;generalize upd H4 nd (.lst [.ref r0])=H5 at s5 end5⊢;unfold m4;walk_at "wp";refine⟨short (by simp),fun lk hlk=>?_⟩;have s6:aG H5 (upd H5 lk (.lst [])):=aA hlk;have elk:upd H5 lk (.lst []) lk=some (.lst []):=ax;have n1:nd≠lk:=fun z=>by rw[<-z,end5]at hlk;cases hlk
 have flk:H lk=none:=(s4.trans s5).free hlk;generalize upd H5 lk (.lst [])=H6 at s6 elk⊢;unfold mZ;walk_at "wp";refine⟨_,rfl,n,rfl,by omega,fun fr hfr=>?_⟩;have s7:aG H6 (upd H6 fr (.lst (nats n))):=aA hfr;have end6:=s6 _ _ end5;have enats:nats n=((az n).map fun i:Nat=>(i:Int)).map V.int:=by unfold nats;rw[dB];rfl
 have nd0:((az n).map fun i:Nat=>(i:Int)).Nodup:=by
  rw[List.nodup_iff_pairwise_ne,kX];exact(List.nodup_range (n:=n)).imp fun h e=>h (Int.ofNat.inj e)
 refine zU g1 g2 ⟨fnd,flk,(s4.trans (s5.trans s6)).free hfr,n1,(fun z=>by rw[<-z,end6]at hfr;cases hfr),(fun z=>by rw[<-z,elk]at hfr;cases hfr)⟩ s0 ha hns hn hr q
  ⟨s4.trans (s5.trans (s6.trans s7)),[.ref r0],[],_,s7 _ _ end6,s7 _ _ elk,by rw[ax,enats],by simp,by simp,by simp,nd0,by simp,fun y hy=>?_,_,_,_,_,_,rfl⟩
 rw[aO]at hy;subst hy;exact⟨r0,vs,rfl,s7 _ _ (s6 _ _ (s5 _ _ er0)),hvl',hvr⟩
theorem EA(g1:G.fn "_law_draw" 2=some (gN,[]))(g2:G.fn "_law_otherwise" 2=some (jD K,[])):
  Sat G K (qO K) qp qb:=by
 rintro vs H Q E ⟨a,ns,n,rfl,ha,hns,hn,q⟩;unfold qp m5;change wpB G K _ _ _ [some (.ref a),some (.int n),none,none,none,none,none,none,none,none,none] H;walk_at "wp";refine⟨short (by simp),fun p0 hp0=>?_⟩;generalize hX:upd H p0 _=H1;obtain⟨s0,e0⟩:=jf hX hp0;clear hX;obtain⟨d,d',r1,r2,r3,r4⟩:=jE (K:=K) (s0.seq ha) e0;refine⟨d,d',r1,r2,r3,_,rfl,?_⟩;rw[r4];by_cases hf:ns=[]
 ·rw[decide_eq_true hf]
  exact rm g1 g2 s0 (s0.seq ha) hns hn rfl q
 ·rw[decide_eq_false hf]
  show if true=true then _ else _
  rw[if_pos rfl];have hnl:0<ns.length:=cX.mpr hf;have hc:(ns.map V.int)[0]? =some (.int (ns.getD 0 0)):=by
   rw[aF,ag hnl,aj,ag hnl];rfl
  refine⟨_,_,g1,.inl ⟨a,_,0,_,rfl,rfl,s0.seq ha,cH (j:=0) hc,_,20,rfl,by decide,by decide,?_⟩⟩;exact rm g1 g2 s0 (s0.seq ha) hns hn rfl q
end
noncomputable def vW(K:ae):Sp:=fun vs H Q _=>∃(a nd:Addr)(ns:List Int)(ys:List V),vs=[.ref a,.ref nd]/\SqL K H a (ns.map V.int)/\SqL K H nd ys/\ns.length<=14/\ys≠[]/\
 ∀(H':Hp)(l:Addr)(hs:List Int),aG H H'->H l=none->H' l=some (.lst (hs.map V.int))->hs.length=ns.length->(∀h∈hs,0<=h/\h<ys.length)->Q (.ref l) H'
section
variable {G:Gam}{K:ae}
theorem wp_held(g1:G.fn "_law_draw" 2=some (gN,[])):
  Sat G K (vW K) sX rZ:=by
 rintro vs H Q E ⟨a,nd,ns,ys,rfl,ha,hnd,hns,hy0,q⟩;unfold sX oP;change wpB G K _ _ _ [some (.ref a),some (.ref nd),none,none,none] H;walk_at "wp";have hyl:0<ys.length:=cX.mpr hy0;refine⟨short (by simp),fun l hl=>?_⟩;have s1:aG H (upd H l (.lst [])):=aA hl;refine hJ ?_;walk_at "wp";refine Or.inl ⟨a,_,rfl,.inl (s1.seq ha),_,rfl,by rw[ao];omega,by rw[ao];omega,?_⟩;refine gu du (fun k σ H'=>aG H H'/\∃hs:List Int,H' l=some (.lst (hs.map V.int))/\hs.length=k/\(∀h∈hs,0<=h/\h<ys.length)/\∃u v,σ=[some (.ref a),some (.ref nd),some (.ref l),u,v])
  ⟨s1,[],ax,rfl,by simp,none,none,rfl⟩ (fun _ _ _ _ _=>trivial) ?_ ?_
 ·rintro k x σ H1 H2 D2 hk ⟨s2,hs,e1,e2,e3,u,v,rfl⟩ rfl s3 hD _
  have hk':k<ns.length:=by simpa using hk
  have s4:=s2.trans s3;have e1:=s3 _ _ e1;walk_at "wp";simp only[dD];refine⟨_,_,g1,.inl ⟨a,_,k,_,rfl,rfl,s4.seq ha,cH (sF hk'),?_⟩⟩;walk_at "wp";refine⟨_,_,rfl,by omega,by omega,?_⟩;have hd0:=w8 (ns.getD k 0) (60+(k:Int));generalize draw (ns.getD k 0) (60+(k:Int))=d0 at hd0⊢;unfold l6;walk_at "wp";refine⟨by decide,?_⟩;have fin:∀(H5:Hp)(w:Int),aG H2 H5->wu (.ref l) [.int (w%(ys.length:Int))] H5 fun _ H'=>D2.nx [some (.ref a),some (.ref nd),some (.ref l),some (V.int k),some (V.int d0)] H':=by
   intro H5 w s5;refine⟨l,hs.map V.int,_,rfl,rfl,s5 _ _ e1,cy (by rw[ao];omega:(hs.map V.int).length<=40) (by decide),hD _ _ ⟨fm (s4.trans s5) hl,hs++[w%(ys.length:Int)],by rw[ax,de];rfl,by simp[e2],fun h hh=>?_,_,_,rfl⟩⟩;rcases dW.mp hh with hh|hh
   ·exact e3 h hh
   ·rw[aO]at hh
    subst hh;exact⟨bw _ (by omega),bL _ (by omega)⟩
  by_cases h5:(0:Int)<d0%5
  ·rw[decide_eq_true h5,if_pos rfl,if_pos trivial]
   refine⟨.inl ⟨rfl,_,SqL.of e1⟩,Or.inl ⟨nd,ys,rfl,.inl (s4.seq hnd),?_⟩⟩;walk_at "wp";exact⟨by omega,fin H2 _ (aG.refl _)⟩
  ·rw[decide_eq_false h5,if_neg aq]
   refine⟨short (by simp),fun p0 hp0=>?_⟩;generalize hX:upd H2 p0 _=H3;obtain⟨s5,e0⟩:=jf hX hp0;clear hX;obtain⟨d,d',r1,r2,r3,r4⟩:=jE (K:=K) (SqL.of (s5 _ _ e1)) e0;refine⟨d,d',r1,r2,r3,_,rfl,?_⟩;rw[r4];by_cases hf:hs=[]
   ·rw[decide_eq_true hf,if_pos rfl]
    refine⟨.inl ⟨rfl,_,SqL.of (s5 _ _ e1)⟩,Or.inl ⟨nd,ys,rfl,.inl ((s4.trans s5).seq hnd),?_⟩⟩;walk_at "wp";exact⟨by omega,fin H3 _ s5⟩
   ·rw[decide_eq_false hf,if_neg aq]
    refine⟨.inl ⟨rfl,_,SqL.of (s5 _ _ e1)⟩,⟨by decide,by decide⟩,Or.inl ⟨nd,ys,rfl,.inl ((s4.trans s5).seq hnd),?_⟩⟩;walk_at "wp";exact⟨by omega,fin H3 _ s5⟩
 ·rintro σ H1 ⟨s2,hs,e1,e2,e3,u,v,rfl⟩
  unfold oO;walk_at "wp";exact q H1 l hs s2 hl e1 (by simp at e2;omega) e3
end
end K22
namespace Lm
open PySem PySem.Spec PySem.W PyProof.Rows L2 Q
noncomputable abbrev Kp(h h':Heap):Prop:=∀b o,h.get? b=some o->h'.get? b=some o
section
variable {prog:Program}{w:World}{A:Around}{E:Value->Shared->Prop}{s:Shared}
theorem Hw{Q:Value->Shared->Prop}{qual x:Str}{params:Arguments}{scope:Scope}{pm ctv k:Value}{c' f b:Addr}{p1 p2 p3:Pos}{j:Nat}{its:Array Value}
  (hf:s.heap.get? f=some (kla_obj "<lambda>" qual params (.Subscript (.Name x p1) (.Constant (.int 0) j p2) p3) scope [] pm c' ctv))(hc:s.heap.CodeRec (.ref c') qual)(hroom:A.depth<iX)(hnl:s.heap.NoLimit)
  (hb:∀v,nK (kla_fn "<lambda>" qual params (.Subscript (.Name x p1) (.Constant (.int 0) j p2) p3) scope [] pm (.ref c') ctv) ⟨[v],[]⟩=pure [(x,v)])
  (hx:scope.names.lookup x=some .local)(hd:(x==("__debug__":Str))=false)(hk:scope.kind=.function)(hcell:∀y∈scope.names,y.2≠.cell)(hco:scope.isCoroutine=false)(hgen:scope.isGenerator=false)
  (ht:IsTup s.heap b its)(h0:its[0]? =some k)(h:∀h' t',Kp s.heap h'->Q k {s with heap:=h',toks:=t'}):wpAny (model prog w) A (call (.ref f) [.ref b]) Q E s:=by
 refine gG (kla_callFunE hroom hf rfl hco hgen rfl hc ?_);rw[hb];refine ai (wpAny_newFunctionEnv hcell (fun y hy=>?_) (fun h₁ hns hsb=>⟨hnl.fresh _ hsb,?_⟩) hk)
 ·have e:y=(x,.ref b):=by simpa using hy
  rw[e];exact hx
 have hk₁:Kp s.heap h₁:=fun b o e=>hsb.extBut b o (aD (av e)) (af _ e);refine kla_codeExpr (Subscript_ (Ec (wpAny_loadName_local hk hx hns (v:=.ref b) (by simp) ?_) hd));refine wpAny_Constant_int ?_;have ht':IsTup h₁ b its:=by
  obtain⟨o,e,c⟩:=ht;exact⟨o,hk₁ _ _ e,c⟩
 have hsz:0<its.size:=by
  rcases Nat.eq_zero_or_pos its.size with z|z
  ·rw[Array.getElem?_eq_none (by omega)]at h0;cases h0
  ·exact z
 exact o4 (x:=k) ht'.typeIs slot_tuple_getitem.lookup
  (getItem_tuple (j:=0) (Q:=fun r s'=>r=k/\_) ht' (by decide) (by decide) (by rw[qK (by decide) (by omega)];rfl) h0 ⟨rfl,h _ _ hk₁⟩) rfl
noncomputable def Keys(prog:Program)(w:World)(A:Around)(f:Value)(vs:List Value)(ks:List Str)(h0:Heap):Prop:=
 ∀(i:Nat)(v:Value)(k:Str),vs[i]? =some v->ks[i]? =some k->∀(s1:Shared)(E:Value->Shared->Prop)(Q':Value->Shared->Prop),Kp h0 s1.heap->
  (∀t h' t',Kp s1.heap h'->Q' (.str k t) {s1 with heap:=h',toks:=t'})->wpAny (model prog w) A (call f [v]) Q' E s1
theorem strs_snoc{k:Str}{t:Tok}:∀{vs:List Value}{ks:List Str},xK vs ks->xK (vs++[.str k t]) (ks++[k])
 |_,_,.nil=>.cons k t .nil
 |_,_,.cons y u h=>.cons y u (strs_snoc h)
theorem Bl{a kS:Addr}{kv out:List Value}{e e1:Nat}{st:SortSt}{P:dI->Shared->Prop}(hout:(arrOf st).map (·.2)=dN out)(hz:out.length<64)(hkz:kv.length<64)(hf:failedOf st=none)
  (hk:s.heap.get? kS=some (seqObj "list" kv.toArray e))(ha:s.heap.get? a=some (seqObj "list" #[] e1))(hne:kS≠a)
  (h:∀h' c,(∀b o,b≠a->b≠kS->s.heap.get? b=some o->h'.get? b=some o)->h'.get? a=some (seqObj "list" out.toArray c)->P (.done (.ret .none)) {s with heap:=h'}):
  wpAny (model prog w) A (ksk_tail a false e1 (.ref kS) st) P E s:=by
 have s1:=bN s.heap kS (aT fun _=>(#[]:Array Value));have ha1:(s.heap.update kS (aT fun _=>(#[]:Array Value))).get? a=some (seqObj "list" #[] e1):=(s1.2 a (bz hne)).trans ha;have s2:=bN (s.heap.update kS (aT fun _=>(#[]:Array Value))) a (aT fun _=>dN out);obtain⟨c2,hc2⟩:∃c2,((s.heap.update kS (aT fun _=>(#[]:Array Value))).update a (aT fun _=>dN out)).get? a=some (seqObj "list" (dN out) c2):=⟨_,o8 ha1 fun _=>dN out⟩;unfold ksk_tail;try dsimp only
 rw[hout];refine aa (fo hk rfl ?_ (by rw[ay];exact eY hkz) (bA _));refine aa (fT ?_);refine aa (qL ha1 rfl ?_);refine aa (fo ha1 rfl ?_ (bA _) (by simpa using Bo hz));rw[hf];simp only[bne_self_eq_false,aI,if_false];exact ai (h _ c2 (fun b o h1 h2 q=>(s2.2 b h1).trans ((s1.2 b h2).trans q)) hc2)
theorem end_ok{a kS:Addr}{kv vs:List Value}{ks:List Str}{e e1:Nat}{P:dI->Shared->Prop}(nd:ks.Nodup)(r:xK kv ks)(hl:ks.length=vs.length)(h64:vs.length<64)
  (hk:s.heap.get? kS=some (seqObj "list" kv.toArray e))(ha:s.heap.get? a=some (seqObj "list" #[] e1))(hne:kS≠a)
  (h:∀h' c,(∀b o,b≠a->b≠kS->s.heap.get? b=some o->h'.get? b=some o)->h'.get? a=some (seqObj "list" (fP (lN ks) vs).toArray c)->P (.done (.ret .none)) {s with heap:=h'}):
  wpAny (model prog w) A (ksk_end a false vs.toArray e1 (.ref kS) (dN kv)) P E s:=by
 have hv:vs.toArray.size=vs.length:=by simp
 have hkl:=rD r;have hlen:kv.length=vs.length:=hkl.trans hl;unfold ksk_end;simp only[aI,if_false];by_cases hn:vs.length<2
 ·have eo:fP (lN ks) vs=vs:=if_pos hn
  rw[eo]at h;rw[if_pos (by rw[hv];exact hn),if_pos (by rw[hv];exact hn)];refine aa (ai (aa ?_));rw[StateT.run_pure];refine ai (Bl (out:=vs) ?_ h64 (by omega) rfl hk ha hne h);show(kv.toArray.zip vs.toArray).map (·.2)=vs.toArray;apply xT;simp[List.map_snd_zip,hlen]
 ·have h2:2<=vs.length:=by omega
  have eo:fP (lN ks) vs=(run (lN ks) (dz vs.length)).toList.map fun i=>vs.getD i .none:=if_neg hn;rw[eo]at h;rw[if_neg (by rw[hv];exact hn),if_neg (by rw[hv];exact hn)];obtain⟨κ,hk1,hk2⟩:=D6 (prog:=prog) (w:=w) (A:=A) (h0:=s.heap) r (by omega) s (fun _ _ q=>q);have T:Tot (lN ks) vs.length:=by rw[<-hl];exact rq nd
  obtain⟨P1,U1,O1⟩:=fO T (by omega:1<=vs.length);refine aa (hk1 _ _ (aa ?_));have key:=kat_run (prog:=prog) (w:=w) (A:=A) (E:=E) (κ:=κ) (ks:=kv) (vs:=vs) (s:=s)
   (Q:=fun st' s'=>s'=s/\arrOf st'=(run (lN ks) (dz vs.length)).map (kas_item (kv.toArray.zip vs.toArray))/\failedOf st'=none)
   (G:=fun p s'=>s'=s/\p=run (lN ks) (dz vs.length)) hlen h2 h64
   (fun p st' s' _ e1 e2 e3=>⟨e3.1,by rw[e1,e3.2],e2⟩)
   (wp_run (S:=fun s'=>s'=s) (fun i j C s' hi hj hij hs hC=>by
    subst hs;exact hk2 i j C (by omega) (by omega) hij (hC _ rfl)) _ _ O1 rfl fun s' hs=>⟨hs,rfl⟩)
  refine cL key ?_ fun _ _ z=>z;rintro⟨⟨⟩,st'⟩ s' ⟨rfl,har,hf⟩;exact Bl (kat_snds hlen har) (by rw[ao,bX,P1.size];exact h64) (by omega) hf hk ha hne h
theorem E6{a:Addr}{n:Nat}{h0:Heap}{f:Value}{vs:List Value}{ks:List Str}{P:dI->Shared->Prop}(nd:ks.Nodup)(hl:ks.length=vs.length)(ho:s.heap.get? a=some (seqObj "list" vs.toArray n))
  (k0:∀b o,h0.get? b=some o->s.heap.get? b=some o/\b≠a)(h64:vs.length<64)(ky:Keys prog w A f vs ks h0)
  (h:∀h' t' c,(∀b o,b≠a->s.heap.get? b=some o->h'.get? b=some o)->h'.get? a=some (seqObj "list" (fP (lN ks) vs).toArray c)->P (.done (.ret .none)) {s with heap:=h',toks:=t'}):
  wpAny (model prog w) A (ksk_tree a f false) P E s:=by
 have hv:vs.toArray.size=vs.length:=by simp
 have ha0:a<s.heap.objs.size:=av ho;have s1:=bN s.heap a (aT fun _=>(#[]:Array Value));obtain⟨e1,ho1⟩:∃e1,(s.heap.update a (aT fun _=>(#[]:Array Value))).get? a=some (seqObj "list" #[] e1):=⟨_,o8 ho fun _=> #[]⟩;unfold ksk_tree;refine aa (listItems_at ho rfl ?_);refine aa (fo ho rfl ?_ (by rw[hv];exact eY h64) (bA _));refine aa (qL ho1 rfl ?_);refine aa (wpAny_newTuple ?_ (show vs.length<=_ from eY h64));refine aa (mG ?_ (bA _));refine bh ?_;have ha1:((s.heap.update a (aT fun _=>(#[]:Array Value))).push (seqObj "tuple" vs.toArray 0)).get? a=some (seqObj "list" #[] e1):=af _ ho1;have kp1:∀b o,b≠a->s.heap.get? b=some o->((s.heap.update a (aT fun _=>(#[]:Array Value))).push (seqObj "tuple" vs.toArray 0)).get? b=some o:=fun b o hb q=>af _ ((s1.2 b hb).trans q);have hsz:s.heap.objs.size<((s.heap.update a (aT fun _=>(#[]:Array Value))).push (seqObj "tuple" vs.toArray 0)).objs.size:=by rw[Ee,lD];omega
 show wpAny _ _ (ksk_rest a f false vs.toArray e1 (.ref ((s.heap.update a (aT fun _=>(#[]:Array Value))).push (seqObj "tuple" vs.toArray 0)).objs.size)) _ _
  {s with heap:=((s.heap.update a (aT fun _=>(#[]:Array Value))).push (seqObj "tuple" vs.toArray 0)).push (seqObj "list" #[] 0)}
 generalize(s.heap.update a (aT fun _=>(#[]:Array Value))).push (seqObj "tuple" vs.toArray 0)=h1 at ha1 kp1 hsz⊢;have hne:h1.objs.size≠a:=cV (fJ ha0 hsz);unfold ksk_rest;refine aa (fV ?_)
 first
  |rw[List.forIn_toArray]
  | (rw[<-Ic];simp only[pd])
  |rw[<-Ic]
 refine aa (ksk_fold (fun i s'=>∃h2 t2 kv e,s'={s with heap:=h2,toks:=t2}/\xK kv (ks.take i)/\h2.get? h1.objs.size=some (seqObj "list" (dN kv) e)/\h2.get? a=some (seqObj "list" #[] e1)/\∀b o,b≠a->s.heap.get? b=some o->h2.get? b=some o)
  vs 0 _ ⟨_,s.toks,[],0,rfl,by rw[List.take_zero];exact .nil,au _ rfl,af _ ha1,fun b o hb q=>af _ (kp1 b o hb q)⟩ ?_ ?_)
 ·rintro j x s' hx ⟨h2,t2,kv,e,rfl,r,hk,ha,kp⟩
  rw[tN]at r;have hj:j<vs.length:=(aM.mp hx).1;have hkj:ks[j]? =some (ks[j]'(by omega)):=ag (by omega);have hkv:kv.length=j:=by rw[rD r,dk];omega
  refine aa (hZ (ky j x _ hx hkj _ _ _ (fun b o q=>kp b o (k0 b o q).2 (k0 b o q).1) fun t h3 t3 k3=>?_));have s3:=bN h3 h1.objs.size (aT (·.push (gU (ks[j]'(by omega)) t)));have ea:(dN kv).push (gU (ks[j]'(by omega)) t)=dN (kv++[gU (ks[j]'(by omega)) t]):=by simp
  obtain⟨c2,hc2⟩:∃c2,(h3.update h1.objs.size (aT (·.push (gU (ks[j]'(by omega)) t)))).get? h1.objs.size=some (seqObj "list" (dN (kv++[gU (ks[j]'(by omega)) t])) c2):=⟨_,by rw[<-ea];exact o8 (k3 _ _ hk) (·.push _)⟩;try dsimp only
  refine aa (fo (k3 _ _ hk) rfl ?_ (by rw[ay];exact eY (by omega)) (aX (Em (Array.size_push ..)) (by rw[ay];exact Bo (by omega))));refine ai ⟨rfl,_,t3,kv++[gU (ks[j]'(by omega)) t],c2,rfl,?_,hc2,(s3.2 a (bz hne)).trans (k3 _ _ ha),fun b o hb q=>(s3.2 b (aD (fJ (av q) hsz))).trans (k3 _ _ (kp b o hb q))⟩;rw[tN,dU,hkj];exact strs_snoc r
 ·rintro s' ⟨h2,t2,kv,e,rfl,r,hk,ha,kp⟩
  rw[tN,fE (by omega)]at r;try dsimp only
  refine aa (listItems_at hk rfl ?_);exact end_ok nd r hl h64 hk ha hne fun h' c k q=>h h' t2 c (fun b o hb z=>k b o hb (aD (fJ (av z) hsz)) (kp b o hb z)) q
theorem Ad{l q:Addr}{vs:List Value}{ks:List Str}{Q:Value->Shared->Prop}(nd:ks.Nodup)(hlk:ks.length=vs.length)(hl:s.heap.IsList l vs.toArray)(h64:vs.length<64)(ky:Keys prog w A.in1.in1 (.ref q) vs ks s.heap)
  (h:∀h' t' c,Kp s.heap h'->h'.get? (s.heap.objs.size+1)=some (seqObj "list" (fP (lN ks) vs).toArray c)->Q (.ref (s.heap.objs.size+1)) {s with heap:=h',toks:=t'}):
  wpAny (model prog w) A (call (.builtin "sorted") [.ref l] [(aQ "key",.ref q)]) Q E s:=by
 refine call_function_entry_kw kind_sorted plain_sorted entry_sorted (ksk_s1 _ _) ?_;unfold Builtin.«sorted»;refine aa (m:=checkCount "sorted" 1 1 _) (ai ?_);refine aa (collect_list hl ?_ (by simpa using eY h64));refine aa (mG ?_ (show vs.length<=_ from eY h64));have hz:((s.heap.push (seqObj "list" #[] 0)).update s.heap.objs.size (aT (·++vs.toArray))).objs.size=s.heap.objs.size+1:=by rw[lD,Ee]
 have kp:Kp s.heap ((s.heap.push (seqObj "list" #[] 0)).update s.heap.objs.size (aT (·++vs.toArray))):=fun b o e=>by
  have hb:=av e;rw[aB _ _ (cV hb)];exact af _ e
 have hg:(((s.heap.push (seqObj "list" #[] 0)).update s.heap.objs.size (aT (·++vs.toArray))).push (seqObj "list" vs.toArray 0)).get? (s.heap.objs.size+1)=some (seqObj "list" vs.toArray 0):=by
  rw[<-hz];exact au _ rfl
 show wpAny _ _ _ _ _ {s with heap:=((s.heap.push (seqObj "list" #[] 0)).update s.heap.objs.size (aT (·++vs.toArray))).push (seqObj "list" vs.toArray 0)};rw[hz];have kp2:Kp s.heap (((s.heap.push (seqObj "list" #[] 0)).update s.heap.objs.size (aT (·++vs.toArray))).push (seqObj "list" vs.toArray 0)):=fun b o e=>af _ (kp b o e);generalize((s.heap.push (seqObj "list" #[] 0)).update s.heap.objs.size (aT (·++vs.toArray))).push (seqObj "list" vs.toArray 0)=h1 at hg kp2⊢;refine aa (bh (wpAny_call_entry_kw Ed ⟨_,hg,rfl⟩ Bi ?_ (ksk_l1 _ _)));show wpAny (model prog w) A.in1.in1 (Builtin.«list.sort» ⟨[.ref (s.heap.objs.size+1)],[(aQ "key",.ref q)]⟩) _ _ _;rw[ksk_t1];exact E6 (s:={s with heap:=h1}) nd hlk hg (fun b o e=>⟨kp2 b o e,aD (bo (av e))⟩) h64 ky fun h' t' c k z=>⟨_,rfl,ai ⟨_,rfl,h h' t' c (fun b o e=>k b o (aD (bo (av e))) (kp2 b o e)) z⟩⟩
end
structure Tb where
 P:Addr
 pos:Pos
 q:Str
noncomputable def Tab(T:Tb)(H:Hp):Prop:=H T.P=some (.tbl #[])\/∃c' oc u vs t,H T.P=some (.tbl #[rawInt T.pos.line,rawInt T.pos.col,.ref c'])/\H c'=some (.frz oc u)/\oc.data=.fields vs/\vs[1]? =some (.str T.q t)
structure Gr(T:Tb)(H H':Hp):Prop where
 keep:∀b o,b≠T.P->H b=some o->H' b=some o
 tab:Tab T H->Tab T H'
theorem Gr.refl(T:Tb)(H:Hp):Gr T H H:=⟨fun _ _ _ e=>e,fun t=>t⟩
theorem Gr.trans{T:Tb}{H H1 H2:Hp}(a:Gr T H H1)(b:Gr T H1 H2):Gr T H H2:=⟨fun c o n e=>b.keep c o n (a.keep c o n e),fun t=>b.tab (a.tab t)⟩
theorem Gr.of{T:Tb}{H H':Hp}(e:aG H H'):Gr T H H':=
 ⟨fun b o _ q=>e b o q,fun t=>by
  rcases t with t|⟨c',oc,u,vs,tk,h1,h2,h3,h4⟩
  ·exact .inl (e _ _ t)
  ·exact .inr ⟨c',oc,u,vs,tk,e _ _ h1,e _ _ h2,h3,h4⟩⟩
theorem Tab.ne{T:Tb}{H:Hp}(t:Tab T H){b:Addr}{o:HO}(e:H b=some o)(n:∀ps,o≠.tbl ps):b≠T.P:=by
 intro z;subst z;rcases t with t|⟨c',oc,u,vs,tk,h1,h2,h3,h4⟩
 ·rw[t]at e;exact n _ (aY e).symm
 ·rw[h1]at e;exact n _ (aY e).symm
section
variable {K:ae}{T:Tb}{H H':Hp}{a:Addr}{xs:List V}
theorem Gr.at(g:Gr T H H')(t:Tab T H){o:HO}(e:H a=some o)(n:∀ps,o≠.tbl ps):H' a=some o:=g.keep a o (t.ne e n) e
theorem Gr.lst(g:Gr T H H')(t:Tab T H)(e:H a=some (.lst xs)):H' a=some (.lst xs):=g.at t e fun _ z=>by cases z
theorem Gr.nU(g:Gr T H H')(t:Tab T H)(e:H a=some (.tup xs)):H' a=some (.tup xs):=g.at t e fun _ z=>by cases z
theorem Gr.frz(g:Gr T H H')(t:Tab T H){o:Obj}{u:HO}(e:H a=some (.frz o u)):H' a=some (.frz o u):=g.at t e fun _ z=>by cases z
theorem Gr.seq(g:Gr T H H')(t:Tab T H)(h:SqL K H a xs):SqL K H' a xs:=by
 rcases h with(h|⟨o,h⟩) |h
 ·exact .inl (.inl (g.lst t h))
 ·exact .inl (.inr ⟨o,g.frz t h⟩)
 ·exact .inr h
end
theorem un_tab{P:Program}{w:World}{fs:List Addr}{H:Hp}{h h':Heap}{p c':Addr}{oc:Obj}{ps more:Array Value}(hok:HOk P w H h)(hx:∀b o,b≠p->h.get? b=some o->h'.get? b=some o)(hP:H p=some (.tbl ps))(hge:h.objs.size<=c')
  (hp':h'.get? p=some (tabObj (ps++more)))(hc:h'.get? c'=some oc):
  Un fs [] H (upd (upd H c' (.frz oc (.ext fun _=>True))) p (.tbl (ps++more))) h h'/\HOk P w (upd (upd H c' (.frz oc (.ext fun _=>True))) p (.tbl (ps++more))) h':=by
 have hn:H c'=none:=hok.fresh hge;have ne:c'≠p:=bz (bx hP hn);have out:∀{b:Addr}{o:HO},H b=some o->b≠p->upd (upd H c' (.frz oc (.ext fun _=>True))) p (.tbl (ps++more)) b=some o:=fun{b o} e n=>by
  rw[aL n,aL (bx e hn)];exact e
 have nt:∀{b:Addr}{o:HO},H b=some o->(∀vs,o≠.tbl vs)->b≠p:=fun{b o} e n z=>by
  subst z;rw[hP]at e;exact n _ (aY e).symm
 refine⟨⟨fun b o e n _ _=>hx b o (fun z=>by rw[z,hP]at n;cases n) e,fun b o e n _ _=>⟨o.slots,hx b o (fun z=>by rw[z,hP]at n;cases n) e⟩,fun b o e n _=>?_,fun b o e _=>?_,fun b xs e=>out e (nt e fun _ z=>by cases z),
  fun b o u e=>out e (nt e fun _ z=>by cases z),fun b vs e=>?_⟩,fun b o e=>?_⟩
 ·have hb:b≠p:=fun z=>by rw[z,hP]at n;cases n
  rw[aL hb,aL (aD (aW (av e) hge))];exact n
 ·by_cases hb:b=p
  ·exact⟨_,by rw[hb];exact hp'⟩
  ·exact⟨o,hx b o hb e⟩
 ·by_cases hb:b=p
  ·subst hb
   rw[hP]at e;cases e;exact⟨more,ax⟩
  ·exact⟨#[],by rw[out e hb];simp⟩
 ·by_cases hb:b=p
  ·subst hb
   rw[ax]at e;cases e;exact hp'
  ·rw[aL hb]at e
   by_cases hc2:b=c'
   ·subst hc2
    rw[ax]at e;cases e;exact⟨hc,trivial,⟨_,hc⟩,fun _ _ _ _=>trivial⟩
   ·rw[aL hc2]at e
    refine(hok b o e).pv (fun d v hd q=>hx d v ?_ q) (fun d q=>out q (nt q fun _ z=>by cases z)) fun d xs q=>out q (nt q fun _ z=>by cases z);rcases hd with z|z
    ·rw[z];exact hb
    ·exact nt z fun _ y=>by cases y
noncomputable def BM(mg:Str->Option Value)(h:Heap):Prop:=∃bm ob,mg "__builtins__"=some (.ref bm)/\bm≠lA/\bm≠bg/\h.get? bm=some ob/\ob.cls=.type "module"/\ob.dict=some lA/\ob.data=.plain
noncomputable def rSortK(K:ae)(T:Tb):List V->Hp->VK->Prop:=fun xs H Q=>∃a ys ks,xs=[V.ref a]/\SqL K H a ys/\ks.length<64/\ks.Nodup/\mq H ys ks/\Tab T H/\
 ∀H2 l,Gr T H H2->H2 l=none->Q (.ref l) (upd H2 l (.lst (sortBy .non ks ys)))
noncomputable def rA(K:ae)(T:Tb)(te:TE):TE:=fun σ H Q=>kh te qE σ H fun xs H1=>rSortK K T xs H1 Q
structure HJ(env:Env)(params:Arguments)(x:Str)(body:Expr)(scope:Scope):Prop where
 cl:Ei scope env=pure []
 df:defaultsOf params env=([],[])
 bd:∀(qual:Str)(pm ctv v:Value)(c':Addr),nK (kla_fn "<lambda>" qual params body scope [] pm (.ref c') ctv) ⟨[v],[]⟩=pure [(x,v)]
 lk:scope.names.lookup x=some .local
 dbg:(x==("__debug__":Str))=false
 kd:scope.kind=.function
 nc:∀y∈scope.names,y.2≠.cell
 co:scope.isCoroutine=false
 gn:scope.isGenerator=false
section
variable {X:Cx}{e:Expr}{te:TE}{T:Tb}{c:Addr}{p kp pos p1 p2 p3:Pos}{x:Str}{j:Nat}{params:Arguments}{scope:Scope}
theorem qT{prog:Program}{w:World}{A:Around}{H:Hp}{s:Shared}{f c':Addr}{qual:Str}{pm ctv:Value}(O:HJ X.env params x (.Subscript (.Name x p1) (.Constant (.int 0) j p2) p3) scope)(ok:HOk X.prog X.w H s.heap)
  (hf:s.heap.get? f=some (kla_obj "<lambda>" qual params (.Subscript (.Name x p1) (.Constant (.int 0) j p2) p3) scope [] pm c' ctv))(hc:s.heap.CodeRec (.ref c') qual)(hroom:A.depth<iX)(hnl:s.heap.NoLimit):
  ∀{ys:List V}{ks:List Str}{vs:List Value},mq H ys ks->bM ys vs->Keys prog w A (.ref f) vs ks s.heap
 |_,_,_,.nil,.nil=>fun i v k h1=>by simp at h1
 |_,_,_,.cons y t,.cons r q=>by
  intro i v k h1 h2 s1 E Q' kp hq;cases i with
  |zero=>
   obtain⟨a,rest,rfl,ea⟩:=y;cases r;have e1:v=bp a:=by simpa using h1.symm
   subst e1;obtain⟨_,its,rv,o,g1,g2,n,g3⟩:=ok a _ ea;cases rv with
   |cons r0 _=>
    obtain⟨tk,rfl⟩:=r0;obtain rfl:=aY h2;exact Hw (kp _ _ hf) (hc.keeps kp) hroom (hnl.keeps kp) (fun v=>O.bd _ _ _ v _) O.lk O.dbg O.kd O.nc O.co O.gn ⟨o,kp _ _ g1,g2,n,g3⟩ (by simp) fun h' t' k'=>hq tk h' t' k'
  |succ i=>exact qT O ok hf hc hroom hnl t q i v k (by simpa using h1) (by simpa using h2) s1 E Q' kp hq
theorem uI{pins:List (Addr×Obj)}{σ:L2.St}{H:Hp}{s:Shared}{Q:VK}{a f c':Addr}{ys:List V}{ks:List Str}{pm ctv:Value}(O:HJ X.env params x (.Subscript (.Name x p1) (.Constant (.int 0) j p2) p3) scope)(I:Inv X pins σ H s)
  (hf:s.heap.get? f=some (kla_obj "<lambda>" T.q params (.Subscript (.Name x p1) (.Constant (.int 0) j p2) p3) scope [] pm c' ctv))(hc:s.heap.CodeRec (.ref c') T.q)(hroom:X.A.depth<iX)
  (hq:SqL X.K H a ys)(h64:ks.length<64)(nd:ks.Nodup)(hk:mq H ys ks)(q:∀l,H l=none->Q (.ref l) (upd H l (.lst (sortBy .non ks ys)))):
  wpAny (model X.prog X.w) X.A (call (.builtin "sorted") [.ref a] [(aQ "key",.ref f)]) (EP X pins σ Q) X.xe s:=by
 obtain⟨its,r',pl,hz⟩:=I.list hq;have hl:ks.length=ys.length:=p5 hk;have hlen:=r'.length;have hv:ks.length=its.length:=by omega
 refine Ad nd hv pl.isList (by omega) (qT (A:=X.A.in1.in1) O I.hok hf hc hroom I.nolimit hk r') fun h' t' cc k hc'=>?_;have hz2:(sortBy V.non ks ys).length<=sizeLine:=by
  unfold sortBy;rw[ao,ord_len ks nd];omega
 exact⟨.ref (s.heap.objs.size+1),_,I.laid (t':=t') k (cZ _) (show dh X.prog X.w _ _ _ (.lst (sortBy .non ks ys))from⟨hz2,_,cc,F6 nd hl r',hc'⟩),rfl,q _ (I.hok.fresh (cZ _))⟩
theorem FO(he:PE X e te)(hs:aK [e] X.env=(false,eval e X.env)::aK [] X.env)(hg:Gl X "sorted")(hm:X.mg "sorted"=none)(hcode:X.env.code=.ref c)(hC:CodeHd X.base c T.P)(hq:X.env.qual++"<lambda>"=T.q)(hb:BM X.mg X.base)
  (O:HJ X.env params x (.Subscript (.Name x p1) (.Constant (.int 0) j p2) p3) scope)(hroom:X.A.depth<iX):
  PE X (.Call (.Name "sorted" p) [e] [⟨some (aQ "key"),.Lambda params (.Subscript (.Name x p1) (.Constant (.int 0) j p2) p3) scope T.pos,kp⟩] pos) (rA X.K T te):=by
 intro pins s σ H Q I h;refine eM (ji (u:=.builtin "sorted") I hg hm (by decide+kernel) ?_);refine callWith_kw (thn (fU he jd hs pos pins s σ H _ I h) fun us s1 ⟨vs,H1,I1,r,a,ys,ks,ev,sq,h64,nd,hk,tb,q⟩=>?_) (by rw[hs];rfl) (by rw[hs];rfl);subst ev;obtain⟨u,rfl,rx⟩:=vals1 r;cases rx;obtain⟨bm,ob,b1,b2,b0,b3,b4,b5,b6⟩:=hb;have hgs:s1.heap.Ns bg X.mg:=I1.mod.glob.keeps I1.bk;have hbP:bm≠T.P:=fun z=>by
  have n:=(I1.bs _ _ b3).2;rw[z]at n;rcases tb with t|⟨_,_,_,_,_,t,_⟩<;>(rw[t]at n;cases n)
 have hgP:bg≠T.P:=fun z=>by
  obtain⟨o,es,ep,g1,g2,_⟩:=I1.mod.glob;have n:=(I1.bs _ _ g1).2;rw[z]at n;rcases tb with t|⟨_,_,_,_,_,t,_⟩<;>(rw[t]at n;cases n)
 have hB:s1.heap.BuiltinsAt X.mg T.P:=⟨bm,ob,b1,b2,b0,hbP,I1.bk _ _ b3,b4,b5,b6⟩;refine kws_cons (kla_eval O.df ?_);rw[hq];rcases tb with t|⟨c',oc,u,vs,tk,t,hcT,hoc,hvs⟩
 ·refine kla_makeFunction (mg:=X.mg) O.cl I1.ok.glob hgs hcode (hC.keeps I1.bk) (ps:= #[]) (I1.hok _ _ t) True.intro rfl hgP hB fun c' ctv h' tk hx hge hlt hrec htb=>kws_nil ?_
  obtain⟨c2,oc,vs,t2,ec,hoc,hd,hv⟩:=hrec;cases ec;have hx':∀b o,b≠T.P->s1.heap.get? b=some o->(h'.push (kla_obj "<lambda>" T.q params (.Subscript (.Name x p1) (.Constant (.int 0) j p2) p3) scope [] ((X.mg "__name__").getD .none) c' ctv)).get? b=some o:=fun b o n e=>af _ (hx b o n e);obtain⟨un,ok⟩:=un_tab (fs:=frs X.stack) I1.hok hx' t hge (af _ htb) (af _ hoc);have I2:=I1.call (g':=s1.gens) (t':=tk) (d':=s1.drawn) un ok I1.bare (fun b z=>absurd z (by simp));have tb1:Tab T H1:=.inl t;have gr:Gr T H1 (upd (upd H1 c' (.frz oc (.ext fun _=>True))) T.P (.tbl (#[]++ #[rawInt T.pos.line,rawInt T.pos.col,bp c']))):=by
   have hn:H1 c'=none:=I1.hok.fresh hge;refine⟨fun b o n e=>by rw[aL n,aL (bx e hn)];exact e,fun _=>.inr ⟨c',oc,.ext fun _=>True,vs,t2,?_,?_,hd,hv⟩⟩
   ·rw[ax];simp
   ·rw[aL (bz (bx t hn)),ax]
  exact uI O I2 (au _ rfl) ⟨c',oc,vs,t2,rfl,af _ hoc,hd,hv⟩ hroom (gr.seq tb1 sq) h64 nd (Paired.Dy hk fun v k ⟨b,rest,e1,e2⟩=>⟨b,rest,e1,gr.nU tb1 e2⟩) (q _ · gr)
 ·refine kla_makeFunctionHit (mg:=X.mg) O.cl I1.ok.glob hgs hcode (hC.keeps I1.bk) (I1.hok _ _ t) (by simp[TriplesOk,rawInt]) (cv:=.ref c') (by simp[codeAmong,rawInt]) hB fun ctv h' tk hk' hsz=>kws_nil ?_
  have I2:=I1.call (H':=H1) (h':=h'.push (kla_obj "<lambda>" T.q params (.Subscript (.Name x p1) (.Constant (.int 0) j p2) p3) scope [] ((X.mg "__name__").getD .none) c' ctv)) (g':=s1.gens) (t':=tk) (d':=s1.drawn) (ch:=[])
   (Un.kept fun b o e=>af _ (hk' b o e)) (I1.hok.kept fun b o e=>af _ (hk' b o e)) I1.bare (fun b z=>absurd z (by simp))
  exact uI O I2 (au _ rfl) ⟨c',oc,vs,_,rfl,af _ (hk' _ _ (I1.hok _ _ hcT).1),hoc,hvs⟩ hroom sq h64 nd hk fun l hl=>q H1 l (Gr.refl _ _) hl
end
end Lm
namespace Lm
open PySem PySem.Spec PySem.W PyProof.Rows L2 Q R
noncomputable def oA(lx:Str)(p:Pos):Arguments:={posonlyargs:=[],args:=[⟨lx,none,p⟩],vararg:=none,kwonlyargs:=[],kw_defaults:=[],kwarg:=none,defaults:=[]}
noncomputable def isArg(lx:Str):List Arg->Bool
 |x::r=>r.isEmpty&&(x.annotation.isNone&&x.arg==lx)
 | []=>false
noncomputable def u7(lx:Str)(a:Arguments):Bool:=a.posonlyargs.isEmpty&&(a.vararg.isNone&&(a.kwonlyargs.isEmpty&&(a.kw_defaults.isEmpty&&(a.kwarg.isNone&&(a.defaults.isEmpty&&isArg lx a.args)))))
theorem iP{a b:Bool}(h:(a&&b)=true):a=true/\b=true:=by rwa [ah]at h
theorem emp{α:Type}{l:List α}(h:l.isEmpty=true):l=[]:=List.isEmpty_iff.mp h
theorem non{α:Type}{l:Option α}(h:l.isNone=true):l=none:=Option.isNone_iff_eq_none.mp h
theorem AN{lx:Str}{a:Arguments}(h:u7 lx a=true):∃p,a=oA lx p:=by
 obtain⟨po,ar,va,ko,kd,kw,df⟩:=a;obtain⟨h1,h⟩:=iP h;obtain⟨h2,h⟩:=iP h;obtain⟨h3,h⟩:=iP h;obtain⟨h4,h⟩:=iP h;obtain⟨h5,h⟩:=iP h;obtain⟨h6,h⟩:=iP h;cases ar with
 |nil=>exact(aq h).elim
 |cons x r=>
  obtain⟨h7,h⟩:=iP h;obtain⟨h8,h9⟩:=iP h;obtain⟨y,an,p⟩:=x;cases emp h1;cases non h2;cases emp h3;cases emp h4;cases non h5;cases emp h6;cases emp h7;cases non h8;cases eq_of_beq h9;exact⟨p,rfl⟩
noncomputable def nu(lx:Str)(sc:Scope):Bool:=decide (sc.names=[(lx,.local)])&&(decide (sc.kind=.function)&&(decide (sc.isCoroutine=false)&&(decide (sc.isGenerator=false)&&(lx==("__debug__":Str))==false)))
noncomputable def isNm(lx:Str):Expr->Bool
 |.Name x _=>x==lx
 |_=>false
theorem BW{lx:Str}{e:Expr}(h:isNm lx e=true):∃p,e=.Name lx p:=by
 cases e with
 |Name x p=>cases eq_of_beq h;exact⟨p,rfl⟩
 |_=>exact(aq h).elim
noncomputable def isZero:Expr->Bool
 |.Constant c _ _=>decide (c=.int 0)
 |_=>false
theorem DF{e:Expr}(h:isZero e=true):∃j p,e=.Constant (.int 0) j p:=by
 cases e with
 |Constant c j p=>cases of_decide_eq_true h;exact⟨j,p,rfl⟩
 |_=>exact(aq h).elim
noncomputable def BX(lx:Str):Expr->Bool
 |.Subscript a b _=>isNm lx a&&isZero b
 |_=>false
theorem AU{lx:Str}{e:Expr}(h:BX lx e=true):∃p1 j p2 p3,e=.Subscript (.Name lx p1) (.Constant (.int 0) j p2) p3:=by
 cases e with
 |Subscript a b p=>
  obtain⟨h1,h2⟩:=iP h;obtain⟨p1,rfl⟩:=BW h1;obtain⟨j,p2,rfl⟩:=DF h2;exact⟨_,_,_,_,rfl⟩
 |_=>exact(aq h).elim
noncomputable def Hq(lx:Str)(pos:Pos):Expr->Bool
 |.Lambda params body scope lp=>decide (lp=pos)&&(u7 lx params&&(nu lx scope&&BX lx body))
 |_=>false
theorem DQ{lx:Str}{pos:Pos}{e:Expr}(h:Hq lx pos e=true):∃pa scope p1 j p2 p3,e=.Lambda (oA lx pa) (.Subscript (.Name lx p1) (.Constant (.int 0) j p2) p3) scope pos/\nu lx scope=true:=by
 cases e with
 |Lambda params body scope lp=>
  obtain⟨h1,h⟩:=iP h;obtain⟨h2,h⟩:=iP h;obtain⟨h3,h4⟩:=iP h;cases of_decide_eq_true h1;obtain⟨pa,rfl⟩:=AN h2;obtain⟨p1,j,p2,p3,rfl⟩:=AU h4;exact⟨_,_,_,_,_,_,rfl,h3⟩
 |_=>exact(aq h).elim
noncomputable def chkKw(lx:Str)(pos:Pos):List Keyword->Bool
 |k::r=>r.isEmpty&&(decide (k.arg=some (aQ "key"))&&Hq lx pos k.value)
 | []=>false
noncomputable def Hs(sc:Scope)(N:List Str)(ce:CE)(lx:Str)(pos:Pos):Expr->Bool
 |.Call f es ks _=>isNm "sorted" f&&(jP sc "sorted"&&(ku sc N (.cons ce .nil) es&&chkKw lx pos ks))
 |_=>false
noncomputable def chkTg(sc:Scope)(N:List Str)(i:Nat):List Expr->Bool
 |g::r=>r.isEmpty&&lW sc N true (.name i) g
 | []=>false
noncomputable def Ht(sc:Scope)(N:List Str)(i:Nat)(ce:CE)(lx:Str)(pos:Pos):Stmt->Bool
 |.Assign ts v _=>chkTg sc N i ts&&Hs sc N ce lx pos v
 |_=>false
theorem DR{sc:Scope}{N:List Str}{i:Nat}{ce:CE}{lx:Str}{pos:Pos}{s:Stmt}(h:Ht sc N i ce lx pos s=true):∃g e pa scope p1 j p2 p3 p kp cp sp,s=.Assign [g] (.Call (.Name "sorted" p) [e] [⟨some (aQ "key"),.Lambda (oA lx pa) (.Subscript (.Name lx p1) (.Constant (.int 0) j p2) p3) scope pos,kp⟩] cp) sp/\
  lW sc N true (.name i) g=true/\jP sc "sorted"=true/\ba sc N ce e=true/\nu lx scope=true:=by
 cases s with
 |Assign ts v sp=>
  obtain⟨h1,h2⟩:=iP h;cases ts with
  |nil=>exact(aq h1).elim
  |cons g r=>
   obtain⟨h3,h4⟩:=iP h1;cases emp h3;cases v with
   |Call f es ks cp=>
    obtain⟨h5,h2⟩:=iP h2;obtain⟨h6,h2⟩:=iP h2;obtain⟨h7,h8⟩:=iP h2;obtain⟨p,rfl⟩:=BW h5;obtain⟨e,r',rfl,h9,h10⟩:=dM h7;cases eJ h10;cases ks with
    |nil=>exact(aq h8).elim
    |cons k ks=>
     obtain⟨h11,h12⟩:=iP h8;obtain⟨h13,h14⟩:=iP h12;cases emp h11;obtain⟨ka,kv,kp⟩:=k;cases of_decide_eq_true h13;obtain⟨pa,scope,p1,j,p2,p3,e1,h15⟩:=DQ h14;cases e1;exact⟨_,_,_,_,_,_,_,_,_,_,_,_,rfl,h4,h6,h9,h15⟩
   |_=>exact(aq h2).elim
 |_=>exact(aq h).elim
noncomputable def chkK(sc:Scope)(N:List Str)(c1:CS)(i:Nat)(ce:CE)(lx:Str)(pos:Pos)(c2:CB):List Stmt->Bool
 |s1::r=>jl sc N c1 s1&&rst r
 | []=>false
where rst:List Stmt->Bool
 |s2::rest=>Ht sc N i ce lx pos s2&&lu sc N c2 rest
 | []=>false
section
variable {P:Program}{w:World}{K:ae}{mg:Str->Option Value}{base:Heap}
theorem Hb{x qual:Str}{st:Stmt}{f c:Addr}{fd:fh}{N ps:List Str}{k:Nat}{G:Gam}{sp:Sp}{c1:CS}{i:Nat}{ce:CE}{lx:Str}{c2:CB}{T:Tb}(F:Fun K x qual st f fd)(hd:mH N ps (aJ st)=true)
  (hc:chkK (aJ st) N c1 i ce lx T.pos c2 (bc st)=true)(hcd:fd.code=.ref c)(hC:CodeHd base c T.P)(hq:qual++".<locals>."++"<lambda>"=T.q)(hb:BM mg base)
  (hbd:∀(p:Pos)(body:Expr)(scope:Scope)(qual:Str)(pm ctv v:Value)(c':Addr),nK (kla_fn "<lambda>" qual (oA lx p) body scope [] pm (.ref c') ctv) ⟨[v],[]⟩=pure [(lx,v)])
  (g:GOk P w K mg base (CXx P w) k G)(len:∀vs H Q E,sp vs H Q E->vs.length=ps.length)
  (h:∀vs H Q E,sp vs H Q E->qD (wpS G K (fun _=>E) c1) (qD (rC (rA K T (wpE G K (fun _=>E) ce)) (kj i)) (wpB G K (fun _=>E) c2)) {nx:=fun _ H'=>Q .non H',rt:=Q} (start N vs) H):ju P w K mg base (CXx P w) (k+1) f fd ps sp:=by
 have S:=yu hd;obtain⟨oc,od,kV,doc,pm,an,cdv,ct,osl,rfl,lk,hcd'⟩:=F.ex;have ecd:cdv=.ref c:=hcd;subst ecd;refine fn_of lk hcd' S len fun A outer s H vs Q E hr hsp=>?_;have o:Ok (CXx P w) G (fun _=>E) (aJ st) N true (uo (CXx P w) P w K mg base N qual (aJ st) f (.ref c) A outer s H E):=
  {names:=rfl,top:=fun _=>⟨rfl,rfl,rfl⟩,nd:=S.nd,loc:=fun _ z=>z,cel:=fun _ z=>z,fre:=fun y z=>absurd rfl (S.nofree _ (bf z)),glo:=fun _ z=>z,all:=fun _ _=>rfl,own:=fun _ _=>rfl,calm:=rfl,
   hu:=by have :=hr.units;show _+50<cLine;exact cy (Nat.add_le_add_left (by decide) _) this
   val:=g.val
   fn:=fun y n sp' dvs e=>by
    obtain⟨f',fd',ps',ds',j,hj,F',hm,hk,hb,hv⟩:=g.fn y n sp' dvs e;exact⟨f',fd',ps',ds',j,F',hr.mono hj,hm,hk,hb,hv⟩
   ini:=fun y n C sp' dvs e=>by
    obtain⟨f',fd',ps',ds',j,hj,M,F',hm,hb,hv⟩:=g.ini y n C sp' dvs e;exact⟨f',fd',ps',ds',j,M,F',hr.mono hj,hm,hb,hv⟩
   dic:=g.dic
   blt:=g.blt,px:=Ct,pass:=vy,made:=vz,madeX:=tB,cx:=rfl}
 refine⟨_,?_,h vs H Q E hsp⟩;generalize hB:bc st=body at hc;cases body with
 |nil=>exact(aq hc).elim
 |cons s1 r=>
  obtain⟨h1,hc⟩:=iP hc;cases r with
  |nil=>exact(aq hc).elim
  |cons s2 rest=>
  obtain⟨h2,h3⟩:=iP hc;obtain⟨g',e,pa,scope,p1,j,p2,p3,p,kp,cp,sp',rfl,h4,h6,h7,h12⟩:=DR h2;obtain⟨n1,h12⟩:=iP h12;obtain⟨n2,h12⟩:=iP h12;obtain⟨n3,h12⟩:=iP h12;obtain⟨n4,n5⟩:=iP h12;rw[decide_eq_true_eq]at n1 n2 n3 n4;have hG:=pz (CX:=CXx P w) (fun _ _ _ _ _ z=>DN z) (.name i) _ o h4;refine og (E2 (fun _ _ _ _ _ z=>DN z) c1 s1 o (fun _ _ _ _ _=>S.kind) h1) (og ?_ (nh (fun _ _ _ _ _ z=>DN z) c2 rest o (fun _ _ _ _ _=>S.kind) h3));refine Am (FO (c:=c) (T:=T) (bD (fun _ _ _ _ _ z=>DN z) ce e o h7) (bC h7 [] _) (o.gl h6) (g.blt _ (by decide+kernel)) rfl hC hq hb ?_ ?_) hG (yz rfl _ _ _) (rY h4 (dQ _) _) (by rw[oj h4];rfl)
  ·refine⟨?_,rfl,fun qual pm ctv v c'=>hbd pa _ _ qual pm ctv v c',by rw[n1];simp,by simpa using n5,n2,?_,n3,n4⟩
   ·unfold Ei
    rw[n1];rfl
   ·rw[n1]
    intro z hz;have :z=(lx,dO.local):=by simpa using hz
    rw[this];exact fun z=>by cases z
  ·exact hr.depth
end
noncomputable def jj(K:ae)(tabs:List Addr)(a:Addr)(vs:List Value)(ns:List Int):Hp:=fun b=>
 if b∈tabs then some (.tbl #[])else if b=a/\K.lookup a=none then some (.frz {cls:=.type "list",data:=.seq vs.toArray} (.lst (ns.map V.int)))else none
theorem DB{P:Program}{w:World}{K:ae}{mg mb:Str->Option Value}{CX:CXT}{k:Nat}{fa a:Addr}{fd:fh}{x:Str}{sp:Sp}{s₁:Shared}{vs:List Value}{ns:List Int}{tabs:List Addr}(KX:K.In s₁.heap)
  (hns:s₁.heap.Ns bg mg)(hb:s₁.heap.Ns lA mb)(hbb:∀x:Str,x≠"__name__"->mb x=fg x)(hlim:s₁.heap.NoLimit)(hg:s₁.gens= #[])(ha:s₁.heap.get? a=some {cls:=.type "list",data:=.seq vs.toArray})
  (hi:bV vs ns) (hl:ns.length<=sizeLine) (hr:iU k Cn) (hT:∀p∈tabs,s₁.heap.get? p=some (tabObj #[])/\isCodeTable s₁.heap p/\K.lookup p=none)
  (F:∀base:Heap,K.In base->base.Ns bg mg->(∀b o,s₁.heap.get? b=some o->o.cls≠.none->o.cls≠.type "list"->base.get? b=some o)->ju P w K mg base CX k fa fd [x] sp)
  (hbind:∀(s:Shared)(u:Value),BindsTo s fd ⟨[u],[]⟩ [(x,u)])
  (hsp:∀H:Hp,(∀p∈tabs,H p=some (.tbl #[]))->SqL K H a (ns.map V.int)->sp [.ref a] H (fun v _=>v=.bl true) fun _ _ _=>False) (hCX:∀H e s',CX [] H s₁ (fun _ _ _=>False) e s'->False):
  fC (model P w) Cn (.call (.ref fa) ⟨[.ref a],[]⟩) (fun r s'=>r=.ok (.ret (.bool true))/\OldK s₁.heap s'.heap/\s'.os=s₁.os/\mE s'.gens) s₁:=by
 have rv:=pk hi;have lenV:=hi.length;have cases3:∀b,(b∈tabs/\jj K tabs a vs ns b=some (.tbl #[]))\/(b=a/\K.lookup a=none/\jj K tabs a vs ns b=some (.frz {cls:=.type "list",data:=.seq vs.toArray} (.lst (ns.map V.int))))\/jj K tabs a vs ns b=none:=fun b=>by
  unfold jj;by_cases h1:b∈tabs
  ·exact .inl ⟨h1,if_pos h1⟩
  ·rw[if_neg h1]
   by_cases h2:b=a/\K.lookup a=none
   ·exact .inr (.inl ⟨h2.1,h2.2,if_pos h2⟩)
   ·exact .inr (.inr (if_neg h2))
 have tabH:∀p∈tabs,jj K tabs a vs ns p=some (.tbl #[]):=fun p hp=>if_pos hp;have haT:a∉tabs:=fun z=>by
  have :=(hT a z).1
  rw[ha]at this;cases this
 --what is neither a table nor a list is not tracked
 have untr:∀{b:Addr}{o:Obj},s₁.heap.get? b=some o->o.cls≠.none\/(∃es ep,o.data=.dict es ep)->o.cls≠.type "list"\/(∃es ep,o.data=.dict es ep)->jj K tabs a vs ns b=none:=fun{b o} e h1 h2=>by
  rcases cases3 b with⟨q,_⟩ |⟨rfl,_⟩ |q
  ·have :=(hT b q).1
   rw[e]at this;cases this;rcases h1 with z|⟨_,_,z⟩
   ·exact absurd rfl z
   ·cases z
  ·rw[ha]at e;cases e
   rcases h2 with z|⟨_,_,z⟩
   ·exact absurd rfl z
   ·cases z
  ·exact q
 have nsK:∀{b:Addr}{m:Str->Option Value},s₁.heap.Ns b m->(yS s₁.heap (jj K tabs a vs ns)).Ns b m:=fun{b m} ⟨o,es,ep,e,d,r⟩=>⟨o,es,ep,sC e (untr e (.inr ⟨_,_,d⟩) (.inr ⟨_,_,d⟩)),d,r⟩;have hKb:K.In (yS s₁.heap (jj K tabs a vs ns)):=fun b o e=>sC (KX b o e) (by
  rcases cases3 b with⟨q,_⟩ |⟨rfl,z,_⟩ |q
  ·rw[(hT b q).2.2]at e;cases e
  ·rw[z]at e;cases e
  ·exact q)
 have hok:HOk P w (jj K tabs a vs ns) s₁.heap:=fun b o e=>by
  rcases cases3 b with⟨q,z⟩ |⟨rfl,_,z⟩ |z
  ·rw[z]at e;cases e
   exact(hT b q).1
  ·rw[z]at e;cases e
   exact⟨ha,by rw[ao];exact hl,vs,_,rv,ha⟩
  ·rw[z]at e;cases e
 have hS:SqL K (jj K tabs a vs ns) a (ns.map V.int):=by
  cases hk:K.lookup a with
  |none=>
   refine .inl (.inr ⟨{cls:=.type "list",data:=.seq vs.toArray},?_⟩);unfold jj;rw[if_neg haT,if_pos ⟨rfl,hk⟩]
  |some o=>
   have e:=KX a o hk;rw[ha]at e;cases e;exact .inr ⟨_,vs.toArray,_,hk,rfl,rfl,rfl,by rw[ay,lenV];exact hl,by simpa using rv⟩
 have hM:Mod K mg (yS s₁.heap (jj K tabs a vs ns)):=⟨hKb,nsK hns,⟨mb,nsK hb,hbb⟩,let⟨mc,h1,h2⟩:=hlim;⟨mc,nsK h1,h2⟩⟩;have e0:Bg P w K mg (yS s₁.heap (jj K tabs a vs ns)) Cn [] s₁ (jj K tabs a vs ns):=⟨rfl,hM,fun b o e=>of_hidT e,Em (DK _ _),trivial,fun b hb=>absurd (show b∈([]:List Addr)from hb) (by simp),hok,.of_eq hg⟩;have f0:=F _ hKb (nsK hns) fun b o e h1 h2=>sC e (untr e (.inl h1) (.inl h2));refine i3 (f0.run Cn [] s₁ (jj K tabs a vs ns) ⟨[.ref a],[]⟩ [.ref a] [.ref a] _ _ hr e0 (hbind s₁ (.ref a)) (.cons rfl .nil) (hsp _ tabH hS)) fun r s' h=>?_;cases r with
 |error e=>exact(hCX _ e s' h).elim
 |ok fl=>
  cases fl with
  |next =>exact gb h
  |brk=>exact gb h
  |cont=>exact gb h
  |ret u=>
   obtain⟨v,H',os,bare,un,hok',r',q⟩:=h;have q':v=.bl true:=q;subst q';obtain rfl:u=xJ true:=r';have kept:∀b o,s₁.heap.get? b=some o->b∉tabs->s'.heap.get? b=some o:=fun b o e nt=>by
    rcases cases3 b with⟨z,_⟩ |⟨rfl,_,z⟩ |z
    ·exact absurd z nt
    ·have z2:=un.frzs b _ _ z
     obtain⟨e2,_⟩:=hok' b _ z2;rw[ha]at e;cases e;exact e2
    ·exact un.keep b o e z (by intro z;exact absurd (show b∈([]:List Addr)from z) (by simp)) (by simp)
   have grown:∀b∈tabs,∃more,s'.heap.get? b=some (tabObj (#[]++more)):=fun b hb=>by
    obtain⟨more,z⟩:=un.tbls b _ (tabH b hb);exact⟨more,hok' b _ z⟩
   refine⟨rfl,⟨fun b o e=>?_,fun b o e=>?_⟩,os,bare⟩
   ·by_cases hb:b∈tabs
    ·obtain⟨e1,ct,_⟩:=hT b hb
     rw[e]at e1;cases e1;obtain⟨more,z⟩:=grown b hb;exact .inr (.inl ⟨ct,rfl,#[],more,rfl,z⟩)
    ·exact .inl (kept b o e hb)
   ·by_cases hb:b∈tabs
    ·obtain⟨more,z⟩:=grown b hb
     exact⟨_,z⟩
    ·exact⟨o,kept b o e hb⟩
theorem bm_of{mg:Str->Option Value}{h:Heap}(hg:h.Ns bg mg)(hb:∃bm ob,mg "__builtins__"=some (.ref bm)/\bm≠lA/\h.get? bm=some ob/\ob.cls=.type "module"/\ob.dict=some lA/\ob.data=.plain):BM mg h:=by
 obtain⟨bm,ob,b1,b2,b3,b4,b5,b6⟩:=hb;refine⟨bm,ob,b1,b2,fun q=>?_,b3,b4,b5,b6⟩;obtain⟨o,es,ep,e,hd,_⟩:=hg;rw[q,e]at b3;cases b3;rw[hd]at b6;cases b6
theorem EE{l:PySem.W.OpenLaw}{n k:Nat}{q:Program}{loose:List Str}{XP:(Str->Option Value)->Heap->Prop}{YP:World->Heap->Prop}{d:DefRec}{K:Params->ae}{CX:CXT}{sp:ae->Sp}{x:Str}{tabs:List Addr}
  (hn:l.most=some n)(hn2:n<=sizeLine)(hdf:d.params.defaults=[])(hr:iU k Cn)(hY:∀(w:World)(h:Heap),YP w h->(K w.params).In h)
  (hT:∀(w:World)(s₀:Shared)(mg mb:Str->Option Value)(h:Heap),Ground q loose [] XP w s₀ mg mb h->YP w h->∀p∈tabs,h.get? p=some (tabObj #[])/\isCodeTable h p/\(K w.params).lookup p=none)
  (F:∀(w:World)(mg:Str->Option Value)(fa:Addr)(h:Heap),(K w.params).In h->h.Ns bg mg->mg d.name=some (.ref fa)->
   ∃fd:fh,(∀(s:Shared)(u:Value),BindsTo s fd ⟨[u],[]⟩ [(x,u)])/\
    ∀base:Heap,(K w.params).In base->base.Ns bg mg->BM mg base->ju l.prog w (K w.params) mg base CX k fa fd [x] (sp (K w.params)))
  (hsp:∀(K:ae)(H:Hp)(a:Addr)(ns:List Int),ns.length<=n->(∀p∈tabs,H p=some (.tbl #[]))->SqL K H a (ns.map V.int)->sp K [.ref a] H (fun v _=>v=.bl true) fun _ _ _=>False)
  (hCX:∀(H:Hp)(s:Shared)(e:Value)(s':Shared),CX [] H s (fun _ _ _=>False) e s'->False):
  PySem.W.WalkO q loose XP YP l.row.toRowW d [] (fun f vs=>PySem.call f vs):=by
 refine Att.zu hn hdf fun w s₀ s₁ mg mb fa o pm cd doc a vs ns G Y ho hd hcd hmg hobj hints hlen hg=>?_;have KX:=hY w _ Y;obtain⟨fd,hb,hF⟩:=F w mg fa _ KX G.T.g hmg;have hbm:=bm_of G.T.g G.T.bmain;refine DB KX G.T.g G.T.b G.T.builtins G.T.nolimit hg hobj hints (aX hlen hn2) hr (hT w s₀ mg mb _ G Y) (fun base k1 k2 k3=>hF base k1 k2 ?_) hb (fun H t S=>hsp _ H a ns hlen t S) fun H e s'=>hCX H s₁ e s';obtain⟨bm,ob,b1,b2,b0,b3,b4,b5,b6⟩:=hbm;exact⟨bm,ob,b1,b2,b0,k3 bm ob b3 (by rw[b4];nofun) (by rw[b4];decide),b4,b5,b6⟩
end Lm
namespace Cp
open PySem PySem.Spec PyProof.Rows L2 R Lm
noncomputable def oh:List Str:=["table"]
noncomputable def iS:List Str:=["table","ordered"]
noncomputable def jX:CS:=.expr (.call "need_table" (.cons (.var 0) .nil))
noncomputable def jW:CB:=.cons (.ret (.comp ["name","readings"] [] (.tup (.cons (.name 0) (.cons (.name 1) .nil))) (.seq (.var 1)) .no (.tup (.cons (.var 0) (.cons (.bfn .tuple (.cons (.bfn .list (.cons (.var 1) .nil)) .nil)) .nil))))) .nil
theorem _root_.Lm.Gr.free{T:Tb}{H H':Hp}(g:Gr T H H')(t:Tab T H){l:Addr}(h:H' l=none):H l=none:=by
 cases e:H l with
 |none=>rfl
 |some o=>
  by_cases n:l=T.P
  ·rcases g.tab t with z|⟨_,_,_,_,_,z,_⟩
   ·rw[n,z]at h;cases h
   ·rw[n,z]at h;cases h
  ·rw[g.keep l o n e]at h;cases h
noncomputable def srt(H:Hp):V->List V
 |.ref a=>match cn (H a)with
  |some ys=>_root_.Q.sortBy .non (ys.map (aE H)) ys
  |none=>[]
 |_=>[]
noncomputable def Copied(H H':Hp)(us zs:List V):Prop:=zs.length=us.length/\∀(i:Nat) z,zs[i]? =some z->∃b r,z=.ref b/\H' b=some (.tup [.str (aE H (us.getD i .non)),.ref r])/\H' r=some (.tup (kK H (us.getD i .non)))
noncomputable def rK(C:Addr)(T:Tb):Sp:=fun vs H Q E=>∃x,vs=[x]/\Kn4 H x/\Tab T H/\(bO H x=true->∀H' l zs,Gr T H H'->H l=none->H' l=some (.lst zs)->Copied H H' (srt H x) zs->Q (.ref l) H')/\(bO H x=false->∀H',aG H H'->E (.ref C) none H')
theorem tk_of{H H':Hp}(s:aG H H'):∀{xs:List V},(∀y∈xs,cm H y=true)->_root_.Q.mq H' xs (xs.map (aE H))
 | [],_=>.nil
 |y::xs,h=>by
  obtain⟨a,b,e,h1,_⟩:=gP (h y (.head _));exact .cons ⟨a,_,e,s _ _ h1⟩ (tk_of s fun z hz=>h z (.tail _ hz))
theorem tU{G:Gam}{K:ae}{C:Addr}{T:Tb}(g1:G.fn "need_table" 1=some (rJ C,[])):
  ∀vs H Q E,rK C T vs H Q E->qD (R.wpS G K (fun _=>E) jX) (qD (rC (rA K T (wpE G K (fun _=>E) (.var 0))) (kj 1)) (wpB G K (fun _=>E) jW)) {nx:=fun _ H'=>Q .non H',rt:=Q} (L2.start iS vs) H:=by
 rintro vs H Q E ⟨x,rfl,hk,tb,q1,q2⟩;unfold jX jW;change qD _ _ _ [some x,none] H;unfold rA;walk_at "wp";refine⟨_,_,g1,x,rfl,hk,fun e H1 s1=>?_,q2⟩;obtain⟨a,ys,rfl,h1,h2,h3,h4,h5⟩:=cT e;have tb1:Tab T H1:=(Gr.of s1).tab tb;refine⟨a,ys,ys.map (aE H),rfl,s1.seq (iz h1),by rw[ao];omega,h4,tk_of s1 h3,tb1,fun H2 l gr hl=>?_⟩;have eu:srt H (.ref a)=_root_.Q.sortBy V.non (ys.map (aE H)) ys:=by
  show(match cn (H a)with |some ys=>_root_.Q.sortBy V.non (ys.map (aE H)) ys|none=>[])=_;rw[h1]
 have zp:(_root_.Q.sortBy V.non (ys.map (aE H)) ys).Perm ys:=_root_.Q.eG V.non h4 (by simp);have q0:=q1 e;rw[eu]at q0;generalize _root_.Q.sortBy V.non (ys.map (aE H)) ys=us at zp q0⊢;have gr0:Gr T H (upd H2 l (.lst us)):=(Gr.of s1).trans (gr.trans (Gr.of (aA hl)));have el:upd H2 l (.lst us) l=some (.lst us):=ax;generalize upd H2 l (.lst us)=H3 at gr0 el⊢;have hul:us.length<=40:=by rw[zp.length_eq];exact h2
 refine d8 (dS rfl (SqL.of el) (dZ fN (aX hul (by decide)) (fun H4 s4=>SqL.of (s4 _ _ el)) (fun i v H'=>∃b r,v=V.ref b/\H' b=some (.tup [.str (aE H (us.getD i .non)),.ref r])/\H' r=some (.tup (kK H (us.getD i .non))))
  (fun i v H4 H5 s5 ⟨b,r,z1,z2,z3⟩=>⟨b,r,z1,s5 _ _ z2,s5 _ _ z3⟩) (fun τ=>∃t u,τ=[t,u]) ⟨none,none,rfl⟩ ?_ ?_))
 ·rintro j y τ H4 R hi ⟨t,u,rfl⟩ s4 hy k
  have hm:y∈ys:=zp.mem_iff.mp (aU hy);obtain⟨b,c,rfl,k1,k2,k3,k4⟩:=gP (h3 y hm);have f1:=s4 _ _ (gr0.nU tb k1);have f2:=s4 _ _ (gr0.nU tb k2);refine⟨b,_,rfl,SqT.of f1,rfl,_,_,rfl,_,_,rfl,rfl,?_⟩;walk_at "wp";refine⟨c,_,rfl,.inr (SqT.of f2),fun l1 hl1=>⟨l1,_,rfl,.inl ⟨SqL.of ax,fun r hr=>⟨aX (by simp :_<=2) (by decide),fun p hp=>k _ _ _ ⟨_,_,rfl⟩ ((aA hl1).trans ((aA hr).trans (aA hp))) ?_⟩⟩⟩⟩;rw[getD_some hy];exact⟨p,r,rfl,ax,by rw[aL (bx ax hp)];exact ax⟩
 ·intro vs H4 l2 hvl hF s4 hl2
  have gr4:Gr T H H4:=gr0.trans (Gr.of s4);have s5:aG H4 (upd H4 l2 (.lst vs)):=aA hl2;refine q0 _ l2 vs (gr4.trans (Gr.of s5)) (gr4.free tb hl2) ax ⟨hvl,fun i z hz=>?_⟩;obtain⟨b,r,z1,z2,z3⟩:=hF i z hz;exact⟨b,r,z1,s5 _ _ z2,s5 _ _ z3⟩
end Cp
namespace K22
open PySem R
noncomputable def p_clash:List Str:=["table"]
noncomputable def BL:List Str:=["table","copies","count","one","other","names"]
noncomputable def vt:CB:=
  (.cons (.ret (.con .none))
  .nil)
noncomputable def vv:CB:=
  (.cons (.forr (.name 3) (.range1 (.var 2))
  (.cons (.forr (.name 4) (.range2 (.bin .Add (.var 3) (.con (.int 1))) (.var 2))
  (.cons (.asg (.name 5) (.call "first_of_kinds" (.cons (.var 1) (.cons (.var 3) (.cons (.var 4) .nil)))))
  (.cons (.iff (.cmp .IsNot (.var 5) (.con .none))
  (.cons (.ret (.tup (.cons (.var 3) (.cons (.var 4) (.cons (.var 5) .nil)))))
  .nil)
  .nil)
  .nil)))
  .nil))
  vt)
noncomputable def vx:CB:=
  (.cons (.asg (.name 2) (.call "place_count" (.cons (.var 1) .nil)))
  vv)
noncomputable def Cg:CB:=
  (.cons (.asg (.name 1) (.call "table_list" (.cons (.var 0) .nil)))
  vx)
noncomputable def ym:List Str:=["_law_found"]
noncomputable def yC:List Str:=["_law_found"]
end K22
namespace K22
open PySem PySem.Spec PyProof.Rows L2 R Cp Lt Kc K21 Lm
noncomputable def cd(H:Hp)(y:V):Str×List V:=(aE H y,kK H y)
noncomputable def numD(i:Int)(p:Str×List V):Int:=match p.2.getD i.toNat .non with
 |.int n=>n
 |_=>0
noncomputable def isK(i j:Int)(k:Int×Int)(p:Str×List V):Bool:=decide (numD i p=k.1/\numD j p=k.2)
noncomputable def sI(rows:List (Str×List V))(i j:Int):Bool:=KP.all fun k=>rows.any (isK i j k)
noncomputable def p8(rows:List (Str×List V))(i j:Int)(k:Int×Int):Str:=((rows.find? (isK i j k)).map (·.1)).getD ""
theorem B0{H:Hp}{xs:List V}{i j:Int}:jQ H xs i j=sI (xs.map (cd H)) i j:=by
 unfold jQ sI;congr 1;funext k;rw[Cw];rfl
theorem Gc{H:Hp}{xs:List V}{i j:Int}(h:jQ H xs i j=true):KP.map (firstOf H xs i j)=(KP.map (p8 (xs.map (cd H)) i j)).map V.str:=by
 rw[dB];refine bP fun k hk=>?_;have hall:xs.any (fun y=>decide (num H i y=k.1/\num H j y=k.2))=true:=by
  unfold jQ at h;exact bK.mp h k hk
 have ep:(fun y=>decide (kf H i j y=nq k))=(isK i j k)∘(cd H):=by
  funext y
  exact decide_eq_decide.mpr kf_eq
 show firstOf H xs i j k=V.str (p8 (xs.map (cd H)) i j k);unfold firstOf p8;rw[ep,List.find?_map];obtain⟨y0,hy0,e0⟩:=cE.mp hall;cases hf:xs.find? ((isK i j k)∘(cd H))with
 |none=>
  rw[qz]at hf;exact absurd e0 (hf y0 hy0)
 |some y=>rfl
structure tI(rows:List (Str×List V))(n i j:Nat):Prop where
 ij:i<j
 jn:j<n
 four:sI rows i j=true
 no:∀a b:Nat,a<b->b<n->(a<i\/a=i/\b<j)->sI rows a b=false
noncomputable def NoC(rows:List (Str×List V))(n:Nat):Prop:=∀a b:Nat,a<b->b<n->sI rows a b=false
theorem tI.one{rows:List (Str×List V)}{n i j a b:Nat}(f:tI rows n i j)(g:tI rows n a b):i=a/\j=b:=by
 have h1:¬(a<i\/a=i/\b<j):=fun z=>by
  have :=f.no a b g.ij g.jn z
  rw[g.four]at this;cases this
 have h2:¬(i<a\/i=a/\j<b):=fun z=>by
  have :=g.no i j f.ij f.jn z
  rw[f.four]at this;cases this
 omega
noncomputable def Res(H:Hp)(rows:List (Str×List V))(n:Nat)(v:V):Prop:=(v=.non/\NoC rows n)\/∃(i j:Nat)(a l:Addr),v=.ref a/\tI rows n i j/\H a=some (.tup [.int i,.int j,.ref l])/\H l=some (.tup ((KP.map (p8 rows i j)).map V.str))
noncomputable def rowsOf(H:Hp)(x:V):List (Str×List V):=(srt H x).map (cd H)
theorem jb{H:Hp}{b r:Addr}{z:Str}{zs:List V}(h1:H b=some (.tup [.str z,.ref r]))(h2:H r=some (.tup zs)):cd H (.ref b)=(z,zs):=by
 have e1:aE H (.ref b)=z:=by
  show(match cz (H b)with |some (.str z::_)=>z|_=>("":Str))=_;rw[h1];rfl
 have e2:kK H (.ref b)=zs:=by
  show(match cz (H b)with |some [_,.ref b]=>(cz (H b)).getD [] |_=>[])=zs;rw[h1];show(cz (H r)).getD []=zs;rw[h2];rfl
 unfold cd;rw[e1,e2]
theorem jC{H:Hp}{t:Addr}{ys:List V}(h:cn (H t)=some ys):srt H (.ref t)=_root_.Q.sortBy .non (ys.map (aE H)) ys:=by
 show(match cn (H t)with |some ys=>_root_.Q.sortBy V.non (ys.map (aE H)) ys|none=>[])=_;rw[h]
theorem uU{H:Hp}{x:V}(h:cm H x=true):eR (aE H x)=true:=by
 obtain⟨_,_,_,_,_,_,_,h4,_,_,h7,_⟩:=gz h;rw[h7];exact h4
theorem sT{H H':Hp}{x:V}{l:Addr}{zs:List V}(e:bO H x=true)(el:H' l=some (.lst zs))(c:Copied H H' (srt H x) zs):
  Kn4 H' (.ref l)/\bO H' (.ref l)=true/\count H' (.ref l)=count H x/\zs.map (cd H')=rowsOf H x:=by
 obtain⟨a,ys,rfl,h1,h2,h3,h4,h5⟩:=cT e;have eu:=jC h1;have zp:(srt H (.ref a)).Perm ys:=by rw[eu];exact _root_.Q.eG V.non h4 (by simp)
 unfold rowsOf;generalize srt H (.ref a)=us at c zp⊢;have hul:us.length<=40:=by rw[zp.length_eq];exact h2
 have hu:∀u∈us,cm H u=true/\bE H u=count H (.ref a):=fun u hm=>⟨h3 u (zp.mem_iff.mp hm),h5 u (zp.mem_iff.mp hm)⟩;have nd:(us.map (aE H)).Nodup:=(zp.map (aE H)).nodup_iff.mpr h4;have get:∀{i:Nat}{z:V},zs[i]? =some z->us[i]? =some (us.getD i .non)/\us.getD i .non∈us:=fun{i z} hz=>by
  have hi:i<us.length:=by
   have :=(aM.mp hz).1
   rw[<-c.1];exact this
  have e:us[i]? =some (us.getD i .non):=by rw[aj,ag hi];rfl
  exact⟨e,aU e⟩
 let nf:Nat->Str:=fun i=>if i<us.length then aE H (us.getD i .non)else "a"
 have hnf:∀i,eR (nf i)=true:=fun i=>by
  show eR (if i<us.length then aE H (us.getD i .non)else "a")=true;split
  ·rename_i hi
   have e:us[i]? =some (us.getD i .non):=by rw[aj,ag hi];rfl
   exact uU (hu _ (aU e)).1
  ·decide+kernel
 have dr:Dr H' nf (count H (.ref a)) zs:=fun i z hz=>by
  obtain⟨b,r,hb,h6,h7⟩:=c.2 i z hz;obtain⟨g1,g2⟩:=get hz;have hi:i<us.length:=(aM.mp g1).1;obtain⟨c1,c2⟩:=hu _ g2;obtain⟨_,_,_,_,_,k3,k4⟩:=gP c1;refine⟨b,r,_,hb,?_,h7,by rw[k3,c2],k4⟩;show H' b=some (.tup [.str (if i<us.length then aE H (us.getD i .non)else "a"),.ref r]);rw[if_pos hi];exact h6
 have hn60:ys=[]\/count H (.ref a)<=60:=by
  cases ys with
  |nil=>exact .inl rfl
  |cons y r=>
   right
   rw[<-h5 y (.head _)];obtain⟨_,_,_,_,_,_,_,_,h60,_,_,h8⟩:=gz (h3 y (.head _));rw[h8];exact h60
 have hinj:∀i j,i<zs.length->j<zs.length->nf i=nf j->i=j:=fun i j hi hj e=>by
  rw[c.1]at hi hj;have e':(if i<us.length then aE H (us.getD i .non)else "a")=(if j<us.length then aE H (us.getD j .non)else "a"):=e;rw[if_pos hi,if_pos hj]at e';have g:∀k (hk:k<us.length),(us.map (aE H))[k]'(by simpa using hk)=aE H (us.getD k .non):=fun k hk=>by
   rw[dJ,aj,ag hk];rfl
  rw[<-g i hi,<-g j hj]at e';exact(fk nd).mp e'
 have hz0:zs=[]↔us=[]:=by
  rw[<-bW,c.1,bW]
 have map_eq:zs.map (cd H')=us.map (cd H):=by
  apply kY
  intro i;rw[aF,aF];cases hz:zs[i]? with
  |none=>
   have :us.length<=i:=by
    have :=List.getElem?_eq_none_iff.mp hz
    rw[c.1]at this;exact this
   rw[dc this];rfl
  |some z=>
   obtain⟨b,r,rfl,h6,h7⟩:=c.2 i z hz;rw[(get hz).1];show some (cd H' (.ref b))=some (cd H (us.getD i .non));rw[jb h6 h7];rfl
 rcases hn60 with hy|hn60
 ·have hus:us=[]:=by rw[hy]at zp;exact List.perm_nil.mp zp
  have hzs:=hz0.mpr hus;subst hzs;have dr0:Dr H' nf 0 []:=fun i y e=>by simp at e
  obtain⟨t1,t2,_,_⟩:=lU hnf (fun i j hi=>absurd hi (by simp)) el dr0 (by simp) (by decide);refine⟨t1,t2,?_,map_eq⟩;have e1:count H' (.ref l)=0:=by
   show(match cn (H' l)with |some (y::_)=>bE H' y|_=>0)=0;rw[el];rfl
  have e2:count H (.ref a)=0:=by
   show(match cn (H a)with |some (y::_)=>bE H y|_=>0)=0;rw[h1,hy]
  rw[e1,e2]
 ·obtain⟨t1,t2,_,t4⟩:=lU hnf hinj el dr (by rw[c.1];exact hul) hn60
  refine⟨t1,t2,?_,map_eq⟩;cases zs with
  |nil=>
   have hus:=hz0.mp rfl;have hy:ys=[]:=by rw[hus]at zp;exact List.nil_perm.mp zp
   have e1:count H' (.ref l)=0:=by
    show(match cn (H' l)with |some (y::_)=>bE H' y|_=>0)=0;rw[el];rfl
   have e2:count H (.ref a)=0:=by
    show(match cn (H a)with |some (y::_)=>bE H y|_=>0)=0;rw[h1,hy]
   rw[e1,e2]
  |cons z r=>
   show(match cn (H' l)with |some (y::_)=>bE H' y|_=>0)=_;rw[el];exact t4 z (.head _)
noncomputable def ic(C:Addr)(T:Tb):Sp:=fun vs H Q E=>∃x,vs=[x]/\Kn4 H x/\Tab T H/\(bO H x=true->∀H' v,Gr T H H'->Res H' (rowsOf H x) (count H x) v->Q v H')/\(bO H x=false->∀H',aG H H'->E (.ref C) none H')
theorem ED{G:Gam}{K:ae}{C:Addr}{T:Tb}(g1:G.fn "table_list" 1=some (rK C T,[]))(g2:G.fn "place_count" 1=some (vZ C,[]))(g3:G.fn "first_of_kinds" 3=some (vY,[])):
  Sat G K (ic C T) Cg BL:=by
 rintro vs H Q E ⟨x,rfl,hk,tb,q1,q2⟩;unfold Cg vx;change wpB G K _ _ _ [some x,none,none,none,none,none] H;walk_at "wp";refine⟨_,_,g1,x,rfl,hk,tb,fun e H1 l zs gr hl el cpd=>?_,q2⟩;obtain⟨kn,tt,ct,rows⟩:=sT e el cpd;have qq:=q1 e;generalize rowsOf H x=rw0 at rows qq;generalize hn:count H x=n at ct qq;refine⟨_,_,g2,.ref l,rfl,kn,fun _ H2 s2=>?_,fun z=>by rw[tt]at z;cases z⟩;rw[ct];have hx:cn (H1 l)=some zs:=by rw[el];rfl
 have pl:∀z:Nat,z<n->isPlace H1 (.ref l) (.int z)=true:=fun z hz=>decide_eq_true ⟨by omega,by omega⟩;have hn60:n<=60:=by
  obtain⟨a',xs',ea,f1,f2,f3,f4,f5⟩:=cT tt;cases ea;rw[hx]at f1;cases f1;rw[<-ct];cases zs with
  |nil=>
   show(match cn (H1 l)with |some (y::_)=>bE H1 y|_=>0)<=60;rw[el];exact bA _
  |cons y r=>
   rw[<-f5 y (.head _)];obtain⟨_,_,_,_,_,_,_,_,h60,_,_,h8⟩:=gz (f3 y (.head _));rw[h8];exact h60
 unfold vv;walk_at "wp";refine hJ ?_;walk_at "wp";refine⟨(n:Int),rfl,by omega,by omega,?_⟩;refine gu du (fun i σ H'=>aG H1 H'/\(∀a b:Nat,a<i->a<b->b<n->sI rw0 a b=false)/\∃u v w,σ=[some x,some (.ref l),some (.int n),u,v,w])
  ⟨s2,fun a b h=>absurd h (by omega),none,none,none,rfl⟩ (fun _ _ _ _ _=>trivial) ?_ ?_
 ·rintro i y σ H3 H4 D2 hi ⟨s3,no,u,v,w,rfl⟩ rfl s4 hD2 hr2
  have hi':i<n:=by omega
  walk_at "wp"
  simp only[dD];refine hJ ?_;walk_at "wp";refine⟨_,_,rfl,⟨by omega,by omega,by omega,by omega⟩,?_⟩;refine gu du (fun m σ H'=>aG H1 H'/\(∀b:Nat,i<b->b<i+1+m->sI rw0 i b=false)/\∃v w,σ=[some x,some (.ref l),some (.int n),some (.int i),v,w])
   ⟨s3.trans s4,fun b h1 h2=>absurd h2 (by omega),_,_,rfl⟩ (fun _ _ _ _ _=>trivial) ?_ ?_
  ·rintro m y σ H5 H6 D3 hm ⟨s5,no2,v,w,rfl⟩ rfl s6 hD3 hr3
   have hj:i+1+m<n:=by omega
   have ej:(i:Int)+1+(m:Int)=((i+1+m:Nat):Int):=by omega
   walk_at "wp"
   rw[ej];generalize hjj:i+1+m=j at hj no2⊢;have s7:aG H1 H6:=s5.trans s6;refine⟨_,_,g3,l,zs,i,j,H1,rfl,s7,tt,hx,pl i hi',pl j hj,fun f H7 s8=>?_,fun f H7 p s8 hp ep=>?_⟩
   ·show if(!decide (V.non=V.non))=true then _ else _
    rw[if_neg (by simp)];refine hD3 _ _ ⟨s7.trans s8,fun b h1 h2=>?_,_,_,rfl⟩;by_cases hb:b=j
    ·rw[hb,<-rows,<-B0]
     exact f
    ·exact no2 b h1 (by omega)
   ·show if(!decide (V.ref p=V.non))=true then _ else _
    rw[if_pos (by simp)];refine⟨short (by simp),fun a ha=>?_⟩;rw[hr3,hr2];refine qq _ _ (gr.trans (Gr.of (s7.trans (s8.trans (aA ha))))) (.inr ⟨i,j,a,p,rfl,⟨by omega,hj,by rw[<-rows,<-B0];exact f,fun a' b' h1 h2 h3=>?_⟩,ax,?_⟩)
    ·rcases h3 with h3|⟨rfl,h3⟩
     ·exact no a' b' h3 h1 h2
     ·exact no2 b' h1 (by omega)
    ·rw[aA ha _ _ ep,Gc f,rows]
  ·rintro σ H5 ⟨s5,no2,v,w,rfl⟩
   refine hD2 _ _ ⟨s5,fun a b h1 h2 h3=>?_,_,_,_,rfl⟩;by_cases ha:a=i
   ·subst ha
    exact no2 b h2 (by omega)
   ·exact no a b (by omega) h2 h3
 ·rintro σ H3 ⟨s3,no,u,v,w,rfl⟩
  unfold vt;walk_at "wp";exact qq H3 .non (gr.trans (Gr.of s3)) (.inl ⟨rfl,fun a b h1 h2=>no a b (by simp;omega) h1 h2⟩)
theorem uL{K:ae}{H:Hp}:∀ks:List Str,gE K H (ks.map D.str) (ks.map V.str)
 | []=>rfl
 |k::ks=>⟨_,_,rfl,rfl,uL ks⟩
theorem u9:∀ks:List Str,fF (ks.map D.str)=0
 | []=>rfl
 |k::ks=>by show max 0 (fF (ks.map D.str))=0;rw[u9 ks];rfl
theorem sj{α β:Type}{f:α->β}{ys:List α}(hf:∀a∈ys,∀b∈ys,f a=f b->a=b):∀{l m:List α},(∀a∈l,a∈ys)->(∀a∈m,a∈ys)->l.map f=m.map f->l=m
 | [],[],_,_,_=>rfl
 | [],_::_,_,_,e=>by simp at e
 |_::_,[],_,_,e=>by simp at e
 |a::l,b::m,h1,h2,e=>by
  rw[bB,bB]at e;injection e with e1 e2
  rw[hf a (h1 a (.head _)) b (h2 b (.head _)) e1,sj hf (fun x hx=>h1 x (.tail _ hx)) (fun x hx=>h2 x (.tail _ hx)) e2]
theorem Dm{α β:Type}{f:α->β}{ys:List α}(nd:(ys.map f).Nodup):∀a∈ys,∀b∈ys,f a=f b->a=b:=fun a ha b hb e=>by
 obtain⟨i,hi,rfl⟩:=eQ.mp ha;obtain⟨j,hj,rfl⟩:=eQ.mp hb;have e':(ys.map f)[i]'(by simpa using hi)=(ys.map f)[j]'(by simpa using hj):=by rw[dJ,dJ];exact e
 have :=(fk nd).mp e'
 subst this;rfl
section
variable {G:Gam}{K:ae}{C:Addr}{T:Tb}
structure Tb2(H:Hp)(t:Addr)(ys:List V)(rows:List (Str×List V))(n:Nat):Prop where
 et:H t=some (.lst ys)
 kn:Kn4 H (.ref t)
 tb:bO H (.ref t)=true
 ro:rowsOf H (.ref t)=rows
 ct:count H (.ref t)=n
theorem tb2_of{H:Hp}{c:Int}{n:Nat}{ys:List V}{t:Addr}(et:H t=some (.lst ys))(hyl:ys.length<=14)(hn:n<=8)(dr:Dr H (K21.nm c) n ys){T:Tb}(tt:Tab T H):
  ∀{H':Hp},Gr T H H'->Tb2 H' t ys (rowsOf H (.ref t)) (count H (.ref t)):=by
 intro H' g;have hnd:∀i j,i<ys.length->j<ys.length->K21.nm c i=K21.nm c j->i=j:=fun i j hi hj e=>K21.AA (by omega) (by omega) e;obtain⟨kn,tb,cp,ct⟩:=lU (K21.mI c) hnd et dr (by omega) (by omega);have dr':Dr H' (K21.nm c) n ys:=fun i y e=>by
  obtain⟨b,r,zs,h1,h2,h3,h4⟩:=dr i y e;exact⟨b,r,zs,h1,g.nU tt h2,g.nU tt h3,h4⟩
 have et':=g.lst tt et;obtain⟨kn',tb',cp',ct'⟩:=lU (K21.mI c) hnd et' dr' (by omega) (by omega);have hx:cn (H t)=some ys:=by rw[et];rfl
 have hx':cn (H' t)=some ys:=by rw[et'];rfl
 have ecd:∀y∈ys,cd H' y=cd H y:=fun y hy=>by
  obtain⟨i,e⟩:=bH.mp hy;obtain⟨b,r,zs,rfl,h2,h3,_⟩:=dr i y e;rw[jb (g.nU tt h2) (g.nU tt h3),jb h2 h3]
 have enm:ys.map (aE H')=ys.map (aE H):=bP fun y hy=>congrArg nN (ecd y hy);obtain⟨a',xs',ea,f1,f2,f3,f4,f5⟩:=cT tb;cases ea;rw[hx]at f1;cases f1;refine⟨et',kn',tb',?_,?_⟩
 ·unfold rowsOf
  rw[jC hx,jC hx',enm];have zp:(_root_.Q.sortBy V.non (ys.map (aE H)) ys).Perm ys:=_root_.Q.eG V.non f4 (by simp);exact bP fun y hy=>ecd y (zp.mem_iff.mp hy)
 ·cases ys with
  |nil=>
   show(match cn (H' t)with |some (y::_)=>bE H' y|_=>0)=(match cn (H t)with |some (y::_)=>bE H y|_=>0);rw[hx,hx']
  |cons y r=>
   show(match cn (H' t)with |some (y::_)=>bE H' y|_=>0)=(match cn (H t)with |some (y::_)=>bE H y|_=>0);rw[hx,hx'];show bE H' y=bE H y;rw[ct' y (.head _),ct y (.head _)]
end
end K22
namespace Q
open PySem PySem.Spec PySem.W PyProof.Rows L2
theorem uR{ns:List Int}(nd:ns.Nodup):(Aw ns).Perm (az ns.length):=by
 unfold Aw;split
 ·exact d4 _
 ·have P:=(fO (EK nd) (by omega)).1
  have :=gc.mp P.perm
  simpa using this
end Q
namespace M3
open PySem
theorem and_nat(m n:Nat):gY (m:Int) (n:Int)=((m&&& n:Nat):Int):=by
 unfold gY;simp
theorem xor_bit{a b:Int}(ha:a=0\/a=1)(hb:b=0\/b=1):jB a b=if a=b then 0 else 1:=by
 rcases ha with rfl|rfl<;>rcases hb with rfl|rfl<;>decide
noncomputable def num:List Bool->Nat->Nat
 | [],n=>n
 |b::bs,n=>num bs (n*2+b.toNat)
theorem yw:∀(bs:List Bool)(b:Bool)(n:Nat),num (bs++[b]) n=num bs n*2+b.toNat
 | [],_,_=>rfl
 |c::bs,b,n=>yw bs b _
end M3
namespace M4
open Q
noncomputable def bl(f:Nat->Int)(n:Nat)(P:Nat->Bool):List Int:=(az n).map fun p=>if P p=true then 1-f p else f p
theorem jo(f:Nat->Int)(n:Nat)(P:Nat->Bool):(bl f n P).length=n:=by simp[bl]
theorem vA{f:Nat->Int}{n:Nat}{P Q:Nat->Bool}(h:bl f n P=bl f n Q)(hf:∀p,p<n->f p=0\/f p=1){p:Nat}(hp:p<n):P p=Q p:=by
 have e:(bl f n P)[p]? =(bl f n Q)[p]? :=by rw[h]
 simp[bl,hp]at e;rcases hf p hp with z|z<;>cases hP:P p<;>cases hQ:Q p<;>simp[hP,hQ,z]at e⊢
noncomputable def sub(grp:Nat->Nat)(g p:Nat):Bool:=decide (grp p&&& g=g)
noncomputable def above(grp:Nat->Nat)(g p:Nat):Bool:=decide (grp p&&& g=g/\grp p≠g)
variable {f:Nat->Int}{n:Nat}{grp:Nat->Nat}(hf:∀p,p<n->f p=0\/f p=1)
include hf
theorem zt{p:Nat}(hp:p<n):bl f n (sub grp (grp p))≠bl f n fun _=>false:=fun h=>by
 have :=vA h hf hp
 simp[sub]at this
theorem zr{p q:Nat}(hp:p<n)(hq:q<n)(hne:grp p≠grp q):bl f n (sub grp (grp p))≠bl f n (sub grp (grp q)):=fun h=>by
 have a:=vA h hf hp;have b:=vA h hf hq;simp[sub]at a b;exact hne (by rw[<-b,Nat.and_comm,a])
theorem Hn{p q:Nat}(hp:p<n)(hq:q<n)(h1:bl f n (sub grp (grp p))=bl f n (above grp (grp q)))(h2:bl f n (sub grp (grp q))=bl f n (above grp (grp p))):False:=by
 have a:=vA h1 hf hp;have b:=vA h2 hf hq;simp[sub,above]at a b;exact a.2 (by rw[<-b.1,Nat.and_comm,a.1])
theorem Bp{p:Nat}(hp:p<n):bl f n (above grp (grp p))≠bl f n (sub grp (grp p)):=fun h=>by
 have :=vA h hf hp
 simp[sub,above]at this
noncomputable def lo(a b:List Int):List Int:=if llt b a=true then b else a
noncomputable def hi(a b:List Int):List Int:=if llt a b=true then b else a
omit hf in
theorem lohi{a b c d:List Int}(h1:lo a b=lo c d)(h2:hi a b=hi c d)(nab:a≠b)(ncd:c≠d):(a=c/\b=d)\/(a=d/\b=c):=by
 have t1:=qS (bz nab);have t2:=qS (bz ncd);unfold lo at h1;unfold hi at h2;rw[t1,t2]at h1;cases x:llt a b<;>cases y:llt c d<;>rw[x,y]at h1 h2<;>simp only[Bool.not_false,eB,if_true,aI,if_false]at h1 h2
 ·exact .inl ⟨h2,h1⟩
 ·exact .inr ⟨h2,h1⟩
 ·exact .inr ⟨h1,h2⟩
 ·exact .inl ⟨h1,h2⟩
theorem DY{p q:Nat}(hp:p<n)(hq:q<n)(hne:grp p≠grp q):
  lo (bl f n (above grp (grp p))) (bl f n (sub grp (grp p)))++hi (bl f n (above grp (grp p))) (bl f n (sub grp (grp p)))≠
  lo (bl f n (above grp (grp q))) (bl f n (sub grp (grp q)))++hi (bl f n (above grp (grp q))) (bl f n (sub grp (grp q))):=fun h=>by
 have len:∀P Q:Nat->Bool,(lo (bl f n P) (bl f n Q)).length=n:=fun P Q=>by unfold lo;split <;>exact jo _ _ _
 obtain⟨h1,h2⟩:=List.append_inj h ((len _ _).trans (len _ _).symm);rcases lohi h1 h2 (Bp hf hp) (Bp hf hq)with⟨_,z⟩ |⟨z1,z2⟩
 ·exact zr hf hp hq hne z
 ·exact Hn hf hp hq z2 z1.symm
end M4
namespace Q
open L2
theorem CY{ns:List Int}(nd:ns.Nodup):∃qs:List Int,sortI ns=qs.map V.int/\qs.Perm ns:=by
 refine⟨(Aw ns).map fun i=>ns.getD i 0,?_,?_⟩
 ·unfold sortI
  rw[dB];refine bP fun i hi=>?_;have hi':i<ns.length:=cC.mp ((uR nd).mem_iff.mp hi);show(ns.map V.int).getD i .non=V.int (ns.getD i 0);rw[aj,aj,aF,ag hi'];rfl
 ·have h:=(uR nd).map fun i=>ns.getD i 0
  rw[range_getD]at h;exact h
end Q
namespace M5
open M3 M4 Q L2
noncomputable def plc(n:Nat)(P:Nat->Bool):List Int:=((az n).filter P).map fun p:Nat=>(p:Int)
theorem qR{n:Nat}{P:Nat->Bool}{i:Nat}(h:i<n):(i:Int)∈plc n P↔P i=true:=by
 unfold plc;rw[aV];constructor
 ·rintro⟨p,hp,e⟩
  have :p=i:=by omega
  rw[<-this];exact(eO.mp hp).2
 ·intro e
  exact⟨i,eO.mpr ⟨cC.mpr h,e⟩,rfl⟩
noncomputable def trn(zs:List Int)(ms:List Int):List Int:=(az zs.length).map fun i:Nat=>if(i:Int)∈ms then 1-zs.getD i 0 else zs.getD i 0
theorem CU{zs:List Int}{P:Nat->Bool}:trn zs (plc zs.length P)=bl (fun p=>zs.getD p 0) zs.length P:=by
 unfold trn bl;refine bP fun i hi=>?_;have hi:=cC.mp hi;by_cases h:P i=true
 ·rw[if_pos ((qR hi).mpr h),if_pos h]
 ·rw[if_neg (fun z=>h ((qR hi).mp z)),if_neg h]
theorem bl_getD{f:Nat->Int}{n:Nat}{P:Nat->Bool}{i:Nat}(h:i<n):(bl f n P).getD i 0=if P i=true then 1-f i else f i:=by
 unfold bl;rw[aj,aF,cG h];rfl
theorem trn_bl{f:Nat->Int}{n:Nat}{S E:Nat->Bool}(h:∀p,E p=true->S p=true):trn (bl f n S) (plc n E)=bl f n fun p=>S p&& !E p:=by
 unfold trn;rw[jo];refine bP fun i hi=>?_;have hi:=cC.mp hi;rw[bl_getD hi];show _=if(S i&& !E i)=true then 1-f i else f i
 cases hE:E i with
 |true=>
  rw[if_pos ((qR hi).mpr hE),h i hE,if_pos rfl];show 1-(1-f i)=if(true&& !true)=true then _ else f i
  rw[if_neg (by simp)];omega
 |false=>
  rw[if_neg (fun z=>by rw[(qR hi).mp z]at hE;cases hE)];cases S i<;>rfl
theorem Hd(zs:List Int):bl (fun p=>zs.getD p 0) zs.length (fun _=>false)=zs:=by
 unfold bl;apply cU
 ·simp
 ·intro i h1 h2
  simp[h2]
noncomputable def own(grp:Nat->Nat)(g p:Nat):Bool:=decide (grp p=g)
theorem own_sub{grp:Nat->Nat}{g p:Nat}(h:own grp g p=true):sub grp g p=true:=by
 have :grp p=g:=of_decide_eq_true h;refine decide_eq_true ?_;rw[this];exact Nat.and_self g
theorem HH(grp:Nat->Nat)(g:Nat):(fun p=>sub grp g p&& !own grp g p)=above grp g:=by
 funext p
 unfold sub own above;by_cases h1:grp p&&& g=g<;>by_cases h2:grp p=g<;>simp[h1,h2]
noncomputable def nB(f:Nat->Int)(n:Nat)(grp:Nat->Nat)(q:Int):List Int:=bl f n (sub grp q.toNat)
noncomputable def nA(f:Nat->Int)(n:Nat)(grp:Nat->Nat)(q:Int):List Int:=bl f n (above grp q.toNat)
noncomputable def je(f:Nat->Int)(n:Nat)(grp:Nat->Nat)(qs:List Int):List (List Int):=bl f n (fun _=>false)::qs.map (nB f n grp)
noncomputable def brK(f:Nat->Int)(n:Nat)(grp:Nat->Nat)(qs:List Int):List (List Int×List Int):=qs.map fun q=>(lo (nA f n grp q) (nB f n grp q),hi (nA f n grp q) (nB f n grp q))
noncomputable def Grs(n:Nat)(grp:Nat->Nat)(qs:List Int):Prop:=qs.Nodup/\∀q∈qs,∃p,p<n/\q=(grp p:Int)
section
variable {f:Nat->Int}{n:Nat}{grp:Nat->Nat}{qs:List Int}(hf:∀p,p<n->f p=0\/f p=1)(hq:Grs n grp qs)
include hf hq
theorem Gs{β:Type}{F:Int->β}(h:∀p q,p<n->q<n->grp p≠grp q->F (grp p:Int)≠F (grp q:Int)):(qs.map F).Nodup:=by
 refine kX.mpr ?_;have p:List.Pairwise (fun a b=>a≠b) qs:=hq.1;refine(List.Pairwise.and_mem.mp p).imp ?_;rintro a b ⟨ha,hb,hne⟩;obtain⟨x,hx,rfl⟩:=hq.2 a ha;obtain⟨y,hy,rfl⟩:=hq.2 b hb;exact h x y hx hy (fun e=>hne (by rw[e]))
theorem Ga:(je f n grp qs).Nodup:=by
 unfold je;refine cS.mpr ⟨fun z=>?_,Gs hf hq fun p q hp hq' hne=>?_⟩
 ·obtain⟨q,hq',e⟩:=aV.mp z
  obtain⟨p,hp,rfl⟩:=hq.2 q hq';exact zt hf hp (by unfold nB at e;rw[aR]at e;exact e)
 ·unfold nB
  rw[aR,aR];exact zr hf hp hq' hne
theorem brK_nd:((brK f n grp qs).map mF).Nodup:=by
 unfold brK;rw[dB];refine Gs hf hq fun p q hp hq' hne=>?_;show lo (nA f n grp (grp p:Int)) (nB f n grp (grp p:Int))++hi (nA f n grp (grp p:Int)) (nB f n grp (grp p:Int))≠lo (nA f n grp (grp q:Int)) (nB f n grp (grp q:Int))++hi (nA f n grp (grp q:Int)) (nB f n grp (grp q:Int));unfold nA nB;rw[aR,aR];exact DY hf hp hq' hne
end
theorem Dp{f:Nat->Int}{n:Nat}{grp:Nat->Nat}{qs:List Int}:∀k∈je f n grp qs,k.length=n:=fun k hk=>by
 rcases aC.mp hk with rfl|hk
 ·exact jo _ _ _
 ·obtain⟨q,_,rfl⟩:=aV.mp hk
  exact jo _ _ _
theorem lo_len{a b:List Int}{n:Nat}(ha:a.length=n)(hb:b.length=n):(lo a b).length=n:=by unfold lo;split <;>assumption
theorem hi_len{a b:List Int}{n:Nat}(ha:a.length=n)(hb:b.length=n):(hi a b).length=n:=by unfold hi;split <;>assumption
theorem brK_len{f:Nat->Int}{n:Nat}{grp:Nat->Nat}{qs:List Int}:∀k∈brK f n grp qs,k.1.length=n/\k.2.length=n:=fun k hk=>by
 obtain⟨q,_,rfl⟩:=aV.mp hk;exact⟨lo_len (jo _ _ _) (jo _ _ _),hi_len (jo _ _ _) (jo _ _ _)⟩
theorem BY{n:Nat}{grp:Nat->Nat}{qs:List Int}(h:Grs n grp qs):qs.length<=n:=by
 have e:qs.length<=((az n).map fun p:Nat=>(grp p:Int)).length:=by
  refine List.Nodup.length_le_of_subset h.1 fun q hq=>?_;obtain⟨p,hp,rfl⟩:=h.2 q hq;exact aV.mpr ⟨p,cC.mpr hp,rfl⟩
 simpa using e
end M5
namespace K32
open PySem R
noncomputable def Av:List Str:=["copies","place"]
noncomputable def se:List Str:=["copies","place","first","group","name","readings"]
noncomputable def oS:CB:=
  (.cons (.ret (.var 3))
  .nil)
noncomputable def oU:CB:=
  (.cons (.forr (.tup (.cons (.name 4) (.cons (.name 5) .nil))) (.seq (.var 0))
  (.cons (.asg (.name 3) (.bin .Add (.bin .Mult (.var 3) (.con (.int 2))) (.bin .BitXor (.idx (.var 5) (.var 1)) (.var 2))))
  .nil))
  oS)
noncomputable def oV:CB:=
  (.cons (.asg (.name 3) (.con (.int 0)))
  oU)
noncomputable def tw:CB:=
  (.cons (.asg (.name 2) (.idx (.idx (.idx (.var 0) (.con (.int 0))) (.con (.int 1))) (.var 1)))
  oV)
noncomputable def F5:List Str:=["readings","places"]
noncomputable def yB:List Str:=["readings","places"]
noncomputable def zh:CB:=
  (.cons (.ret (.bfn .tuple (.cons (.comp ["place","reading"] [1] (.tup (.cons (.name 0) (.cons (.name 1) .nil))) (.enumt (.var 0)) .no (.ite (.cmp .In (.var 0) (.var 2)) (.bin .Sub (.con (.int 1)) (.var 1)) (.var 1))) .nil)))
  .nil)
noncomputable def p_grown:List Str:=["copies"]
noncomputable def BK:List Str:=["copies","first","groups","nodes","branches","group","places","around","below","above"]
noncomputable def vm:CB:=
  (.cons (.ret (.tup (.cons (.bfn .sortl (.cons (.var 3) .nil)) (.cons (.bfn .sortt (.cons (.var 4) .nil)) .nil))))
  .nil)
noncomputable def l7:CB:=
  (.cons (.expr (.meth1 .append (.var 4) (.tup (.cons (.bfn .minl (.cons (.var 9) (.cons (.var 8) .nil))) (.cons (.bfn .maxl (.cons (.var 9) (.cons (.var 8) .nil))) (.cons (.bfn .tuple (.cons (.var 6) .nil)) .nil))))))
  .nil)
noncomputable def l8:CB:=
  (.cons (.expr (.meth1 .append (.var 3) (.var 8)))
  l7)
noncomputable def qr:CB:=
  (.cons (.asg (.name 9) (.call "turned" (.cons (.var 8) (.cons (.var 6) .nil))))
  l8)
noncomputable def l9:CB:=
  (.cons (.asg (.name 8) (.call "turned" (.cons (.var 1) (.cons (.var 7) .nil))))
  qr)
noncomputable def qt:CB:=
  (.cons (.asgc 7 (.comp ["place"] [5,2] (.name 0) (.range1 (.bfn .len (.cons (.var 1) .nil))) (.yes (.cmp .Eq (.bin .BitAnd (.idx (.var 2) (.var 0)) (.var 1)) (.var 1))) (.var 0)))
  l9)
noncomputable def ma:CB:=
  (.cons (.asgc 6 (.comp ["place"] [5,2] (.name 0) (.range1 (.bfn .len (.cons (.var 1) .nil))) (.yes (.cmp .Eq (.idx (.var 2) (.var 0)) (.var 1))) (.var 0)))
  qt)
noncomputable def vn:CB:=
  (.cons (.forr (.name 5) (.lseq (.sortset (.var 2)))
  (.cons (.iff (.cmp .Eq (.var 5) (.con (.int 0)))
  (.cons (.cont)
  .nil)
  .nil)
  ma))
  vm)
noncomputable def vo:CB:=
  (.cons (.asg (.name 4) (.lst .nil))
  vn)
noncomputable def vp:CB:=
  (.cons (.asg (.name 3) (.lst (.cons (.var 1) .nil)))
  vo)
noncomputable def vq:CB:=
  (.cons (.asgc 2 (.comp ["place"] [0] (.name 0) (.range1 (.bfn .len (.cons (.var 1) .nil))) .no (.call "group_at" (.cons (.var 1) (.cons (.var 0) .nil)))))
  vp)
noncomputable def Cf:CB:=
  (.cons (.asg (.name 1) (.idx (.idx (.var 0) (.con (.int 0))) (.con (.int 1))))
  vq)
end K32
namespace K32
open PySem PySem.Spec PyProof.Rows L2 R Cp Lt Kc K21 K22 Lm M3 M4 M5
theorem wj{n:Nat}(h:n<=63):n<=sizeLine:=aX h (by decide)
theorem lt60{n:Nat}(h:n<=63):n<sizeLine:=cy h (by decide)
theorem xor_ii{K:ae}{i j:Int}{H:Hp}{Q:VK}:iy K .BitXor (.int i) (.int j) H Q↔Q (.int (jB i j)) H:=by simp[iy,rI0]
theorem and_ii{K:ae}{i j:Int}{H:Hp}{Q:VK}:iy K .BitAnd (.int i) (.int j) H Q↔Q (.int (gY i j)) H:=by simp[iy,rI0]
theorem in_ints(a:Int)(l:List Int):inV (V.int a) (l.map V.int)=decide (a∈l):=by
 unfold inV;rw[Cw,js,cE,decide_eq_true_eq];constructor
 ·rintro⟨x,hx,e⟩
  have :x=a:=by simpa[eqV]using e
  rw[<-this];exact hx
 ·intro h
  exact⟨a,h,by simp[eqV]⟩
theorem DL(ms:List Int):(ms.map V.int).all mM=true:=by
 rw[bK];intro v hv;obtain⟨m,_,rfl⟩:=aV.mp hv;rfl
theorem C3{K:ae}{a:Addr}{xs:List V}:tG (Itet K a) xs.length (fun i x H=>∃p v,x=.ref p/\H p=some (.tup [.int i,v])/\xs[i]? =some v) (fun H=>SqT K H a xs) where
 go:=fun i H h hi=>⟨xs,xs[i],h,by simp[hi]⟩
 stop:=fun i H h hi=>⟨xs,h,hi⟩
 yld:=fun i H x H' h hi y=>by
  obtain⟨p,v,hp,e,ex,y⟩:=y;subst e ex;exact⟨⟨p,v,rfl,ax,y xs h⟩,aA hp⟩
theorem jF{zs:List Int}{i:Nat}(h:i<zs.length):(zs.map V.int)[i]? =some (.int (zs.getD i 0)):=by
 rw[aF,ag h,aj,ag h];rfl
structure Cps(H:Hp)(c:Addr)(ys:List V)(n:Nat)(rows:List (List Int)):Prop where
 ec:H c=some (.lst ys)
 len:ys.length<=40
 rl:rows.length=ys.length
 n60:n<=60
 at_:∀(i:Nat) y,ys[i]? =some y->∃b z r,y=.ref b/\H b=some (.tup [.str z,.ref r])/\H r=some (.tup ((rows.getD i []).map V.int))
 rd:∀zs∈rows,zs.length=n/\∀x∈zs,x=0\/x=1
theorem Cps.same{H H':Hp}{c:Addr}{ys:List V}{n:Nat}{rows:List (List Int)}(d:Cps H c ys n rows)(s:aG H H'):Cps H' c ys n rows:=
 {d with ec:=s _ _ d.ec,at_:=fun i y e=>let⟨b,z,r,h1,h2,h3⟩:=d.at_ i y e;⟨b,z,r,h1,s _ _ h2,s _ _ h3⟩}
theorem Cps.row{H:Hp}{c:Addr}{ys:List V}{n:Nat}{rows:List (List Int)}(d:Cps H c ys n rows){i:Nat}(hi:i<ys.length):(rows.getD i []).length=n/\∀p,p<n->(rows.getD i []).getD p 0=0\/(rows.getD i []).getD p 0=1:=by
 have hi':i<rows.length:=by rw[d.rl];exact hi
 have e:rows.getD i []=rows[i]:=by rw[aj,ag hi'];rfl
 obtain⟨h1,h2⟩:=d.rd rows[i] (bq hi');rw[e];refine⟨h1,fun p hp=>h2 _ ?_⟩;rw[aj,ag (by omega)];exact bq _
noncomputable def fr(rows:List (List Int))(p:Nat):Int:=(rows.getD 0 []).getD p 0
noncomputable def bt(rows:List (List Int))(p:Nat)(r:List Int):Bool:= !decide (r.getD p 0=fr rows p)
noncomputable def grp(rows:List (List Int))(p:Nat):Nat:=M3.num (rows.map (bt rows p)) 0
noncomputable def vX:Sp:=fun vs H Q _=>∃(c:Addr)(p:Nat)(ys:List V)(n:Nat)(rows:List (List Int)),vs=[.ref c,.int p]/\Cps H c ys n rows/\ys≠[]/\p<n/\∀H',aG H H'->Q (.int (grp rows p)) H'
theorem EB{G:Gam}{K:ae}:Sat G K vX tw se:=by
 rintro vs H Q E ⟨c,p,ys,n,rows,rfl,d,hy,hp,q⟩;unfold tw;change wpB G K _ _ _ [some (.ref c),some (.int p),none,none,none,none] H;walk_at "wp";have h0:0<ys.length:=cX.mpr hy;obtain⟨b,z,r,e1,e2,e3⟩:=d.at_ 0 ys[0] (ag h0);obtain⟨r1,r2⟩:=d.row h0;have g0:ys[0]? =some (.ref b):=by rw[ag h0,e1]
 refine .inl ⟨c,ys,0,_,rfl,rfl,SqL.of d.ec,cH (j:=0) g0,?_⟩;refine .inr (.inl ⟨b,_,1,_,rfl,rfl,SqT.of e2,rfl,?_⟩);refine .inr (.inl ⟨r,_,p,_,rfl,rfl,SqT.of e3,cH (jF (by omega)),?_⟩);unfold oV;walk_at "wp";unfold oU;walk_at "wp";refine hJ (dS rfl (SqL.of d.ec) (gu fN (fun k σ H'=>aG H H'/\∃u v,σ=[some (.ref c),some (.int p),some (.int (fr rows p)),some (.int (M3.num ((rows.take k).map (bt rows p)) 0:Nat)),u,v])
  ⟨aG.refl _,none,none,rfl⟩ (fun k σ H' _ s=>s.1.seq (SqL.of d.ec)) ?_ ?_))
 ·rintro k y σ H1 H2 D2 hk ⟨s1,u,v,rfl⟩ hy' s2 hD _
  obtain⟨b',z',r',rfl,f2,f3⟩:=d.at_ k y hy';have s3:=s1.trans s2;obtain⟨t1,t2⟩:=d.row hk;have hk':k<rows.length:=by rw[d.rl];exact hk
  refine⟨b',_,rfl,SqT.of (s3 _ _ f2),rfl,_,_,rfl,_,_,rfl,rfl,?_⟩;walk_at "wp";refine⟨B8 (by decide) (by decide),.inr (.inl ⟨r',_,p,_,rfl,rfl,SqT.of (s3 _ _ f3),cH (jF (by omega)),?_⟩)⟩;refine xor_ii.mpr (HG.mpr ?_);rw[show jB ((rows.getD k []).getD p 0) (fr rows p)=if(rows.getD k []).getD p 0=(rows.getD 0 []).getD p 0 then 0 else 1 from xor_bit (t2 p hp) (r2 p hp)];have et:rows.take (k+1)=rows.take k++[rows.getD k []]:=by
   rw[dU,aj,ag hk'];rfl
  have eb:(if(rows.getD k []).getD p 0=(rows.getD 0 []).getD p 0 then(0:Int)else 1)=((bt rows p (rows.getD k [])).toNat:Int):=by
   unfold bt fr;by_cases h:(rows.getD k []).getD p 0=(rows.getD 0 []).getD p 0
   ·rw[if_pos h,decide_eq_true h];rfl
   ·rw[if_neg h,decide_eq_false h];rfl
  have e4:((M3.num ((rows.take k).map (bt rows p)) 0:Nat):Int)*2+((bt rows p (rows.getD k [])).toNat:Int)=((M3.num ((rows.take (k+1)).map (bt rows p)) 0:Nat):Int):=by
   rw[et,de,bB,jM,yw];push_cast;rfl
  rw[eb,e4];exact hD _ _ ⟨s3,_,_,rfl⟩
 ·rintro σ H1 ⟨s1,u,v,rfl⟩
  unfold oS;walk_at "wp";rw[<-d.rl,fj];exact q H1 s1
noncomputable def lE(K:ae):Sp:=fun vs H Q _=>∃(r b:Addr)(zs ms:List Int),vs=[.ref r,.ref b]/\SqT K H r (zs.map V.int)/\SqL K H b (ms.map V.int)/\zs.length<=60/\
 ∀(H':Hp)(p:Addr),aG H H'->H p=none->H' p=some (.tup ((trn zs ms).map V.int))->Q (.ref p) H'
theorem Cz{G:Gam}{K:ae}:Sat G K (lE K) zh yB:=by
 rintro vs H Q E ⟨r,b,zs,ms,rfl,hr,hb,hl,q⟩;unfold zh;change wpB G K _ _ _ [some (.ref r),some (.ref b)] H;walk_at "wp";refine d8 ⟨_,rfl,r,rfl,⟨_,hr⟩,?_⟩;refine dZ C3 (wj (by rw[ao];omega)) (fun H3 s3=>s3.tup hr) (fun i v _=>v=.int (if(i:Int)∈ms then 1-zs.getD i 0 else zs.getD i 0)) (fun _ _ _ _ _ h=>h) (fun τ=>∃u v,τ=[u,v,some (.ref b)]) ⟨none,none,rfl⟩ ?_ ?_
 ·rintro i x τ H3 R hi ⟨u,v,rfl⟩ s3 ⟨p,v,rfl,hp,hv⟩ k
  rw[ao]at hi;rw[jF hi]at hv;cases hv;refine⟨p,_,rfl,SqT.of hp,rfl,_,_,rfl,_,_,rfl,rfl,?_⟩;walk_at "wp";refine .inr ⟨b,_,rfl,.inl (s3.seq hb),rfl,DL ms,_,rfl,?_⟩;show if inV (V.int (i:Int)) (ms.map V.int)=true then _ else _
  rw[in_ints];by_cases h:(i:Int)∈ms
  ·rw[decide_eq_true h,if_pos rfl]
   exact k _ _ _ ⟨_,_,rfl⟩ (aG.refl _) (by rw[if_pos h])
  ·rw[decide_eq_false h,if_neg aq]
   exact k _ _ _ ⟨_,_,rfl⟩ (aG.refl _) (by rw[if_neg h])
 ·intro vs H2 l hvl hF s2 hl2
  rw[ao]at hvl;have e:vs=(trn zs ms).map V.int:=by
   unfold trn;apply kY;intro i;rw[aF,aF];by_cases hi:i<vs.length
   ·rw[ag hi,cG (by omega),hF i _ (ag hi)]
    rfl
   ·rw[dc (by omega),dc (by rw[cJ];omega)]
    rfl
  rw[e];exact⟨l,_,rfl,.inl ⟨SqL.of ax,fun p hp=>q _ p (s2.trans ((aA hl2).trans (aA hp))) ((s2.trans (aA hl2)).free hp) ax⟩⟩
theorem G8{J:It}{n:Nat}{it:Nat->V->Hp->Prop}{Hc:Hp->Prop}{g:TG}{tb:TS}{D:Ends}{σ:L2.St}{H:Hp}(S:tG J n it Hc)(Pv:Nat->L2.St->Hp->Prop)(h0:Pv 0 σ H)(hl:∀i σ H,i<=n->Pv i σ H->Hc H)
  (hs:∀i x σ H H' (D2:Ends),i<n->Pv i σ H->it i x H'->aG H H'->(∀σ2 H2,Pv (i+1) σ2 H2->D2.nx σ2 H2)->(∀σ2 H2,Pv (i+1) σ2 H2->D2.ct σ2 H2)->g x σ H' fun σ2 H2=>tb D2 σ2 H2)(hd:∀σ H,Pv n σ H->D.nx σ H):ForB J g tb D σ H:=
 B1 S Pv h0 hl (fun i x σ H H' a b c d=>hs i x σ H H' _ a b c d (fun _ _ h=>h) (fun _ _ h=>h)) hd
theorem Fb{n:Nat}:tG (Itr 0 n) (nats n).length (fun i x _=>(nats n)[i]? =some x) (fun _=>True) where
 go:=fun i H h hi=>du.go i H h (by simpa[nats]using hi)
 stop:=fun i H h hi=>du.stop i H h (by simpa[nats]using hi)
 yld:=fun i H x H' h hi y=>by
  have hi':i<n:=by simpa[nats]using hi
  obtain⟨e,s⟩:=du.yld i H x H' h hi' y;refine⟨?_,s⟩;subst e;unfold nats;rw[aF,cG hi',dD];rfl
theorem Dq{n:Nat}{t:V->Bool}{P:Nat->Bool}(h:∀p,p<n->t (.int p)=P p):((nats n).filter t).map id=(plc n P).map V.int:=by
 unfold nats plc;rw[List.map_id,List.filter_map,dB];rw[show(az n).filter (t∘fun i:Nat=>V.int (i:Int))=(az n).filter P from List.filter_congr fun p hp=>h p (cC.mp hp)];rfl
theorem Paired.snoc{α β:Type}{F:α->β->Prop}{a:α}{b:β}(h:F a b){l:List α}{m:List β}(p:Paired F l m):Paired F (l++[a]) (m++[b]):=by
 induction p with
 |nil=>exact .cons h .nil
 |cons x r ih=>exact .cons x ih
noncomputable def Tk(H H':Hp):Prop:=∀a xs,H a=some (.tup xs)->H' a=some (.tup xs)
theorem Tk.of{H H':Hp}(s:aG H H'):Tk H H':=fun a _ e=>s a _ e
theorem EL{H:Hp}{a:Addr}{xs ys:List V}(h:H a=some (.lst xs)):Tk H (upd H a (.lst ys)):=fun b _ e=>by
 rw[aL (fun z=>by rw[z,h]at e;cases e)];exact e
theorem nF{H H':Hp}(t:Tk H H'){ys:List V}{ps:List (List Int)}(h:_root_.Q.IntKeys H ys ps):_root_.Q.IntKeys H' ys ps:=Paired.Dy h fun v k z=>by
 obtain⟨a,e,f⟩:=z;exact⟨a,e,t _ _ f⟩
noncomputable def BrOf(f:Nat->Int)(n:Nat)(g:Nat->Nat)(H:Hp)(v:V)(q:Int):Prop:=∃a x y z,v=V.ref a/\H a=some (.tup [.ref x,.ref y,.ref z])/\H x=some (.tup ((lo (nA f n g q) (nB f n g q)).map V.int))/\H y=some (.tup ((hi (nA f n g q) (nB f n g q)).map V.int))/\H z=some (.tup ((plc n (own g q.toNat)).map V.int))
noncomputable def kT(f:Nat->Int)(n:Nat)(g:Nat->Nat)(H:Hp)(bs:List V)(qs:List Int):Prop:=Paired (BrOf f n g H) bs qs
theorem kT.tk{f:Nat->Int}{n:Nat}{g:Nat->Nat}{H H':Hp}(t:Tk H H'){bs:List V}{qs:List Int}(h:kT f n g H bs qs):kT f n g H' bs qs:=Paired.Dy h fun v k w=>by
 obtain⟨a,x,y,z,e,e1,e2,e3,e4⟩:=w;exact⟨a,x,y,z,e,t _ _ e1,t _ _ e2,t _ _ e3,t _ _ e4⟩
theorem kT.two{f:Nat->Int}{n:Nat}{g:Nat->Nat}{H:Hp}{bs:List V}{qs:List Int}(h:kT f n g H bs qs):_root_.Q.kC H bs (brK f n g qs):=by
 unfold kT at h
 induction h with
 |nil=>exact .nil
 |cons x r ih=>
  obtain⟨a,x,y,z,e,e1,e2,e3,_⟩:=x;exact .cons ⟨a,x,y,_,e,e1,e2,e3⟩ ih
theorem jc{α β:Type}{F:α->β->Prop}{l:List α}{m:List β}(h:Paired F l m):m.length=l.length:=by
 induction h with
 |nil=>rfl
 |cons _ _ ih=>simp[ih]
noncomputable def gsI(rows:List (List Int))(n:Nat):List Int:=(az n).map fun p:Nat=>(grp rows p:Int)
theorem wY{rows:List (List Int)}{n:Nat}:(gsI rows n).length=n:=by simp[gsI]
theorem G5{rows:List (List Int)}{n p:Nat}(h:p<n):(gsI rows n).getD p 0=(grp rows p:Int):=by
 unfold gsI;rw[aj,aF,cG h];rfl
noncomputable def dn(qs:List Int)(k:Nat):List Int:=(qs.take k).filter fun q=> !decide (q=0)
theorem dn_zero{qs:List Int}{k:Nat}(h:qs[k]? =some 0):dn qs (k+1)=dn qs k:=by
 unfold dn;rw[dU,h,kc];simp
theorem B6{qs:List Int}{k:Nat}{q:Int}(h:qs[k]? =some q)(qne:q≠0):dn qs (k+1)=dn qs k++[q]:=by
 unfold dn;rw[dU,h,kc];simp[qne]
theorem Hk{qs:List Int}{k n:Nat}{g:Nat->Nat}(h:Grs n g qs):Grs n g (dn qs k):=by
 have s:(dn qs k).Sublist qs:=ph.trans (qX k qs);exact⟨h.1.sublist s,fun q hq=>h.2 q (s.subset hq)⟩
theorem Hj{qs:List Int}{k n:Nat}{g:Nat->Nat}(h:Grs n g qs):(dn qs k).length<=n:=BY (Hk h)
structure Fx(H:Hp)(gl nd br so:Addr):Prop where
 fnd:H nd=none
 fbr:H br=none
 n1:nd≠br
 n2:nd≠gl
 n3:nd≠so
 n4:br≠gl
 n5:br≠so
structure Gx(rows:List (List Int))(n:Nat)(qs:List Int)(H:Hp)(gl nd br so:Addr)(ds:List Int)(ks bs:List V)(H':Hp):Prop where
 s:aG H H'
 eg:H' gl=some (.lst ((gsI rows n).map V.int))
 eo:H' so=some (.lst (qs.map V.int))
 en:H' nd=some (.lst ks)
 eb:H' br=some (.lst bs)
 nk:_root_.Q.IntKeys H' ks (je (fr rows) n (grp rows) ds)
 bk:kT (fr rows) n (grp rows) H' bs ds
section
variable {rows:List (List Int)}{n:Nat}{qs:List Int}{H:Hp}{gl nd br so c r0:Addr}{ds:List Int}{ks bs:List V}{H':Hp}{G:Gam}{K:ae}{E:XS}{D:Ends}
theorem Gx.same{H2:Hp}(g:Gx rows n qs H gl nd br so ds ks bs H')(s:aG H' H2):Gx rows n qs H gl nd br so ds ks bs H2:=
 ⟨g.s.trans s,s _ _ g.eg,s _ _ g.eo,s _ _ g.en,s _ _ g.eb,nF (Tk.of s) g.nk,g.bk.tk (Tk.of s)⟩
theorem Gx.ksl(g:Gx rows n qs H gl nd br so ds ks bs H'):ks.length=ds.length+1:=by
 have :=jc g.nk
 simpa[je]using this.symm
theorem Gx.bsl(g:Gx rows n qs H gl nd br so ds ks bs H'):bs.length=ds.length:=(jc g.bk).symm
noncomputable def Gv(rows:List (List Int))(n:Nat)(qs:List Int)(H:Hp)(c r0 gl nd br so:Addr)(k:Nat)(σ:L2.St)(H':Hp):Prop:=
 (∃ks bs,Gx rows n qs H gl nd br so (dn qs k) ks bs H')/\∃u v w x y,σ=[some (.ref c),some (.ref r0),some (.ref gl),some (.ref nd),some (.ref br),u,v,w,x,y]
theorem Az{f:Nat->Int}{g:Nat->Nat}{q:Int}:je f n g (ds++[q])=je f n g ds++[nB f n g q]:=by simp[je]
theorem pick{p:Prop}[Decidable p]{x y:Addr}{A B:List Int}(hx:H x=some (.tup (A.map V.int)))(hy:H y=some (.tup (B.map V.int))):∃z,(if p then V.ref y else V.ref x)=V.ref z/\H z=some (.tup ((if p then B else A).map V.int)):=by
 split
 ·exact⟨y,rfl,hy⟩
 ·exact⟨x,rfl,hx⟩
theorem vM(F:Fx H gl nd br so)(hn:n<=60)(hq:Grs n (grp rows) qs){k:Nat}{q:Int}(hk:qs[k]? =some q)(h0:q≠0)(hD:∀σ2 H2,Gv rows n qs H c r0 gl nd br so (k+1) σ2 H2->D.nx σ2 H2){pl ar be ab:Addr}
  (s:aG H H')(eg:H' gl=some (.lst ((gsI rows n).map V.int)))(eo:H' so=some (.lst (qs.map V.int)))(en:H' nd=some (.lst ks))(er:H' br=some (.lst bs))(nk:_root_.Q.IntKeys H' ks (je (fr rows) n (grp rows) (dn qs (k+1))))(bk:kT (fr rows) n (grp rows) H' bs (dn qs k))
  (ep:H' pl=some (.lst ((plc n (own (grp rows) q.toNat)).map V.int)))(eb:H' be=some (.tup ((nB (fr rows) n (grp rows) q).map V.int)))(ea:H' ab=some (.tup ((nA (fr rows) n (grp rows) q).map V.int))):
  wpB G K E l7 D [some (.ref c),some (.ref r0),some (.ref gl),some (.ref nd),some (.ref br),some (.int q),some (.ref pl),some (.ref ar),some (.ref be),some (.ref ab)] H':=by
 have hdn:(dn qs k).length<=n:=Hj hq;have hbl:=jc bk;unfold l7;walk_at "wp";have hlen:(nA (fr rows) n (grp rows) q).length=(nB (fr rows) n (grp rows) q).length:=(jo _ _ _).trans (jo _ _ _).symm;obtain⟨x,ex,hx⟩:=pick (p:=_root_.Q.llt (nB (fr rows) n (grp rows) q) (nA (fr rows) n (grp rows) q)=true) ea eb;obtain⟨y,ey,hy⟩:=pick (p:=_root_.Q.llt (nA (fr rows) n (grp rows) q) (nB (fr rows) n (grp rows) q)=true) ea eb;refine⟨.inl ⟨rfl,_,SqL.of er⟩,ab,be,_,_,rfl,SqT.of ea,SqT.of eb,hlen,ab,be,_,_,rfl,SqT.of ea,SqT.of eb,hlen,?_⟩;rw[ex,ey];refine⟨pl,_,rfl,.inl ⟨SqL.of ep,fun z hz=>⟨short (by simp),fun a ha=>?_⟩⟩⟩;have s1:aG H' (upd (upd H' z (.tup ((plc n (own (grp rows) q.toNat)).map V.int))) a (.tup [.ref x,.ref y,.ref z])):=(aA hz).trans (aA ha);have e1:upd (upd H' z (.tup ((plc n (own (grp rows) q.toNat)).map V.int))) a (.tup [.ref x,.ref y,.ref z]) a=some (.tup [.ref x,.ref y,.ref z]):=ax;have e2:upd (upd H' z (.tup ((plc n (own (grp rows) q.toNat)).map V.int))) a (.tup [.ref x,.ref y,.ref z]) z=some (.tup ((plc n (own (grp rows) q.toNat)).map V.int)):=aA ha _ _ ax;generalize upd (upd H' z (.tup ((plc n (own (grp rows) q.toNat)).map V.int))) a (.tup [.ref x,.ref y,.ref z])=H1 at s1 e1 e2⊢;have er1:=s1 _ _ er;refine⟨br,bs,_,rfl,rfl,er1,lt60 (by omega),hD _ _ ⟨⟨ks,bs++[.ref a],?_⟩,_,_,_,_,_,rfl⟩⟩;have t1:Tk H1 (upd H1 br (.lst (bs++[V.ref a]))):=EL er1;have t2:Tk H' (upd H1 br (.lst (bs++[V.ref a]))):=fun b xs e=>t1 b xs (s1 _ _ e);refine⟨fm (s.trans s1) F.fbr,?_,?_,?_,ax,nF t2 nk,?_⟩
 ·rw[aL (bz F.n4)];exact s1 _ _ eg
 ·rw[aL (bz F.n5)];exact s1 _ _ eo
 ·rw[aL F.n1];exact s1 _ _ en
 ·rw[B6 hk h0]
  exact Paired.snoc ⟨a,x,y,z,rfl,t1 _ _ e1,t2 _ _ hx,t2 _ _ hy,t1 _ _ e2⟩ (bk.tk t2)
theorem vN(F:Fx H gl nd br so)(hn:n<=60)(hq:Grs n (grp rows) qs){k:Nat}{q:Int}(hk:qs[k]? =some q)(h0:q≠0)(hD:∀σ2 H2,Gv rows n qs H c r0 gl nd br so (k+1) σ2 H2->D.nx σ2 H2){pl ar be ab:Addr}
  (g:Gx rows n qs H gl nd br so (dn qs k) ks bs H')(np:pl≠nd)(ep:H' pl=some (.lst ((plc n (own (grp rows) q.toNat)).map V.int)))(eb:H' be=some (.tup ((nB (fr rows) n (grp rows) q).map V.int)))(ea:H' ab=some (.tup ((nA (fr rows) n (grp rows) q).map V.int))):
  wpB G K E l8 D [some (.ref c),some (.ref r0),some (.ref gl),some (.ref nd),some (.ref br),some (.int q),some (.ref pl),some (.ref ar),some (.ref be),some (.ref ab)] H':=by
 have hdn:(dn qs k).length<=n:=Hj hq;have hkl:=g.ksl;unfold l8;walk_at "wp";refine⟨.inl ⟨rfl,_,SqL.of g.en⟩,nd,ks,_,rfl,rfl,g.en,lt60 (by omega),?_⟩;have t1:Tk H' (upd H' nd (.lst (ks++[V.ref be]))):=EL g.en;refine vM F hn hq hk h0 hD (fm g.s F.fnd) ?_ ?_ ax ?_ ?_ (g.bk.tk t1) ?_ (t1 _ _ eb) (t1 _ _ ea)
 ·rw[aL (bz F.n2)];exact g.eg
 ·rw[aL (bz F.n3)];exact g.eo
 ·rw[aL (bz F.n1)];exact g.eb
 ·rw[B6 hk h0,Az]
  exact Paired.snoc ⟨be,rfl,t1 _ _ eb⟩ (nF t1 g.nk)
 ·rw[aL np];exact ep
theorem qh{P:Nat->Bool}{q:Int}{Q:VK}{tc:TT}{H1:Hp}(eg:H1 gl=some (.lst ((gsI rows n).map V.int)))(hn:n<=60)
  (step:∀(p:Nat)(u:Option V)(H3:Hp)(R:Bool->Hp->Prop),p<n->aG H1 H3->R (P p) H3->tc [some (.int p),some (.int q),some (.ref gl)] H3 R)
  (fin:∀H2 l,aG H1 H2->H2 l=none->Q (.ref l) (upd H2 l (.lst ((plc n P).map V.int)))):
  Cm (Itr 0 n) (kj 0) tc (uc 0) [none,some (.int q),some (.ref gl)] H1 Q:=by
 refine ve (xs:=nats n) Fb (wj (by unfold nats;simp;omega)) (fun _ _=>trivial) (fun v=>match v with |.int i=>P i.toNat|_=>false) id (fun τ=>∃u,τ=[u,some (.int q),some (.ref gl)]) ⟨none,rfl⟩ ?_ ?_
 ·rintro x τ H3 Rt Rf hx ⟨u,rfl⟩ s3 kt kf
  unfold nats at hx;obtain⟨p,hp,rfl⟩:=aV.mp hx;have hp:=cC.mp hp;refine step p u H3 _ hp s3 ?_;have e:P ((p:Int)).toNat=P p:=by rw[aR]
  cases h:P p with
  |true=>
   rw[if_pos rfl];exact⟨_,rfl,kt _ _ ⟨_,rfl⟩ (aG.refl _) (e.trans h)⟩
  |false=>
   rw[if_neg aq];exact kf _ _ ⟨_,rfl⟩ (aG.refl _) (e.trans h)
 ·intro H2 l s2 hl
  rw[Dq (P:=P) fun p hp=>by show P ((p:Int)).toNat=P p;rw[aR]];exact fin H2 l s2 hl
theorem vO(g2:G.fn "turned" 2=some (lE K,[]))(F:Fx H gl nd br so)(hn:n<=60)(hl:(rows.getD 0 []).length=n)(hr:H r0=some (.tup ((rows.getD 0 []).map V.int)))(hq:Grs n (grp rows) qs){k:Nat}{q:Int}(hk:qs[k]? =some q)(h0:q≠0)(hD:∀σ2 H2,Gv rows n qs H c r0 gl nd br so (k+1) σ2 H2->D.nx σ2 H2){pl ar:Addr}{x y:Option V}
  (g:Gx rows n qs H gl nd br so (dn qs k) ks bs H')(np:pl≠nd)(ep:H' pl=some (.lst ((plc n (own (grp rows) q.toNat)).map V.int)))(er:H' ar=some (.lst ((plc n (M4.sub (grp rows) q.toNat)).map V.int))):
  wpB G K E l9 D [some (.ref c),some (.ref r0),some (.ref gl),some (.ref nd),some (.ref br),some (.int q),some (.ref pl),some (.ref ar),x,y] H':=by
 unfold l9;walk_at "wp";refine⟨_,_,g2,r0,ar,_,_,rfl,SqT.of (g.s _ _ hr),SqL.of er,by omega,fun H1 be s1 _ eb=>?_⟩;have e1:trn (rows.getD 0 []) (plc n (M4.sub (grp rows) q.toNat))=nB (fr rows) n (grp rows) q:=by
  rw[<-hl];exact CU
 rw[e1]at eb;unfold qr;walk_at "wp";refine⟨_,_,g2,be,pl,_,_,rfl,SqT.of eb,SqL.of (s1 _ _ ep),by unfold nB;rw[jo];exact hn,fun H2 ab s2 _ ea=>?_⟩;have e2:trn (nB (fr rows) n (grp rows) q) (plc n (own (grp rows) q.toNat))=nA (fr rows) n (grp rows) q:=by
  unfold nB nA;rw[trn_bl fun p=>own_sub,HH]
 rw[e2]at ea;exact vN F hn hq hk h0 hD (g.same (s1.trans s2)) np (s2 _ _ (s1 _ _ ep)) (s2 _ _ eb) ea
theorem vP(g2:G.fn "turned" 2=some (lE K,[]))(F:Fx H gl nd br so)(hn:n<=60)(hl:(rows.getD 0 []).length=n)(hr:H r0=some (.tup ((rows.getD 0 []).map V.int)))(hq:Grs n (grp rows) qs){k:Nat}{q:Int}(hk:qs[k]? =some q)(h0:q≠0)(hD:∀σ2 H2,Gv rows n qs H c r0 gl nd br so (k+1) σ2 H2->D.nx σ2 H2){v w x y:Option V}
  (g:Gx rows n qs H gl nd br so (dn qs k) ks bs H'):
  wpB G K E ma D [some (.ref c),some (.ref r0),some (.ref gl),some (.ref nd),some (.ref br),some (.int q),v,w,x,y] H':=by
 obtain⟨p0,hp0,eq0⟩:=hq.2 q (aU hk);have hqt:q=(q.toNat:Int):=by rw[eq0,aR]
 have lenr:((rows.getD 0 []).map V.int).length=n:=by rw[ao];exact hl
 unfold ma;walk_at "wp";refine d8 ?_;walk_at "wp";refine Or.inl ⟨r0,_,rfl,.inr (SqT.of (g.s _ _ hr)),_,rfl,by omega,by omega,?_⟩;rw[lenr,aR];refine qh (rows:=rows) (P:=own (grp rows) q.toNat) g.eg hn ?_ ?_
 ·intro p u H3 R hp s3 hR
  walk_at "wp"
  refine .inl ⟨gl,_,p,_,rfl,rfl,SqL.of (s3 _ _ g.eg),cH (jF (by rw[wY];exact hp)),?_⟩;rw[G5 hp];refine sN.mpr ?_;refine⟨_,rfl,?_⟩;have e:decide ((grp rows p:Int)=q)=own (grp rows) q.toNat p:=by
   unfold M5.own;rw[hqt,aR];exact decide_eq_decide.mpr (by omega)
  rw[e];exact hR
 intro H1 pl s1 hpl;have s2:aG H' (upd H1 pl (.lst ((plc n (own (grp rows) q.toNat)).map V.int))):=s1.trans (aA hpl);have ep:upd H1 pl (.lst ((plc n (own (grp rows) q.toNat)).map V.int)) pl=some (.lst ((plc n (own (grp rows) q.toNat)).map V.int)):=ax;have np:pl≠nd:=fun z=>by rw[z,s1 _ _ g.en]at hpl;cases hpl
 have g:=g.same s2;generalize upd H1 pl (.lst ((plc n (own (grp rows) q.toNat)).map V.int))=H2 at ep g⊢;unfold qt;walk_at "wp";refine d8 ?_;walk_at "wp";refine Or.inl ⟨r0,_,rfl,.inr (SqT.of (g.s _ _ hr)),_,rfl,by omega,by omega,?_⟩;rw[lenr,aR];refine qh (rows:=rows) (P:=M4.sub (grp rows) q.toNat) g.eg hn ?_ ?_
 ·intro p u H3 R hp s3 hR
  walk_at "wp"
  refine .inl ⟨gl,_,p,_,rfl,rfl,SqL.of (s3 _ _ g.eg),cH (jF (by rw[wY];exact hp)),?_⟩;rw[G5 hp];refine and_ii.mpr (sN.mpr ⟨_,rfl,?_⟩);have e:decide (gY (grp rows p:Int) q=q)=M4.sub (grp rows) q.toNat p:=by
   unfold M4.sub;rw[hqt,and_nat,aR];exact decide_eq_decide.mpr (by omega)
  rw[e];exact hR
 intro H3 ar s3 har;exact vO g2 F hn hl hr hq hk h0 hD (g.same (s3.trans (aA har))) np ((s3.trans (aA har)) _ _ ep) ax
end
noncomputable def tH(rows:List (List Int))(n:Nat)(H:Hp)(H':Hp)(p:Addr):Prop:=∃(nl bl:Addr)(ks bs:List V)(qs:List Int),H' p=some (.tup [.ref nl,.ref bl])/\H nl=none/\H bl=none/\nl≠bl/\Grs n (grp rows) qs/\0∉qs/\(∀p,p<n->grp rows p≠0->(grp rows p:Int)∈qs)/\
 _root_.Q.IntKeys H' ks (je (fr rows) n (grp rows) qs)/\kT (fr rows) n (grp rows) H' bs qs/\H' nl=some (.lst (_root_.Q.iw .non (je (fr rows) n (grp rows) qs) ks))/\H' bl=some (.lst (_root_.Q.iw .non ((brK (fr rows) n (grp rows) qs).map _root_.Q.mF) bs))
noncomputable def rL:Sp:=fun vs H Q _=>∃(c:Addr)(ys:List V)(n:Nat)(rows:List (List Int)),vs=[.ref c]/\Cps H c ys n rows/\ys≠[]/\∀H' p,aG H H'->H p=none->tH rows n H H' p->Q (.ref p) H'
theorem CQ{G:Gam}{K:ae}(g1:G.fn "group_at" 2=some (vX,[]))(g2:G.fn "turned" 2=some (lE K,[])):Sat G K rL Cf BK:=by
 rintro vs H Q E ⟨c,ys,n,rows,rfl,d,hy,q⟩;unfold Cf;change wpB G K _ _ _ [some (.ref c),none,none,none,none,none,none,none,none,none] H;walk_at "wp";have h0:0<ys.length:=cX.mpr hy;obtain⟨b,z,r0,e1,e2,e3⟩:=d.at_ 0 ys[0] (ag h0);obtain⟨hl,hf⟩:=d.row h0;have hf:∀p,p<n->fr rows p=0\/fr rows p=1:=hf;have hn:=d.n60;have lenr:((rows.getD 0 []).map V.int).length=n:=by rw[ao];exact hl
 have g0:ys[0]? =some (.ref b):=by rw[ag h0,e1]
 refine .inl ⟨c,ys,0,_,rfl,rfl,SqL.of d.ec,cH (j:=0) g0,?_⟩;refine .inr (.inl ⟨b,_,1,_,rfl,rfl,SqT.of e2,rfl,?_⟩);unfold vq;walk_at "wp";refine d8 ?_;walk_at "wp";refine Or.inl ⟨r0,_,rfl,.inr (SqT.of e3),_,rfl,by omega,by omega,?_⟩;rw[lenr,aR];refine dZ du (wj (by omega)) (fun _ _=>trivial) (fun i v _=>v=.int (grp rows i)) (fun _ _ _ _ _ h=>h) (fun τ=>∃u,τ=[u,some (.ref c)]) ⟨none,rfl⟩ ?_ ?_
 ·rintro i x τ H3 R hi ⟨u,rfl⟩ s3 rfl k
  walk_at "wp"
  simp only[dD];exact⟨_,_,g1,c,i,ys,n,rows,rfl,d.same s3,hy,by omega,fun H4 s4=>k _ _ _ ⟨_,rfl⟩ s4 rfl⟩
 intro vs H1 gl hvl hF s1 hgl;have ev:vs=(gsI rows n).map V.int:=by
  unfold gsI;apply kY;intro i;rw[aF,aF];by_cases hi:i<vs.length
  ·rw[ag hi,cG (by omega),hF i _ (ag hi)]
   rfl
  ·rw[dc (by omega),dc (by rw[cJ];omega)]
   rfl
 rw[ev];have s2:aG H (upd H1 gl (.lst ((gsI rows n).map V.int))):=s1.trans (aA hgl);have eg:upd H1 gl (.lst ((gsI rows n).map V.int)) gl=some (.lst ((gsI rows n).map V.int)):=ax;generalize upd H1 gl (.lst ((gsI rows n).map V.int))=H2 at s2 eg⊢;unfold vp;walk_at "wp";refine⟨short (by simp),fun nd hnd=>?_⟩;have s3:aG H2 (upd H2 nd (.lst [.ref r0])):=aA hnd;have en:upd H2 nd (.lst [.ref r0]) nd=some (.lst [.ref r0]):=ax;have n2:nd≠gl:=fun z=>by rw[z,eg]at hnd;cases hnd
 have fnd:H nd=none:=s2.free hnd;generalize upd H2 nd (.lst [.ref r0])=H3 at s3 en⊢;unfold vo;walk_at "wp";refine⟨short (by simp),fun br hbr=>?_⟩;have s4:aG H3 (upd H3 br (.lst [])):=aA hbr;have eb:upd H3 br (.lst []) br=some (.lst []):=ax;have n1:nd≠br:=fun z=>by rw[<-z,en]at hbr;cases hbr
 have n4:br≠gl:=fun z=>by rw[z,s3 _ _ eg]at hbr;cases hbr
 have fbr:H br=none:=(s2.trans s3).free hbr;have en:=s4 _ _ en;have eg:=s4 _ _ (s3 _ _ eg);have s5:=s2.trans (s3.trans s4);generalize upd H3 br (.lst [])=H4 at s5 eb en eg⊢;unfold vn;walk_at "wp";refine hJ ?_;walk_at "wp";refine⟨_,rfl,gl,gsI rows n,rfl,SqL.of eg,by rw[wY];omega,fun ms so nd' mem hso=>?_⟩;obtain⟨qs,eq,pm⟩:=_root_.Q.CY nd';have hq:Grs n (grp rows) qs:=⟨pm.nodup_iff.mpr nd',fun q hq=>by
  have h:=(mem q).mp (pm.mem_iff.mp hq);unfold gsI at h;obtain⟨p,hp,e⟩:=aV.mp h;exact⟨p,cC.mp hp,e.symm⟩⟩
 rw[eq];have s6:aG H4 (upd H4 so (.lst (qs.map V.int))):=aA hso;have eo:upd H4 so (.lst (qs.map V.int)) so=some (.lst (qs.map V.int)):=ax;have n3:nd≠so:=fun z=>by rw[<-z,en]at hso;cases hso
 have n5:br≠so:=fun z=>by rw[<-z,eb]at hso;cases hso
 have F:Fx H gl nd br so:=⟨fnd,fbr,n1,n2,n3,n4,n5⟩;generalize upd H4 so (.lst (qs.map V.int))=H5 at s6 eo⊢;have gx:Gx rows n qs H gl nd br so (dn qs 0) [.ref r0] [] H5:=by
  refine⟨s5.trans s6,s6 _ _ eg,eo,s6 _ _ en,s6 _ _ eb,?_,.nil⟩;refine .cons ⟨r0,rfl,?_⟩ .nil;have ef:bl (fr rows) n (fun _=>false)=rows.getD 0 []:=by rw[<-hl];exact Hd _
  rw[ef];exact(s5.trans s6) _ _ e3
 refine⟨so,rfl,⟨_,SqL.of eo⟩,G8 (fN (xs:=qs.map V.int)) (Gv rows n qs H c r0 gl nd br so) ⟨⟨_,_,gx⟩,_,_,_,_,_,rfl⟩ (fun k σ H' _ g=>?_) ?_ ?_⟩
 ·obtain⟨⟨ks,bs,g⟩,_⟩:=g
  exact SqL.of g.eo
 ·rintro k x σ H6 H7 D2 hk ⟨⟨ks,bs,g⟩,u,v,w,x',y,rfl⟩ hx s7 hD hC
  have g:=g.same s7;rw[ao]at hk;have hk':qs[k]? =some qs[k]:=ag hk;rw[aF,hk']at hx;cases hx;generalize qs[k]=q at hk';walk_at "wp";by_cases h0:q=0
  ·rw[decide_eq_true h0,if_pos rfl]
   refine hC _ _ ⟨⟨ks,bs,?_⟩,_,_,_,_,_,rfl⟩;rw[dn_zero (by rw[hk',h0])];exact g
  ·rw[decide_eq_false h0,if_neg aq]
   exact vP g2 F hn hl e3 hq hk' h0 hD g
 ·rintro σ H6 ⟨⟨ks,bs,g⟩,u,v,w,x',y,rfl⟩
  rw[ao]at g;have gq:Grs n (grp rows) (dn qs qs.length):=Hk hq;have edn:dn qs qs.length=qs.filter fun q=> !decide (q=0):=by unfold dn;rw[fj]
  have z0:(0:Int)∉dn qs qs.length:=fun z=>by
   rw[edn]at z;simpa using(eO.mp z).2
  have all:∀p,p<n->grp rows p≠0->(grp rows p:Int)∈dn qs qs.length:=fun p hp h=>by
   rw[edn];refine eO.mpr ⟨pm.mem_iff.mpr ((mem _).mpr ?_),?_⟩
   ·unfold gsI
    exact aV.mpr ⟨p,cC.mpr hp,rfl⟩
   ·have :¬((grp rows p:Int)=0):=by omega
    rw[decide_eq_false this];rfl
  generalize dn qs qs.length=ds at g gq z0 all;have hds:ds.length<=n:=BY gq;have hkl:=g.ksl;have hbl:=g.bsl;have nkl:=jc g.nk;have bkl:=jc g.bk.two;unfold vm;walk_at "wp";refine⟨nd,ks,_,n,rfl,SqL.of g.en,by omega,Ga hf gq,Dp,g.nk,fun nl hnl=>?_⟩;have t1:aG H6 (upd H6 nl (.lst (_root_.Q.iw .non (je (fr rows) n (grp rows) ds) ks))):=aA hnl;have enl:upd H6 nl (.lst (_root_.Q.iw .non (je (fr rows) n (grp rows) ds) ks)) nl=some (.lst (_root_.Q.iw .non (je (fr rows) n (grp rows) ds) ks)):=ax;have g':=g.same t1;generalize upd H6 nl (.lst (_root_.Q.iw .non (je (fr rows) n (grp rows) ds) ks))=H7 at t1 enl g'⊢;refine⟨br,bs,_,n,rfl,SqL.of g'.eb,by omega,brK_nd hf gq,brK_len,g'.bk.two,fun bl hbl2=>⟨short (by simp),fun p hp=>?_⟩⟩;have t2:=aA (o:=.lst (_root_.Q.iw .non ((brK (fr rows) n (grp rows) ds).map _root_.Q.mF) bs)) hbl2;have t3:=aA (o:=.tup [.ref nl,.ref bl]) hp;have g2:=g'.same (t2.trans t3);refine q _ p g2.s (((g'.s).trans t2).free hp) ⟨nl,bl,ks,bs,ds,ax,g.s.free hnl,g'.s.free hbl2,fun z=>by(rw[<-z,enl]at hbl2;cases hbl2),gq,z0,all,g2.nk,g2.bk,(t2.trans t3) _ _ enl,t3 _ _ ax⟩
end K32
namespace K32
open PySem R
noncomputable def kZ:List Str:=["self","one","other","names"]
noncomputable def iG:List Str:=["self","one","other","names"]
noncomputable def jH:CB:=
  (.cons (.fldX (.var 0) "names" (.var 3))
  .nil)
noncomputable def jI:CB:=
  (.cons (.fldX (.var 0) "other" (.var 2))
  jH)
noncomputable def jJ:CB:=
  (.cons (.fldX (.var 0) "one" (.var 1))
  jI)
noncomputable def iO:CB:=
  (.cons (.expr (.base "KinError" (.cons (.var 0) (.cons (.var 1) (.cons (.var 2) (.cons (.var 3) .nil))))))
  jJ)
noncomputable def yk:List Str:=["table","name"]
noncomputable def p9:List Str:=["table","name"]
noncomputable def mS:CB:=
  (.cons (.iff (.or (.not (.call "is_name" (.cons (.var 1) .nil))) (.not (.bfn .any (.cons (.comp ["copy"] [1] (.name 0) (.seq (.var 0)) .no (.cmp .Eq (.var 1) (.idx (.var 0) (.con (.int 0))))) .nil))))
  (.cons (.rais "NoName" (.cons (.con (.str "this is no name of a copy of the table")) .nil))
  .nil)
  .nil)
  .nil)
noncomputable def qm:CB:=
  (.cons (.expr (.call "need_table" (.cons (.var 0) .nil)))
  mS)
noncomputable def rT:List Str:=["table"]
noncomputable def lJ:List Str:=["table","found"]
noncomputable def kz:CB:=
  (.cons (.iff (.cmp .IsNot (.var 1) (.con .none))
  (.cons (.raisX "Clash" (.cons (.idx (.var 1) (.con (.int 0))) (.cons (.idx (.var 1) (.con (.int 1))) (.cons (.idx (.var 1) (.con (.int 2))) .nil))))
  .nil)
  .nil)
  .nil)
noncomputable def lX:CB:=
  (.cons (.asg (.name 1) (.call "clash" (.cons (.var 0) .nil)))
  kz)
noncomputable def p_tree:List Str:=["table"]
noncomputable def Gd:List Str:=["table","copies"]
noncomputable def zi:CB:=
  (.cons (.ret (.call "grown" (.cons (.var 1) .nil)))
  .nil)
noncomputable def zj:CB:=
  (.cons (.iff (.cmp .Eq (.bfn .len (.cons (.var 1) .nil)) (.con (.int 0)))
  (.cons (.ret (.tup (.cons (.lst .nil) (.cons (.lst .nil) .nil))))
  .nil)
  .nil)
  zi)
noncomputable def zk:CB:=
  (.cons (.expr (.call "refuse_clash" (.cons (.var 1) .nil)))
  zj)
noncomputable def Hz:CB:=
  (.cons (.asg (.name 1) (.call "table_list" (.cons (.var 0) .nil)))
  zk)
noncomputable def Df:List Str:=["table","name"]
noncomputable def uV:List Str:=["table","name","found"]
noncomputable def qk:CB:=
  (.cons (.ret (.idx (.var 2) (.con (.int 0))))
  .nil)
noncomputable def ql:CB:=
  (.cons (.asgc 2 (.comp ["other","readings"] [1] (.tup (.cons (.name 0) (.cons (.name 1) .nil))) (.seq (.call "table_list" (.cons (.var 0) .nil))) (.yes (.cmp .Eq (.var 0) (.var 2))) (.var 1)))
  qk)
noncomputable def vi:CB:=
  (.cons (.expr (.call "need_name" (.cons (.var 0) (.cons (.var 1) .nil))))
  ql)
end K32
namespace K32
open PySem PySem.Spec PyProof.Rows L2 R Cp Lt Kc K21 K22 Lm M5
theorem put2{x y:V}:kL (aQ "other") y [(aQ "one",x)]=[(aQ "one",x),(aQ "other",y)]:=by
 unfold kL kL;rw[if_neg (by decide+kernel)]
theorem put3{x y z:V}:kL (aQ "names") z [(aQ "one",x),(aQ "other",y)]=[(aQ "one",x),(aQ "other",y),(aQ "names",z)]:=by
 unfold kL kL kL;rw[if_neg (by decide+kernel),if_neg (by decide+kernel)]
structure Cl(K:ae)(B C:Addr):Prop where
 bs:BsX K B
 s1:StX K C "one"
 s2:StX K C "other"
 s3:StX K C "names"
 ex:∃f,nv K C f bmV "ValueError.__new__"=true
noncomputable def yY(x y z:V):List (Str×V):=[("one",x),("other",y),("names",z)]
noncomputable def vV(C:Addr):Sp:=fun vs H Q _=>∃a x y z,vs=[.ref a,x,y,z]/\H a=some (exO a C none)/\∀dd H',dd≠a->H dd=none->H' a=some (exO a C (some dd))->H' dd=some (xdO dd (yY x y z))->(∀b,b≠a->b≠dd->H' b=H b)->Q .non H'
theorem Ez{G:Gam}{K:ae}{B C:Addr}(v1:G.val "KinError"=some (.ref B))(n:Cl K B C):
  Sat G K (vV C) iO iG:=by
 rintro vs H Q E ⟨a,x,y,z,rfl,ha,q⟩;unfold iO;change wpB G K _ _ _ [some (.ref a),some x,some y,some z] H;walk_at "wp";obtain⟨f,hf⟩:=n.ex;refine⟨B,v1,n.bs,?_⟩;refine⟨_,rfl,_,rfl,_,rfl,_,rfl,a,C,f,[x,y,z],rfl,ha,short (by show 3<=40;decide),hf,?_⟩;unfold jJ;refine⟨_,rfl,_,rfl,a,C,rfl,n.s1,.inl ⟨ha,fun dd hd=>?_⟩⟩;have ne:dd≠a:=fun e=>by rw[e,ha]at hd;cases hd
 unfold jI;refine⟨_,rfl,_,rfl,a,C,rfl,n.s2,.inr ⟨dd,_,ax,by rw[aL ne];exact ax,by simp,?_⟩⟩;unfold jH;rw[put2];refine⟨_,rfl,_,rfl,a,C,rfl,n.s3,.inr ⟨dd,_,by rw[aL (bz ne)];exact ax,ax,by simp,?_⟩⟩;rw[put3];refine q dd _ ne hd ?_ ax fun b h1 h2=>?_
 ·rw[aL (bz ne),aL (bz ne)]
  exact ax
 ·rw[aL h2,aL h2,aL h1,aL h2]
noncomputable def rF(C CC:Addr)(T:Tb):Sp:=fun vs H Q E=>∃x,vs=[x]/\Kn4 H x/\Tab T H/\(bO H x=false->∀H',aG H H'->E (.ref C) none H')/\
 (bO H x=true->(NoC (rowsOf H x) (count H x)->∀H',Gr T H H'->Q .non H')/\
  ∀H' (i j:Nat)(l dd:Addr),Gr T H H'->tI (rowsOf H x) (count H x) i j->H' l=some (.tup ((KP.map (p8 (rowsOf H x) i j)).map V.str))->H' dd=some (xdO dd (yY (.int i) (.int j) (.ref l)))->E (.ref CC) (some dd) H')
theorem CD{G:Gam}{K:ae}{C CC:Addr}{T:Tb}(g1:G.fn "clash" 1=some (ic C T,[]))(gI:G.ini "Clash" 3=some (CC,vV CC,[])):
  Sat G K (rF C CC T) lX lJ:=by
 rintro vs H Q E ⟨x,rfl,hk,tb,q1,q2⟩;unfold lX;change wpB G K _ _ _ [some x,none] H;walk_at "wp";refine⟨_,_,g1,x,rfl,hk,tb,fun e H1 v gr rs=>?_,q1⟩;obtain⟨qn,qc⟩:=q2 e;unfold kz;walk_at "wp";rcases rs with⟨rfl,hc⟩ |⟨i,j,a,l,rfl,fi,ea,el⟩
 ·rw[if_neg (by simp)]
  exact qn hc H1 gr
 ·rw[if_pos (by simp)]
  refine⟨CC,_,_,gI,?_⟩;refine⟨_,rfl,.inr (.inl ⟨a,_,0,_,rfl,rfl,SqT.of ea,rfl,?_⟩)⟩;refine⟨_,rfl,.inr (.inl ⟨a,_,1,_,rfl,rfl,SqT.of ea,rfl,?_⟩)⟩;refine⟨_,rfl,.inr (.inl ⟨a,_,2,_,rfl,rfl,SqT.of ea,rfl,?_⟩)⟩;refine⟨short (by show 3<=40;decide),fun p hp=>⟨p,_,_,_,rfl,ax,fun dd H2 ne hd e1 e2 e3=>⟨rfl,some dd,e1,?_⟩⟩⟩;have hd1:H1 dd=none:=by rw[aL ne]at hd;exact hd
  have s2:aG H1 (del H2 p):=fun b u eb=>by
   have n1:b≠p:=bx eb hp;have n2:b≠dd:=bx eb hd1;rw[iJ n1,e3 b n1 n2,aL n1];exact eb
  exact qc _ i j l dd (gr.trans (Gr.of s2)) fi (s2 _ _ el) (by rw[iJ ne];exact e2)
theorem ye{H H':Hp}{x:V}{l:Addr}{zs:List V}(e:bO H x=true)(el:H' l=some (.lst zs))(hr:zs.map (cd H')=rowsOf H x)(tt:bO H' (.ref l)=true):rowsOf H' (.ref l)=rowsOf H x/\srt H' (.ref l)=zs:=by
 have hz:cn (H' l)=some zs:=by rw[el];rfl
 obtain⟨l',zs',ez,z1,z2,z3,z4,z5⟩:=cT tt;cases ez;rw[hz]at z1;cases z1;obtain⟨a,ys,rfl,h1,h2,h3,h4,h5⟩:=cT e;have ft:∀l:List V,l.filter (fun _=>true)=l:=fun l=>List.filter_eq_self.mpr fun _ _=>rfl;have r1:(_root_.Q.sortBy V.non (ys.map (aE H)) ys).map (aE H)=_root_.Q.sortBy ("":Str) (ys.map (aE H)) (ys.map (aE H)):=by
  have :=_root_.Q.p6 V.non (aE H) (fun _=>true) h4
  rwa [ft,ft]at this
 have r2:(_root_.Q.sortBy V.non (zs.map (aE H')) zs).map (aE H')=_root_.Q.sortBy ("":Str) (zs.map (aE H')) (zs.map (aE H')):=by
  have :=_root_.Q.p6 V.non (aE H') (fun _=>true) z4
  rwa [ft,ft]at this
 have en:zs.map (aE H')=_root_.Q.sortBy ("":Str) (ys.map (aE H)) (ys.map (aE H)):=by
  rw[<-r1,<-jC h1];have :=congrArg (List.map nN) hr;unfold rowsOf at this;rw[dB,dB]at this;exact this
 have p2:=_root_.Q.eG V.non z4 (ys:=zs) (by simp);have e2:_root_.Q.sortBy V.non (zs.map (aE H')) zs=zs:=by
  refine sj (Dm z4) (fun a ha=>p2.mem_iff.mp ha) (fun a ha=>ha) ?_;rw[r2];refine _root_.Q.jO (_root_.Q.eG ("":Str) z4 rfl) (_root_.Q.ie z4) ?_;rw[en];exact _root_.Q.ie h4
 have e3:srt H' (.ref l)=zs:=by rw[jC hz,e2]
 refine⟨?_,e3⟩;show(srt H' (.ref l)).map (cd H')=_;rw[e3];exact hr
noncomputable def intOf:V->Int
 |.int i=>i
 |_=>0
theorem pI{zs:List V}(h:∀z∈zs,bj z=true):(zs.map intOf).map V.int=zs/\∀x∈zs.map intOf,x=0\/x=1:=by
 constructor
 ·rw[dB]
  conv =>rhs;rw[<-List.map_id zs]
  refine bP fun z hz=>?_;rcases fu (h z hz)with e|e<;>rw[e]<;>rfl
 ·intro x hx
  obtain⟨z,hz,rfl⟩:=aV.mp hx;rcases fu (h z hz)with e|e<;>rw[e]
  ·exact .inl rfl
  ·exact .inr rfl
noncomputable def rI(R:List (Str×List V)):List (List Int):=R.map fun p=>p.2.map intOf
theorem cps_of{H:Hp}{l:Addr}{zs:List V}(el:H l=some (.lst zs))(tt:bO H (.ref l)=true):Cps H l zs (count H (.ref l)) (rI (zs.map (cd H))):=by
 have hz:cn (H l)=some zs:=by rw[el];rfl
 obtain⟨l',zs',ez,z1,z2,z3,z4,z5⟩:=cT tt;cases ez;rw[hz]at z1;cases z1;refine⟨el,z2,by simp[rI],?_,fun i y e=>?_,fun r hr=>?_⟩
 ·cases zs with
  |nil=>
   show(match cn (H l)with |some (y::_)=>bE H y|_=>0)<=60;rw[hz];exact bA _
  |cons y r=>
   rw[<-z5 y (.head _)];obtain⟨_,_,_,_,_,_,_,_,h60,_,_,h8⟩:=gz (z3 y (.head _));rw[h8];exact h60
 ·obtain⟨b,r,rfl,k1,k2,k3,k4⟩:=gP (z3 y (aU e))
  refine⟨b,_,r,rfl,k1,?_⟩;have er:(rI (zs.map (cd H))).getD i []=(kK H (.ref b)).map intOf:=by
   unfold rI;rw[aj,aF,aF,e];rfl
  rw[er,(pI k4).1];exact k2
 ·obtain⟨p,hp,rfl⟩:=aV.mp hr
  obtain⟨y,hy,rfl⟩:=aV.mp hp;obtain⟨b,r,rfl,k1,k2,k3,k4⟩:=gP (z3 y hy);refine⟨?_,(pI k4).2⟩;rw[ao,<-z5 _ hy];exact k3
theorem gr_free{T:Tb}{H H':Hp}{p:Addr}(g:Gr T H H')(t:Tab T H')(h:H' p=none):H p=none:=by
 cases e:H p with
 |none=>rfl
 |some o=>
  have hp:p≠T.P:=fun z=>by
   rw[z]at h;rcases t with t|⟨_,_,_,_,_,t,_⟩<;>(rw[h]at t;cases t)
  rw[g.keep p o hp e]at h;cases h
theorem Cps.gr{T:Tb}{H H':Hp}{c:Addr}{ys:List V}{n:Nat}{rows:List (List Int)}(d:Cps H c ys n rows)(g:Gr T H H')(tt:Tab T H):Cps H' c ys n rows:=
 {d with ec:=g.lst tt d.ec,at_:=fun i y e=>let⟨b,z,r,h1,h2,h3⟩:=d.at_ i y e;⟨b,z,r,h1,g.nU tt h2,g.nU tt h3⟩}
theorem tH.old{rows:List (List Int)}{n:Nat}{H H0 H':Hp}{p:Addr}(g:tH rows n H H' p)(f:∀p,H p=none->H0 p=none):tH rows n H0 H' p:=by
 obtain⟨nl,bl,ks,bs,qs,h1,h2,h3,h4⟩:=g;exact⟨nl,bl,ks,bs,qs,h1,f _ h2,f _ h3,h4⟩
noncomputable def TreeK(R:List (Str×List V))(n:Nat)(H H':Hp)(p:Addr):Prop:=
 (R=[]/\∃a b,H' p=some (.tup [.ref a,.ref b])/\H a=none/\H b=none/\a≠b/\H' a=some (.lst [])/\H' b=some (.lst []))\/(R≠[]/\tH (rI R) n H H' p)
noncomputable def z9(C CC:Addr)(T:Tb):Sp:=fun vs H Q E=>∃x,vs=[x]/\Kn4 H x/\Tab T H/\(bO H x=false->∀H',aG H H'->E (.ref C) none H')/\
 (bO H x=true->(NoC (rowsOf H x) (count H x)->∀H' p,Gr T H H'->H p=none->TreeK (rowsOf H x) (count H x) H H' p->Q (.ref p) H')/\
  ∀H' (i j:Nat)(l dd:Addr),Gr T H H'->tI (rowsOf H x) (count H x) i j->H' l=some (.tup ((KP.map (p8 (rowsOf H x) i j)).map V.str))->H' dd=some (xdO dd (yY (.int i) (.int j) (.ref l)))->E (.ref CC) (some dd) H')
theorem wp_tree{G:Gam}{K:ae}{C CC:Addr}{T:Tb}(g1:G.fn "table_list" 1=some (rK C T,[]))(g2:G.fn "refuse_clash" 1=some (rF C CC T,[]))(g3:G.fn "grown" 1=some (rL,[])):
  Sat G K (z9 C CC T) Hz Gd:=by
 rintro vs H Q E ⟨x,rfl,hk,tb,q1,q2⟩;unfold Hz;change wpB G K _ _ _ [some x,none] H;walk_at "wp";refine⟨_,_,g1,x,rfl,hk,tb,fun e H1 l zs gr hl el cpd=>?_,q1⟩;obtain⟨qn,qc⟩:=q2 e;obtain⟨kn,tt,ct,rows⟩:=sT e el cpd;obtain⟨ro,_⟩:=ye e el rows tt;have cps:=cps_of el tt;rw[ct,rows]at cps;have hlen:zs.length=(rowsOf H x).length:=by rw[<-rows,ao]
 have tb1:=gr.tab tb;generalize rowsOf H x=R at qn qc ro cps hlen;generalize count H x=n at qn qc ct cps;unfold zk;walk_at "wp";refine⟨_,_,g2,.ref l,rfl,kn,tb1,fun z=>by(rw[tt]at z;cases z),fun _=>⟨fun nc H2 gr2=>?_,fun H2 i j l' dd gr2 fi el' ed=>?_⟩⟩
 ·rw[ro,ct]at nc
  have cps:=cps.gr gr2 tb1;have tb2:=gr2.tab tb1;have fre:∀p,H2 p=none->H p=none:=fun p=>gr_free (gr.trans gr2) tb2;unfold zj;walk_at "wp";refine Or.inl ⟨l,zs,rfl,.inl (SqL.of cps.ec),?_⟩;refine sN.mpr ⟨_,rfl,?_⟩;by_cases hz:zs=[]
  ·have hR:R=[]:=bW.mp (by rw[<-hlen,hz];rfl)
   rw[hz,if_pos (by simp)];refine⟨short (by simp),fun a ha=>⟨short (by simp),fun b hb=>⟨short (by simp),fun p hp=>?_⟩⟩⟩;have s1:=aA (o:=.lst []) ha;have s2:=aA (o:=.lst []) hb;have s3:=aA (o:=.tup [.ref a,.ref b]) hp;refine qn nc _ p ((gr.trans gr2).trans (Gr.of (s1.trans (s2.trans s3)))) (fre _ ((s1.trans s2).free hp)) (.inl ⟨hR,a,b,ax,fre _ ha,fre _ (s1.free hb),fun z=>?_,(s2.trans s3) _ _ ax,s3 _ _ ax⟩);rw[<-z,ax]at hb;cases hb
  ·rw[if_neg (fun z=>hz (bW.mp (by have :=of_decide_eq_true z;omega)))]
   unfold zi;walk_at "wp";refine⟨_,_,g3,l,zs,n,rI R,rfl,cps,hz,fun H3 p s3 hp gk=>?_⟩;exact qn nc H3 p ((gr.trans gr2).trans (Gr.of s3)) (fre _ hp) (.inr ⟨fun z=>hz (bW.mp (by rw[hlen,z];rfl)),gk.old fre⟩)
 ·rw[ro,ct]at fi
  rw[ro]at el';exact qc H2 i j l' dd (gr.trans gr2) fi el' ed
noncomputable def sE(H:Hp)(x y:V):Prop:=∃(a:Addr)(ys:List V)(z:Str)(c:V),x=.ref a/\cn (H a)=some ys/\y=.str z/\c∈ys/\aE H c=z
noncomputable def rH(C CN:Addr):Sp:=fun vs H Q E=>∃x y,vs=[x,y]/\Kn4 H x/\Known H y/\(∀z,y=.str z->z.length<=20000)/\(bO H x=false->∀H',aG H H'->E (.ref C) none H')/\
 (bO H x=true->(sE H x y->∀H',aG H H'->Q .non H')/\(¬sE H x y->∀H',aG H H'->E (.ref CN) none H'))
theorem CH{G:Gam}{K:ae}{C CN:Addr}(g1:G.fn "need_table" 1=some (rJ C,[]))(g2:G.fn "is_name" 1=some (spN,[]))(v1:G.val "NoName"=some (.ref CN))(xc:XC K CN):
  Sat G K (rH C CN) qm p9:=by
 rintro vs H Q E ⟨x,y,rfl,hk,ky,hyl,q1,q2⟩;unfold qm;change wpB G K _ _ _ [some x,some y] H;walk_at "wp";refine⟨_,_,g1,x,rfl,hk,fun e H1 s1=>?_,q1⟩;obtain⟨qy,qn⟩:=q2 e;obtain⟨a,ys,rfl,h1,h2,h3,h4,h5⟩:=cT e;unfold mS;walk_at "wp";refine⟨_,_,g2,y,rfl,(ky.same s1).1,hyl,fun H2 s2=>⟨_,rfl,?_⟩⟩;have s2:aG H H2:=s1.trans s2;cases hn:isName y with
 |false=>
  rw[if_pos (by simp)];have hno:¬sE H (.ref a) y:=by
   rintro⟨a',ys',z,c,e1,e2,rfl,hc,e4⟩;cases e1;rw[h1]at e2;cases e2;have :=uU (h3 c hc);rw[e4]at this;rw[show isName (V.str z)=eR z from rfl,this]at hn;cases hn
  exact⟨CN,v1,xc.1,xc.2,short (by simp),qn hno H2 s2⟩
 |true=>
  rw[if_neg (by simp)];obtain⟨z,rfl⟩:∃z,y=.str z:=by
   cases y with
   |str z=>exact⟨z,rfl⟩
   |_=>cases hn
  have et:SqL K H2 a ys:=s2.seq (iz h1);refine d8 (dS rfl et (dZ fN (short h2) (fun H3 s3=>s3.seq et) (fun i v _=>∃c,ys[i]? =some c/\v=.bl (decide (z=aE H c))) (fun _ _ _ _ _ h=>h) (fun τ=>∃u,τ=[u,some (.str z)]) ⟨none,rfl⟩ ?_ ?_))
  ·rintro i c τ H3 R hi ⟨u,rfl⟩ s3 hc kk
   obtain⟨b,r,rfl,k1,k2,k3,k4⟩:=gP (h3 c (aU hc));walk_at "wp";refine .inr (.inl ⟨b,_,0,_,rfl,rfl,SqT.of (s3 _ _ (s2 _ _ k1)),rfl,?_⟩);walk_at "wp";exact kk _ _ _ ⟨_,rfl⟩ (aG.refl _) ⟨_,hc,rfl⟩
  ·intro vs H3 l hvl hF s3 hl3
   have ev:vs=(ys.map fun c=>decide (z=aE H c)).map V.bl:=by
    apply kY
    intro i;rw[aF,aF];by_cases hi:i<vs.length
    ·obtain⟨c,hc,hv⟩:=hF i _ (ag hi)
     rw[ag hi,hv,hc];rfl
    ·rw[dc (by omega),dc (by omega)]
     rfl
   rw[ev];have s4:=s2.trans (s3.trans (aA (o:=.lst ((ys.map fun c=>decide (z=aE H c)).map V.bl)) hl3));refine⟨l,_,rfl,SqL.of ax,_,rfl,?_⟩;have ea:(ys.map fun c=>decide (z=aE H c)).any id=true↔sE H (.ref a) (.str z):=by
    rw[Cw,cE];constructor
    ·rintro⟨c,hc,e⟩
     exact⟨a,ys,z,c,rfl,h1,rfl,hc,(of_decide_eq_true e).symm⟩
    ·rintro⟨a',ys',z',c,e1,e2,e3,hc,e4⟩
     cases e1;rw[h1]at e2;cases e2;cases e3;exact⟨c,hc,decide_eq_true e4.symm⟩
   by_cases hh:sE H (.ref a) (.str z)
   ·rw[ea.mpr hh,if_neg (by simp)]
    exact qy hh _ s4
   ·rw[Bool.eq_false_iff.mpr fun z=>hh (ea.mp z),if_pos (by simp)]
    exact⟨CN,v1,xc.1,xc.2,short (by simp),qn hh _ s4⟩
noncomputable def rdV(H:Hp):V->V
 |.ref a=>match cz (H a)with
  |some [_,r]=>r
  |_=>.non
 |_=>.non
theorem Fq{H:Hp}{b:Addr}{x r:V}(h:H b=some (.tup [x,r])):rdV H (.ref b)=r:=by
 show(match cz (H b)with |some [_,r]=>r|_=>V.non)=r;rw[h];rfl
noncomputable def pw(C CN:Addr)(T:Tb):Sp:=fun vs H Q E=>∃x y,vs=[x,y]/\Kn4 H x/\Known H y/\(∀z,y=.str z->z.length<=20000)/\Tab T H/\(bO H x=false->∀H',aG H H'->E (.ref C) none H')/\
 (bO H x=true->(¬sE H x y->∀H',aG H H'->E (.ref CN) none H')/\
  (sE H x y->∀(a:Addr)(ys:List V)(c:V) H' r,x=.ref a->cn (H a)=some ys->c∈ys->y=.str (aE H c)->Gr T H H'->H' r=some (.tup (kK H c))->Q (.ref r) H'))
theorem zR{G:Gam}{K:ae}{C CN:Addr}{T:Tb}(g1:G.fn "need_name" 2=some (rH C CN,[]))(g2:G.fn "table_list" 1=some (rK C T,[])):
  Sat G K (pw C CN T) vi uV:=by
 rintro vs H Q E ⟨x,y,rfl,hk,ky,hyl,tb,q1,q2⟩;unfold vi;change wpB G K _ _ _ [some x,some y,none] H;walk_at "wp";refine⟨_,_,g1,x,y,rfl,hk,ky,hyl,q1,fun e=>⟨fun hh H1 s1=>?_,(q2 e).1⟩⟩;have q:=(q2 e).2 hh;obtain⟨a,ys,rfl,h1,h2,h3,h4,h5⟩:=cT e;obtain⟨a',ys',z,c0,e1,e2,rfl,hc0,e4⟩:=hh;cases e1;rw[h1]at e2;cases e2;have e':bO H1 (.ref a)=true:=by rw[m9 hk s1];exact e
 unfold ql;walk_at "wp";refine d8 ?_;walk_at "wp";refine⟨_,_,g2,_,rfl,.ref a,rfl,hk.same s1,(Gr.of s1).tab tb,fun _ H2 l zs gr hl el cpd=>.inl ⟨l,rfl,⟨zs,SqL.of el⟩,?_⟩,fun z'=>by(rw[e']at z';cases z')⟩;have gr0:Gr T H H2:=(Gr.of s1).trans gr;have h1':cn (H1 a)=some ys:=by
  obtain⟨a',ys',ea,k1,_⟩:=cT e';cases ea;have hs:=s1.seq (K:=K) (iz h1);cases eh:H a with
  |none=>rw[eh]at h1;cases h1
  |some o=>rw[s1 _ _ eh,<-eh];exact h1
 have ecd:∀c∈ys,aE H1 c=aE H c/\kK H1 c=kK H c:=fun c hc=>by
  obtain⟨b,r,rfl,k1,k2,_⟩:=gP (h3 c hc);have e1:=jb k1 k2;have e2:=jb (s1 _ _ k1) (s1 _ _ k2);exact⟨congrArg nN (e2.trans e1.symm),congrArg Prod.snd (e2.trans e1.symm)⟩
 have hn1:ys.map (aE H1)=ys.map (aE H):=bP fun c hc=>(ecd c hc).1;have zp:(srt H1 (.ref a)).Perm ys:=by
  rw[jC h1'];exact _root_.Q.eG V.non (by rw[hn1];exact h4) (by simp)
 generalize srt H1 (.ref a)=us at cpd zp;have hzl:zs.length<=40:=by rw[cpd.1,zp.length_eq];exact h2
 have at2:∀(i:Nat) y,zs[i]? =some y->∃b r c,y=.ref b/\c∈ys/\us[i]? =some c/\H2 b=some (.tup [.str (aE H c),.ref r])/\H2 r=some (.tup (kK H c)):=fun i y hy=>by
  obtain⟨b,r,rfl,k1,k2⟩:=cpd.2 i y hy;have hi:i<us.length:=by rw[<-cpd.1];exact(aM.mp hy).1
  have eu:us.getD i .non=us[i]:=by rw[aj,ag hi];rfl
  have hc:us[i]∈ys:=zp.mem_iff.mp (bq hi);rw[eu,(ecd _ hc).1]at k1;rw[eu,(ecd _ hc).2]at k2;exact⟨b,r,us[i],rfl,hc,ag hi,k1,k2⟩
 have atm:∀y∈zs,∃b r c,y=.ref b/\c∈ys/\H2 b=some (.tup [.str (aE H c),.ref r])/\H2 r=some (.tup (kK H c)):=fun y hy=>by
  obtain⟨i,hi⟩:=bH.mp hy;obtain⟨b,r,c,h1,h2,_,h3⟩:=at2 i y hi;exact⟨b,r,c,h1,h2,h3⟩
 refine ve fN (short hzl) (fun H3 s3=>s3.seq (SqL.of el)) (fun y=>decide (aE H2 y=z)) (rdV H2) (fun τ=>∃u v,τ=[u,v,some (.str z)]) ⟨none,none,rfl⟩ ?_ ?_
 ·rintro y τ H3 Rt Rf hy ⟨u,v,rfl⟩ s3 kt kf
  obtain⟨b,r,c,rfl,hc,k1,k2⟩:=atm y hy;refine⟨b,_,rfl,SqT.of (s3 _ _ k1),rfl,_,_,rfl,_,_,rfl,rfl,?_⟩;walk_at "wp";have en:aE H2 (.ref b)=aE H c:=congrArg nN (jb k1 k2);have er:rdV H2 (.ref b)=.ref r:=Fq k1;rw[<-en,<-er];by_cases h:aE H2 (.ref b)=z
  ·rw[decide_eq_true h,if_pos rfl]
   exact kt _ _ ⟨_,_,rfl⟩ (aG.refl _) (decide_eq_true h)
  ·rw[decide_eq_false h,if_neg aq]
   exact kf _ _ ⟨_,_,rfl⟩ (aG.refl _) (decide_eq_false h)
 ·intro H3 p s3 hp
  have ex:∃y∈zs,aE H2 y=z:=by
   obtain⟨i,hi,e5⟩:=eQ.mp (zp.mem_iff.mpr hc0);have hi':i<zs.length:=by rw[cpd.1];exact hi
   obtain⟨b,r,c,e6,hc,eu,k1,k2⟩:=at2 i zs[i] (ag hi');refine⟨zs[i],bq hi',?_⟩;rw[ag hi,e5]at eu;cases eu;rw[e6,show aE H2 (.ref b)=aE H c0 from congrArg nN (jb k1 k2),e4]
  obtain⟨y0,hy0,ey0⟩:=ex;cases hf:zs.filter (fun y=>decide (aE H2 y=z))with
  |nil=>
   have :y0∈zs.filter fun y=>decide (aE H2 y=z):=eO.mpr ⟨hy0,decide_eq_true ey0⟩;rw[hf]at this;cases this
  |cons y rest=>
   have hy:y∈zs.filter fun y=>decide (aE H2 y=z):=by rw[hf];exact .head _
   obtain⟨hy1,hy2⟩:=eO.mp hy;obtain⟨b,r,c,rfl,hc,k1,k2⟩:=atm y hy1;rw[bB,Fq k1];unfold qk;walk_at "wp";refine .inl ⟨p,_,0,_,rfl,rfl,SqL.of ax,cH (j:=0) rfl,?_⟩;have en:aE H2 (.ref b)=aE H c:=congrArg nN (jb k1 k2);exact q a ys c _ r rfl h1 hc (by rw[<-en,of_decide_eq_true hy2]) (gr0.trans (Gr.of (s3.trans (aA hp)))) ((s3.trans (aA hp)) _ _ k2)
end K32
namespace R
open PySem PySem.Spec PyProof.Rows L2
noncomputable def Mk(G:Gam)(K:ae)(E:XS)(σ:L2.St)(H:Hp)(e:CE)(Rr:V->Hp->Prop):Prop:=∀H',aG H H'->∀Q:VK,(∀v H'',aG H' H''->Rr v H''->Q v H'')->wpE G K E e σ H' Q
noncomputable def MkL(G:Gam)(K:ae)(E:XS)(σ:L2.St)(H:Hp)(es:CL)(Rr:List V->Hp->Prop):Prop:=∀H',aG H H'->∀Q:List V->Hp->Prop,(∀v H'',aG H' H''->Rr v H''->Q v H'')->wpL G K E es σ H' Q
noncomputable def jY{α:Type}(Rr:α->Hp->Prop):Prop:=∀v H H',aG H H'->Rr v H->Rr v H'
noncomputable def LstN(n:Nat)(Rr:V->Hp->Prop)(v:V)(H:Hp):Prop:=∃p vs,v=.ref p/\H p=some (.lst vs)/\vs.length=n/\∀x∈vs,Rr x H
noncomputable def Lst(Rr:List V->Hp->Prop)(v:V)(H:Hp):Prop:=∃p vs,v=.ref p/\H p=some (.lst vs)/\Rr vs H
noncomputable def Tup(Rr:List V->Hp->Prop)(v:V)(H:Hp):Prop:=∃p vs,v=.ref p/\H p=some (.tup vs)/\Rr vs H
noncomputable def Two(Ra Rb:V->Hp->Prop)(vs:List V)(H:Hp):Prop:=∃a b,vs=[a,b]/\Ra a H/\Rb b H
noncomputable def One(Ra:V->Hp->Prop)(vs:List V)(H:Hp):Prop:=∃a,vs=[a]/\Ra a H
noncomputable def Is(v:V):V->Hp->Prop:=fun x _=>x=v
theorem kJ{v:V}:jY (Is v):=fun _ _ _ _ h=>h
theorem nX{Ra:V->Hp->Prop}(h:jY Ra):jY (One Ra):=fun v H H' s ⟨a,e,r⟩=>⟨a,e,h _ _ _ s r⟩
theorem EY{Ra Rb:V->Hp->Prop}(h:jY Ra)(h':jY Rb):jY (Two Ra Rb):=fun v H H' s ⟨a,b,e,r,r'⟩=>⟨a,b,e,h _ _ _ s r,h' _ _ _ s r'⟩
section
variable {G:Gam}{K:ae}{E:XS}{σ:L2.St}{H:Hp}
theorem Mk.imp{e:CE}{Rr Rr':V->Hp->Prop}(h:Mk G K E σ H e Rr)(f:∀v H',aG H H'->Rr v H'->Rr' v H'):Mk G K E σ H e Rr':=fun H' s Q q=>h H' s Q fun v H'' s' r=>q v H'' s' (f v H'' (s.trans s') r)
theorem wR{c:Const}:Mk G K E σ H (.con c) (Is (cv c)):=fun H' s Q q=>q _ H' (aG.refl _) rfl
theorem mkl_nil:MkL G K E σ H .nil (fun vs _=>vs=[]):=fun H' s Q q=>q _ H' (aG.refl _) rfl
theorem sf{e:CE}{es:CL}{Ra:V->Hp->Prop}{Rs:List V->Hp->Prop}(h1:Mk G K E σ H e Ra)(s1:jY Ra)(h2:MkL G K E σ H es Rs):MkL G K E σ H (.cons e es) (fun vs H'=>∃v r,vs=v::r/\Ra v H'/\Rs r H'):=fun H' s Q q=>
 h1 H' s _ fun v H1 t1 r1=>h2 H1 (s.trans t1) _ fun vs H2 t2 r2=>q _ H2 (t1.trans t2) ⟨v,vs,rfl,s1 _ _ _ t2 r1,r2⟩
theorem oy{e:CE}{Ra:V->Hp->Prop}(h1:Mk G K E σ H e Ra)(s1:jY Ra):MkL G K E σ H (.cons e .nil) (One Ra):=fun H' s Q q=>
 sf h1 s1 mkl_nil H' s Q fun vs H2 t ⟨v,r,e1,e2,e3⟩=>q _ H2 t ⟨v,by rw[e1,e3],e2⟩
theorem mkl_two{e e':CE}{Ra Rb:V->Hp->Prop}(h1:Mk G K E σ H e Ra)(s1:jY Ra)(h2:Mk G K E σ H e' Rb)(s2:jY Rb):MkL G K E σ H (.cons e (.cons e' .nil)) (Two Ra Rb):=fun H' s Q q=>
 sf h1 s1 (oy h2 s2) H' s Q fun vs H2 t ⟨v,r,e1,e2,w,e3,e4⟩=>q _ H2 t ⟨v,w,by rw[e1,e3],e2,e4⟩
theorem AF{es:CL}{Rs:List V->Hp->Prop}(h:MkL G K E σ H es Rs)(sr:jY Rs)(hl:∀vs H',Rs vs H'->vs.length<=1000):Mk G K E σ H (.lst es) (Lst Rs):=fun H' s Q q=>
 h H' s _ fun vs H1 t r=>⟨aX (hl _ _ r) (by decide),fun p hp=>q _ _ (t.trans (aA hp)) ⟨p,vs,rfl,ax,sr _ _ _ (aA hp) r⟩⟩
theorem AE{es:CL}{Rs:List V->Hp->Prop}(h:MkL G K E σ H es Rs)(sr:jY Rs)(hl:∀vs H',Rs vs H'->vs.length<=1000):Mk G K E σ H (.tup es) (Tup Rs):=fun H' s Q q=>
 h H' s _ fun vs H1 t r=>⟨aX (hl _ _ r) (by decide),fun p hp=>q _ _ (t.trans (aA hp)) ⟨p,vs,rfl,ax,sr _ _ _ (aA hp) r⟩⟩
theorem len_one{Ra:V->Hp->Prop}:∀vs H',One Ra vs H'->vs.length<=1000:=fun vs H' ⟨a,e,_⟩=>by rw[e];exact(by decide:1<=1000)
theorem len_two{Ra Rb:V->Hp->Prop}:∀vs H',Two Ra Rb vs H'->vs.length<=1000:=fun vs H' ⟨a,b,e,_⟩=>by rw[e];exact(by decide:2<=1000)
noncomputable def Ea(P:CE->Prop):CL->Prop
 |.nil=>True
 |.cons e es=>P e/\Ea P es
theorem BN{Rr:V->Hp->Prop}(sr:jY Rr):∀{es:CL},Ea (fun e=>Mk G K E σ H e Rr) es->MkL G K E σ H es (fun vs H'=>vs.length=es.len/\∀v∈vs,Rr v H')
 |.nil,_=>fun H' s Q q=>q _ H' (aG.refl _) ⟨rfl,fun _ z=>nomatch z⟩
 |.cons e es,h=>fun H' s Q q=>sf h.1 sr (BN sr h.2) H' s Q fun vs H2 t ⟨v,r,e1,e2,e3,e4⟩=>q _ H2 t ⟨by rw[e1,bJ,e3];rfl,fun x hx=>by
   rw[e1]at hx;rcases aC.mp hx with rfl|hx
   ·exact e2
   ·exact e4 x hx⟩
theorem Gj{Rr:V->Hp->Prop}{es:CL}{n:Nat}(sr:jY Rr)(hn:es.len=n)(hl:n<=1000)(h:Ea (fun e=>Mk G K E σ H e Rr) es):Mk G K E σ H (.lst es) (LstN n Rr):=
 (AF (BN sr h) (fun vs H1 H2 s ⟨a,b⟩=>⟨a,fun v hv=>sr _ _ _ s (b v hv)⟩) fun vs H' r=>by rw[r.1,hn];exact hl).imp fun v H' _ ⟨p,vs,e1,e2,e3,e4⟩=>⟨p,vs,e1,e2,by rw[e3,hn],e4⟩
theorem Gh{a i:CE}{n:Nat}{k:Int}{Rr:V->Hp->Prop}(sr:jY Rr)(h1:Mk G K E σ H a (LstN n Rr))(h2:Mk G K E σ H i (Is (.int k)))(h0:0<=k)(hk:k<n):Mk G K E σ H (.idx a i) Rr:=fun H' s Q q=>
 h1 H' s _ fun v H1 t1 ⟨p,vs,e1,e2,e3,e4⟩=>h2 H1 (s.trans t1) _ fun w H2 t2 ew=>by
  obtain⟨j,rfl⟩:=cN h0;have hj:j<vs.length:=by omega
  exact .inl ⟨p,vs,j,vs[j],e1,ew,SqL.of (t2 _ _ e2),cH (ag hj),q _ _ (t1.trans t2) (sr _ _ _ t2 (e4 _ (bq hj)))⟩
end
end R
namespace K02
open PySem PySem.Spec PyProof.Rows L2 R Cp Lt Lm
theorem oB{H:Hp}{p:Addr}(h:Known H (.ref p)):Kn1 H (.ref p):=⟨h,fun z e=>nomatch e⟩
theorem kn2_tup{H:Hp}{p:Addr}{xs:List V}(h:H p=some (.tup xs))(hl:xs.length<=20000)(hy:∀y∈xs,Kn1 H y):Kn2 H (.ref p):=⟨oB (nj h),fun a ys e g=>by
 injection e with e;subst e;rw[h]at g;cases g;exact⟨hl,hy⟩⟩
theorem kn3_tup{H:Hp}{p:Addr}{xs:List V}(h:H p=some (.tup xs))(hl:xs.length<=20000)(hy:∀y∈xs,Kn2 H y):Kn3 H (.ref p):=⟨oB (nj h),fun a ys e g=>by
 injection e with e;subst e;rw[h]at g;cases g;exact⟨hl,hy⟩⟩
theorem kn4_lst{H:Hp}{p:Addr}{xs:List V}(h:H p=some (.lst xs))(hl:xs.length<=20000)(hy:∀y∈xs,Kn3 H y):Kn4 H (.ref p):=⟨oB (AO h),fun a ys e g=>by
 injection e with e;subst e;rw[h]at g;cases g;exact⟨hl,hy⟩⟩
noncomputable def Atom:V->Prop
 |.int _=>True|.bl _=>True|.non=>True|.str z=>z.length<=20000 |_=>False
theorem oE{H:Hp}{v:V}(h:Atom v):Kn1 H v:=by
 cases v with
 |int i=>exact⟨sx,fun z e=>nomatch e⟩
 |bl i=>exact⟨kn_bl,fun z e=>nomatch e⟩
 |non=>exact⟨kn_non,fun z e=>nomatch e⟩
 |str z=>exact⟨lQ,fun y e=>by injection e with e;subst e;exact h⟩
 |_=>exact h.elim
theorem tE{v:V}(h:Atom v){a:Addr}(e:v=.ref a):False:=by subst e;exact h
theorem GL{H:Hp}{v:V}(h:Atom v):Kn2 H v:=⟨oE h,fun a xs e=>(tE h e).elim⟩
theorem GK{H:Hp}{v:V}(h:Atom v):Kn3 H v:=⟨oE h,fun a xs e=>(tE h e).elim⟩
theorem GJ{H:Hp}{v:V}(h:Atom v):Kn4 H v:=⟨oE h,fun a xs e=>(tE h e).elim⟩
noncomputable def Bad(v:V)(H:Hp):Prop:=Kn4 H v/\bO H v=false
noncomputable def NoC(v:V)(H:Hp):Prop:=Kn3 H v/\cm H v=false
theorem nZ:jY Bad:=fun v H H' s ⟨a,b⟩=>⟨a.same s,by rw[m9 a s];exact b⟩
theorem yd:jY NoC:=fun v H H' s ⟨a,b⟩=>⟨a.same s,by rw[mo a s];exact b⟩
theorem HC{H:Hp}{v:V}(h:Atom v):Bad v H:=⟨GJ h,by cases v<;>first |rfl|exact h.elim⟩
theorem bad_tup{H:Hp}{p:Addr}{xs:List V}(h:H p=some (.tup xs)):Bad (.ref p) H:=by
 refine⟨⟨oB (nj h),fun a ys e g=>?_⟩,?_⟩
 ·injection e with e;subst e;rw[h]at g;cases g
 ·show(match cn (H p)with |some xs=>_|none=>_)=false
  rw[h];rfl
theorem bad_dic{H:Hp}{p:Addr}{xs:List (Key×V)}(h:H p=some (.dK xs)):Bad (.ref p) H:=by
 refine⟨⟨oB (kn_dK h),fun a ys e g=>?_⟩,?_⟩
 ·injection e with e;subst e;rw[h]at g;cases g
 ·show(match cn (H p)with |some xs=>_|none=>_)=false
  rw[h];rfl
theorem xx{H:Hp}{p:Addr}{xs:List V}(h:H p=some (.lst xs))(hl:xs.length<=20000)(hy:∀y∈xs,Kn3 H y)(n:xs.length<=40->(∀y∈xs,cm H y=true)->(xs.map (aE H)).Nodup->(∀y∈xs,∀z∈xs,bE H y=bE H z)->False):Bad (.ref p) H:=by
 refine⟨kn4_lst h hl hy,?_⟩;cases e:bO H (.ref p)with
 |false=>rfl
 |true=>
  obtain⟨a,ys,e1,h1,h2,h3,h4,h5⟩:=cT e;injection e1 with e1
  subst e1;rw[h]at h1;cases h1;exact(n h2 h3 h4 fun y hy z hz=>by rw[h5 y hy,h5 z hz]).elim
theorem bad_one{H:Hp}{v:V}(h:Lst (One NoC) v H):Bad v H:=by
 obtain⟨p,vs,rfl,e,x,rfl,k,n⟩:=h;refine xx e (by simp) (fun y hy=>by rw[aO.mp hy];exact k) fun _ c _ _=>?_;rw[c x (by simp)]at n;cases n
theorem noc_tup{H:Hp}{p:Addr}{xs:List V}(h:H p=some (.tup xs))(hl:xs.length<=20000)(hy:∀y∈xs,Kn2 H y)(n:∀a b,xs=[a,b]->isName a=false\/bQ H b=false):NoC (.ref p) H:=by
 refine⟨kn3_tup h hl hy,?_⟩;show(match cz (H p)with |some [n,r]=>isName n&&bQ H r|_=>false)=false;rw[h];show(match some xs with |some [n,r]=>isName n&&bQ H r|_=>false)=false
 match xs,n with
 | [],_=>rfl
 | [_],_=>rfl
 | [a,b],n=>
  rcases n a b rfl with z|z
  ·show(isName a&&bQ H b)=false
   rw[z];rfl
  ·show(isName a&&bQ H b)=false
   rw[z,dQ]
 |_::_::_::_,_=>rfl
theorem are_tup{H:Hp}{p:Addr}{xs:List V}(h:H p=some (.tup xs))(n:xs.all bj=false):bQ H (.ref p)=false:=by
 show(match cz (H p)with |some xs=>decide (xs.length<=60)&&xs.all bj|none=>false)=false;rw[h];show(decide (xs.length<=60)&&xs.all bj)=false;rw[n,dQ]
section
variable {G:Gam}{K:ae}{E:XS}{σ:L2.St}{H:Hp}
theorem mk_bad{c:Const}(h:Atom (cv c)):Mk G K E σ H (.con c) Bad:=wR.imp fun v _ _ e=>by rw[show v=cv c from e];exact HC h
theorem mk_lone{e:CE}(h:Mk G K E σ H e NoC):Mk G K E σ H (.lst (.cons e .nil)) Bad:=(AF (oy h yd) (nX yd) len_one).imp fun _ _ _=>bad_one
end
section
variable {G:Gam}{K:ae}{E:XS}{σ:L2.St}{H:Hp}
theorem mk_dic:Mk G K E σ H (.dic .nil) Bad:=fun H' s Q q=>by
 unfold wpE;exact .inl ⟨rfl,fun p hp=>q _ _ (aA hp) (bad_dic ax)⟩
end
end K02
namespace K23
open PySem PySem.Spec PyProof.Rows L2 R Cp Lt Kc K21 K02
section
variable {G:Gam}{K:ae}{E:XS}{σ:L2.St}{H:Hp}{t r:Addr}{nf:Nat->Str}{n j:Nat}{ys rs:List V}
theorem mk_nocP{a e:CE}{Ra Rb:V->Hp->Prop}(sa:jY Ra)(ha:Mk G K E σ H a Ra)(sb:jY Rb)(hb:Mk G K E σ H e Rb)(k:∀v w H',Ra v H'->Rb w H'->Kn2 H' v/\Kn2 H' w/\(isName v=false\/bQ H' w=false)):Mk G K E σ H (.tup (.cons a (.cons e .nil))) NoC:=(AE (mkl_two ha sa hb sb) (EY sa sb) len_two).imp fun v H' _ h=>by
 obtain⟨p,vs,e1,e2,a,b,e3,e4,e5⟩:=h;subst e1 e3;obtain⟨k1,k2,k3⟩:=k _ _ _ e4 e5;refine noc_tup e2 (by simp) (fun y hy=>?_) fun x y z=>?_
 ·simp only[aC,dj,or_false]at hy
  rcases hy with rfl|rfl
  ·exact k1
  ·exact k2
 ·injection z with z1 z2
  injection z2 with z2 _;subst z1 z2;exact k3
theorem EZ:jY (fun v H'=>Kn2 H' v/\bQ H' v=false):=fun v H H' s ⟨a,b⟩=>⟨a.same s,by rw[pP a.1.1 s];exact b⟩
theorem mk_noR1{c:Const}(ha:Atom (cv c))(hr:bj (cv c)=false):Mk G K E σ H (.tup (.cons (.con c) .nil)) (fun v H'=>Kn2 H' v/\bQ H' v=false):=(AE (oy wR kJ) (nX kJ) len_one).imp fun v H' _ h=>by
 obtain⟨p,vs,e1,e2,a,e3,e4⟩:=h;subst e1 e3;rw[show a=_ from e4]at e2;refine⟨kn2_tup e2 (by simp) fun y hy=>by rw[aO.mp hy];exact oE ha,are_tup e2 ?_⟩;simp[hr]
end
theorem nC{P:CE->Prop}{a:CE}{r:CL}(h:P a)(k:Ea P r):Ea P (.cons a r):=⟨h,k⟩
theorem alln{P:CE->Prop}:Ea P .nil:=trivial
end K23
namespace K32
open PySem R
noncomputable def wF:List Str:=["_law_which","_law_table","_law_name"]
noncomputable def oq:List Str:=["_law_which","_law_table","_law_name","_law_truths_here","e"]
noncomputable def dm:CB:=
  (.cons (.ret (.var 3))
  .nil)
noncomputable def lY:CB:=
  (.cons (.tryc "KinError" 4
  (.cons (.iff (.cmp .Eq (.var 0) (.con (.int 0)))
  (.cons (.expr (.call "tree" (.cons (.var 1) .nil)))
  .nil)
  (.cons (.expr (.call "node_of" (.cons (.var 1) (.cons (.var 2) .nil))))
  .nil))
  .nil)
  (.cons (.asg (.name 3) (.lst (.cons (.bfn .isx (.cons (.var 4) (.cons (.glo "NoTable") .nil))) (.cons (.bfn .isx (.cons (.var 4) (.cons (.glo "NoName") .nil))) (.cons (.bfn .isx (.cons (.var 4) (.cons (.glo "Clash") .nil))) (.cons (.bfn .isx (.cons (.var 4) (.cons (.ty .valueError) .nil))) .nil))))))
  (.cons (.asg (.name 3) (.bin .Add (.var 3) (.lst (.cons (.bfn .isx (.cons (.var 4) (.cons (.glo "NoPlace") .nil))) (.cons (.bfn .isx (.cons (.var 4) (.cons (.glo "NoReading") .nil))) .nil)))))
  (.cons (.iff (.bfn .isx (.cons (.var 4) (.cons (.glo "Clash") .nil)))
  (.cons (.expr (.meth1 .append (.var 3) (.tup (.cons (.fld (.var 4) "one") (.cons (.fld (.var 4) "other") (.cons (.fld (.var 4) "names") .nil))))))
  .nil)
  .nil)
  .nil))))
  dm)
noncomputable def oM:CB:=
  (.cons (.asg (.name 3) (.lst .nil))
  lY)
noncomputable def p_law:List Str:=["_law_script"]
noncomputable def Ge:List Str:=["_law_script","_law_cell","_law_many","_law_names_here","_law_cells","_law_table","_law_nodes","_law_links","_law_held_here","_law_name","_law_readings","_law_found","_law_reading","_law_draw_here","_law_odd","_law_bad","_law_no_table","_law_due"]
noncomputable def zl:CB:=
  (.cons (.ret (.cmp .Eq (.call "_law_truths" (.cons (.con (.int 0)) (.cons (.var 5) (.cons (.con (.str "")) .nil)))) (.lst (.cons (.con (.bool false)) (.cons (.con (.bool false)) (.cons (.con (.bool true)) (.cons (.con (.bool true)) (.cons (.con (.bool false)) (.cons (.con (.bool false)) (.cons (.var 17) .nil))))))))))
  .nil)
noncomputable def zm:CB:=
  (.cons (.iff (.cmp .Is (.var 17) (.con .none))
  (.cons (.ret (.cmp .Eq (.call "_law_truths" (.cons (.con (.int 0)) (.cons (.var 5) (.cons (.con (.str "")) .nil)))) (.lst .nil)))
  .nil)
  .nil)
  zl)
noncomputable def sZ:CB:=
  (.cons (.asg (.name 17) (.call "clash" (.cons (.var 5) .nil)))
  zm)
noncomputable def td:CB:=
  (.cons (.iff (.or (.cmp .NotEq (.call "_law_truths" (.cons (.con (.int 1)) (.cons (.var 15) (.cons (.var 14) .nil)))) (.var 16)) (.cmp .NotEq (.call "_law_truths" (.cons (.con (.int 0)) (.cons (.var 15) (.cons (.con (.str "")) .nil)))) (.var 16)))
  (.cons (.ret (.con (.bool false)))
  .nil)
  .nil)
  sZ)
noncomputable def tf:CB:=
  (.cons (.asg (.name 16) (.lst (.cons (.con (.bool true)) (.cons (.con (.bool false)) (.cons (.con (.bool false)) (.cons (.con (.bool true)) (.cons (.con (.bool false)) (.cons (.con (.bool false)) .nil))))))))
  td)
noncomputable def tj:CB:=
  (.cons (.asg (.name 15) (.idx (.lst (.cons (.con .none) (.cons (.bfn .tuple (.cons (.var 5) .nil)) (.cons (.bin .Add (.var 5) (.cut (.var 5) .no (.yes (.con (.int 1))))) (.cons (.bin .Add (.var 5) (.lst (.cons (.con .none) .nil))) (.cons (.lst (.cons (.tup (.cons (.con (.str "a")) (.cons (.tup (.cons (.con (.int 2)) .nil)) .nil))) .nil)) (.cons (.dic .nil) .nil))))))) (.bin .Mod (.bin .FloorDiv (.var 13) (.con (.int 9))) (.con (.int 6)))))
  tf)
noncomputable def zo:CB:=
  (.cons (.iff (.cmp .NotEq (.call "_law_truths" (.cons (.con (.int 1)) (.cons (.var 5) (.cons (.var 14) .nil)))) (.lst (.cons (.con (.bool false)) (.cons (.con (.bool true)) (.cons (.con (.bool false)) (.cons (.con (.bool true)) (.cons (.con (.bool false)) (.cons (.con (.bool false)) .nil))))))))
  (.cons (.ret (.con (.bool false)))
  .nil)
  .nil)
  tj)
noncomputable def zq:CB:=
  (.cons (.asg (.name 14) (.idx (.lst (.cons (.idx (.var 3) (.con (.int 10))) (.cons (.con .none) (.cons (.con (.int 3)) (.cons (.con (.str "")) (.cons (.con (.str "A")) (.cons (.con (.bool true)) (.cons (.lst (.cons (.idx (.var 3) (.con (.int 0))) .nil)) (.cons (.tup (.cons (.idx (.var 3) (.con (.int 0))) .nil)) (.cons (.bin .Add (.idx (.var 3) (.con (.int 0))) (.con (.str "zzzzzzzz"))) .nil)))))))))) (.bin .Mod (.var 13) (.con (.int 9)))))
  zo)
noncomputable def xq:CB:=
  (.cons (.asg (.name 13) (.call "_law_draw" (.cons (.var 1) (.cons (.con (.int 5)) .nil))))
  zq)
noncomputable def xr:CB:=
  (.cons (.forr (.tup (.cons (.name 9) (.cons (.name 10) .nil))) (.seq (.var 5))
  (.cons (.asg (.name 11) (.call "node_of" (.cons (.var 5) (.cons (.var 9) .nil))))
  (.cons (.iff (.or (.not (.bfn .isinstance (.cons (.var 11) (.cons (.ty .tuple) .nil)))) (.cmp .NotEq (.var 11) (.var 10)))
  (.cons (.ret (.con (.bool false)))
  .nil)
  .nil)
  (.cons (.forr (.name 12) (.seq (.var 11))
  (.cons (.iff (.not (.call "_law_whole" (.cons (.var 12) .nil)))
  (.cons (.ret (.con (.bool false)))
  .nil)
  .nil)
  .nil))
  .nil))))
  xq)
noncomputable def xu:CB:=
  (.cons (.iff (.cmp .Eq (.bin .Mod (.call "_law_draw" (.cons (.var 1) (.cons (.con (.int 4)) .nil))) (.con (.int 3))) (.con (.int 0)))
  (.cons (.asg (.tup (.cons (.name 6) (.cons (.name 7) .nil))) (.call "_law_grown" (.cons (.var 4) (.cons (.var 2) .nil))))
  (.cons (.asg (.name 8) (.call "_law_held" (.cons (.var 4) (.cons (.var 6) .nil))))
  (.cons (.asgc 5 (.comp ["_law_k"] [3,6,8] (.name 0) (.range1 (.bfn .len (.cons (.var 8) .nil))) .no (.tup (.cons (.idx (.var 1) (.var 0)) (.cons (.idx (.var 2) (.idx (.var 3) (.var 0))) .nil)))))
  .nil)))
  .nil)
  xr)
noncomputable def Ca:CB:=
  (.cons (.asg (.name 5) (.call "_law_random" (.cons (.var 4) (.cons (.cut (.var 3) .no (.yes (.con (.int 10)))) (.cons (.var 2) .nil)))))
  xu)
noncomputable def Cb:CB:=
  (.cons (.asg (.name 4) (.bin .Add (.lst (.cons (.var 1) .nil)) (.cut (.var 0) (.yes (.con (.int 3))) (.yes (.con (.int 12))))))
  Ca)
noncomputable def Cc:CB:=
  (.cons (.asg (.name 3) (.call "_law_names" (.cons (.call "_law_cell_at" (.cons (.var 0) (.cons (.con (.int 0)) .nil))) (.cons (.con (.int 11)) .nil))))
  Cb)
noncomputable def Cd:CB:=
  (.cons (.asg (.name 2) (.bin .Mod (.call "_law_draw" (.cons (.var 1) (.cons (.con (.int 3)) .nil))) (.con (.int 9))))
  Cc)
noncomputable def Ce:CB:=
  (.cons (.asg (.name 1) (.call "_law_cell_at" (.cons (.var 0) (.cons (.con (.int 1)) .nil))))
  Cd)
noncomputable def HA:CB:=
  (.cons (.asgc 0 (.comp ["_law_cell"] [0] (.name 0) (.seq (.var 0)) .no (.bin .Add (.bin .Mult (.con (.int 2)) (.var 0)) (.bin .Mod (.bfn .sum (.cons (.cut (.var 1) .no (.yes (.con (.int 1)))) .nil)) (.con (.int 2))))))
  Ce)
end K32
namespace K32
open PySem PySem.Spec PyProof.Rows L2 R Cp Lt Kc K21 K22 K02 Lm M5
structure Xs(G:Gam)(K:ae)(CE C CN CC CP CR:Addr):Prop where
 v0:G.val "KinError"=some (.ref CE)
 v1:G.val "NoTable"=some (.ref C)
 v2:G.val "NoName"=some (.ref CN)
 v3:G.val "Clash"=some (.ref CC)
 v4:G.val "NoPlace"=some (.ref CP)
 v5:G.val "NoReading"=some (.ref CR)
structure Rf(K:ae)(CE C CN CC CP CR Ci:Addr)(b1 b2 b3:Bool):Prop where
 o:k7 K Ci=true
 m:PySem.W.exmOne K (.ref Ci) (.ref CE)=some true
 k1:cj K (.ref Ci) (.ref C)=some b1
 k2:cj K (.ref Ci) (.ref CN)=some b2
 k3:cj K (.ref Ci) (.ref CC)=some b3
 kv:cj K (.ref Ci) (.type "ValueError")=some true
 k4:cj K (.ref Ci) (.ref CP)=some false
 k5:cj K (.ref Ci) (.ref CR)=some false
noncomputable def su3:CB:=.cons (.iff (.bfn .isx (.cons (.var 4) (.cons (.glo "Clash") .nil))) (.cons (.expr (.meth1 .append (.var 3) (.tup (.cons (.fld (.var 4) "one") (.cons (.fld (.var 4) "other") (.cons (.fld (.var 4) "names") .nil)))))) .nil) .nil) .nil
noncomputable def su1:CB:=.cons (.asg (.name 3) (.lst (.cons (.bfn .isx (.cons (.var 4) (.cons (.glo "NoTable") .nil))) (.cons (.bfn .isx (.cons (.var 4) (.cons (.glo "NoName") .nil))) (.cons (.bfn .isx (.cons (.var 4) (.cons (.glo "Clash") .nil))) (.cons (.bfn .isx (.cons (.var 4) (.cons (.ty .valueError) .nil))) .nil))))))
  (.cons (.asg (.name 3) (.bin .Add (.var 3) (.lst (.cons (.bfn .isx (.cons (.var 4) (.cons (.glo "NoPlace") .nil))) (.cons (.bfn .isx (.cons (.var 4) (.cons (.glo "NoReading") .nil))) .nil))))) su3)
noncomputable def Dk(H:Hp)(d:Option Addr):Prop:=∀dd,d=some dd->∃fs,H dd=some (xdO dd fs)
theorem Dk.same{H H':Hp}{d:Option Addr}(h:Dk H d)(s:aG H H'):Dk H' d:=fun dd e=>let⟨fs,f⟩:=h dd e;⟨fs,s _ _ f⟩
theorem AS{K:ae}{H:Hp}{a C D:Addr}{d:Option Addr}{b:Bool}{Q:VK}(e:H a=some (lR a (.ref C) d))(hd:Dk H d)(o:k7 K C=true)(k:cj K (.ref C) (.ref D)=some b)(q:Q (.bl b) H):rBf K .isx [.ref a,.ref D] H Q:=
 ⟨a,C,d,_,_,b,rfl,e,hd,o,.inr ⟨D,rfl,rfl⟩,k,q⟩
theorem isxV{K:ae}{H:Hp}{a C:Addr}{d:Option Addr}{b:Bool}{Q:VK}(e:H a=some (lR a (.ref C) d))(hd:Dk H d)(o:k7 K C=true)(k:cj K (.ref C) (.type "ValueError")=some b)(q:Q (.bl b) H):rBf K .isx [.ref a,.ty "ValueError"] H Q:=
 ⟨a,C,d,_,_,b,rfl,e,hd,o,.inl ⟨_,rfl,rfl⟩,k,q⟩
section
variable {G:Gam}{K:ae}{CE C CN CC CP CR:Addr}{T:Tb}
theorem Hu(X:Xs G K CE C CN CC CP CR){Ci:Addr}{b1 b2 b3:Bool}(F:Rf K CE C CN CC CP CR Ci b1 b2 b3){D:Ends}{H':Hp}{d:Option Addr}{a b c e f:Option V}(hd:Dk H' d)
  (q:∀H'' x l,aG H' H''->H' l=none->H'' x=some (lR x (.ref Ci) d)->H'' l=some (.lst ([b1,b2,b3,true,false,false].map V.bl))->wpB G K N0 su3 (D.drop 4) [a,b,c,some (.ref l),some (.ref x)] H''):
  kP K CE 4 (wpB G K N0 su1) D [a,b,c,e,f] (.ref Ci) d H':=by
 refine⟨rfl,F.m,fun x hx=>?_⟩;generalize hX:upd H' x _=H1;obtain⟨s0,ex⟩:=jf hX hx;clear hX;have hd:=hd.same s0;unfold su1;walk_at "wp";refine⟨_,X.v1,AS ex hd F.o F.k1 ⟨_,X.v2,AS ex hd F.o F.k2 ⟨_,X.v3,AS ex hd F.o F.k3 (isxV ex hd F.o F.kv ⟨short (by simp),fun l hl=>?_⟩)⟩⟩⟩;generalize hX:upd H1 l _=H2;obtain⟨s1,e1⟩:=jf hX hl;clear hX;have ex:=s1 _ _ ex;have hd:=hd.same s1;refine⟨_,X.v4,AS ex hd F.o F.k4 ⟨_,X.v5,AS ex hd F.o F.k5 ⟨short (by simp),fun l2 hl2=>?_⟩⟩⟩;generalize hX:upd H2 l2 _=H3;obtain⟨s2,e2⟩:=jf hX hl2;clear hX;refine .inr (.inr (.inl ⟨l,l2,_,_,rfl,rfl,s2 _ _ e1,e2,short (by simp),fun p hp=>?_⟩));exact q _ x p (s0.trans (s1.trans (s2.trans (aA hp)))) ((s0.trans (s1.trans s2)).free hp) (aA hp _ _ (s2 _ _ ex)) ax
theorem B9(X:Xs G K CE C CN CC CP CR){Ci:Addr}{b1 b2:Bool}(F:Rf K CE C CN CC CP CR Ci b1 b2 false){D:Ends}{E:XS}{Q:VK}(hr:D.rt=Q){H':Hp}{a b c e f:Option V}
  (q:∀H'' l,aG H' H''->H'' l=some (.lst ([b1,b2,false,true,false,false].map V.bl))->Q (.ref l) H''):
  kP K CE 4 (wpB G K N0 su1) {nx:=wpB G K E dm D,rt:=D.rt,bk:=D.bk,ct:=D.ct} [a,b,c,e,f] (.ref Ci) none H':=by
 have hd:∀{H:Hp},Dk H none:=fun dd e=>by cases e
 refine Hu X F hd fun H2 x l s2 _ ex el=>?_;unfold su3;walk_at "wp";refine⟨_,X.v3,AS ex hd F.o F.k3 ⟨_,rfl,?_⟩⟩;rw[if_neg aq];change wpB G K E dm D [a,b,c,some (.ref l),none] H2;unfold dm;walk_at "wp";rw[hr];exact q H2 l s2 el
theorem lk2{x y z:V}:(yY x y z).lookup (aQ "other")=some y:=by
 unfold yY;rw[aP,show((aQ "other")==(aQ "one"))=false by decide+kernel,aP,beq_self_eq_true]
theorem lk3{x y z:V}:(yY x y z).lookup (aQ "names")=some z:=by
 unfold yY;rw[aP,show((aQ "names")==(aQ "one"))=false by decide+kernel,aP,show((aQ "names")==(aQ "other"))=false by decide+kernel,aP,beq_self_eq_true]
theorem caught1(X:Xs G K CE C CN CC CP CR)(F:Rf K CE C CN CC CP CR CC false false true)(f1:jk K CC "one"=true)(f2:jk K CC "other"=true)(f3:jk K CC "names"=true){D:Ends}{E:XS}{Q:VK}(hr:D.rt=Q){H':Hp}{dd:Addr}{x y z:V}{a b c e f:Option V}(ed:H' dd=some (xdO dd (yY x y z)))
  (q:∀H'' l p,aG H' H''->H'' l=some (.lst ([false,false,true,true,false,false].map V.bl++[.ref p]))->H'' p=some (.tup [x,y,z])->Q (.ref l) H''):
  kP K CE 4 (wpB G K N0 su1) {nx:=wpB G K E dm D,rt:=D.rt,bk:=D.bk,ct:=D.ct} [a,b,c,e,f] (.ref CC) (some dd) H':=by
 have hd:∀{H:Hp},aG H' H->Dk H (some dd):=fun s dd' e=>by cases e;exact⟨_,s _ _ ed⟩
 refine Hu X F (hd (aG.refl _)) fun H2 w l s2 fl ex el=>?_;have ed:=s2 _ _ ed;unfold su3;walk_at "wp";refine⟨_,X.v3,AS ex (hd s2) F.o F.k3 ⟨_,rfl,?_⟩⟩;rw[if_pos rfl];refine⟨.inl ⟨rfl,_,SqL.of el⟩,?_⟩;refine⟨w,CC,dd,_,x,rfl,ex,ed,f1,rfl,?_⟩;refine⟨w,CC,dd,_,y,rfl,ex,ed,f2,lk2,?_⟩;refine⟨w,CC,dd,_,z,rfl,ex,ed,f3,lk3,⟨short (by simp),fun p hp=>?_⟩⟩;generalize hX:upd H2 p _=H3;obtain⟨s3,ep⟩:=jf hX hp;clear hX;have el:=s3 _ _ el;refine⟨l,_,_,rfl,rfl,el,cy (show 6<=40 by decide) (by decide),?_⟩;have s4:aG H' (upd H3 l (.lst ([false,false,true,true,false,false].map V.bl++[.ref p]))):=fm (s2.trans s3) fl;have el4:upd H3 l (.lst ([false,false,true,true,false,false].map V.bl++[.ref p])) l=some (.lst ([false,false,true,true,false,false].map V.bl++[.ref p])):=ax;have ep4:upd H3 l (.lst ([false,false,true,true,false,false].map V.bl++[.ref p])) p=some (.tup [x,y,z]):=by
  rw[aL (fun e=>by rw[e,el]at ep;cases ep)];exact ep
 change wpB G K E dm D [a,b,c,some (.ref l),none] (upd H3 l (.lst ([false,false,true,true,false,false].map V.bl++[.ref p])));generalize upd H3 l (.lst ([false,false,true,true,false,false].map V.bl++[.ref p]))=H4 at s4 el4 ep4⊢;unfold dm;walk_at "wp";rw[hr];exact q H4 l p s4 el4 ep4
theorem nW{H H1:Hp}{x:V}(e:bO H x=true)(s:aG H H1):rowsOf H1 x=rowsOf H x/\∀y,sE H1 x y↔sE H x y:=by
 obtain⟨a,ys,rfl,h1,h2,h3,h4,h5⟩:=cT e;have h1':cn (H1 a)=some ys:=by
  cases eh:H a with
  |none=>rw[eh]at h1;cases h1
  |some o=>rw[s _ _ eh,<-eh];exact h1
 have ecd:∀c∈ys,cd H1 c=cd H c:=fun c hc=>by
  obtain⟨b,r,rfl,k1,k2,_⟩:=gP (h3 c hc);exact(jb (s _ _ k1) (s _ _ k2)).trans (jb k1 k2).symm
 have en:∀c∈ys,aE H1 c=aE H c:=fun c hc=>congrArg nN (ecd c hc);refine⟨?_,fun y=>?_⟩
 ·unfold rowsOf
  rw[jC h1,jC h1',bP en];exact bP fun c hc=>ecd c ((_root_.Q.eG V.non h4 (by simp)).mem_iff.mp hc)
 ·constructor
  ·rintro⟨a',ys',z,c,e1,e2,e3,hc,e4⟩
   cases e1;rw[h1']at e2;cases e2;exact⟨a,ys,z,c,rfl,h1,e3,hc,by rw[<-en c hc];exact e4⟩
  ·rintro⟨a',ys',z,c,e1,e2,e3,hc,e4⟩
   cases e1;rw[h1]at e2;cases e2;exact⟨a,ys,z,c,rfl,h1',e3,hc,by rw[en c hc];exact e4⟩
noncomputable def NT:List Bool:=[true,false,false,true,false,false]
noncomputable def NN:List Bool:=[false,true,false,true,false,false]
noncomputable def NC:List Bool:=[false,false,true,true,false,false]
noncomputable def vT(T:Tb):Sp:=fun vs H Q _=>∃(w:Int)(x y:V),vs=[.int w,x,y]/\Kn4 H x/\Known H y/\(∀z,y=.str z->z.length<=20000)/\Tab T H/\(w≠0->bO H x=true->¬sE H x y)/\
 (bO H x=false->∀H' l,aG H H'->H' l=some (.lst (NT.map V.bl))->Q (.ref l) H')/\
 (bO H x=true->w≠0->∀H' l,aG H H'->H' l=some (.lst (NN.map V.bl))->Q (.ref l) H')/\
 (bO H x=true->w=0->NoC (rowsOf H x) (count H x)->∀H' l,Gr T H H'->H' l=some (.lst [])->Q (.ref l) H')/\
 (bO H x=true->w=0->∀H' (i j:Nat)(p l' l:Addr),tI (rowsOf H x) (count H x) i j->Gr T H H'->H' l=some (.lst (NC.map V.bl++[.ref p]))->H' p=some (.tup [.int i,.int j,.ref l'])->H' l'=some (.tup ((KP.map (p8 (rowsOf H x) i j)).map V.str))->Q (.ref l) H')
theorem CA(X:Xs G K CE C CN CC CP CR)(F1:Rf K CE C CN CC CP CR C true false false)(F2:Rf K CE C CN CC CP CR CN false true false)(F3:Rf K CE C CN CC CP CR CC false false true)(f1:jk K CC "one"=true)(f2:jk K CC "other"=true)(f3:jk K CC "names"=true)
  (g1:G.fn "tree" 1=some (z9 C CC T,[]))(g2:G.fn "node_of" 2=some (pw C CN T,[])):
  Sat G K (vT T) oM oq:=by
 rintro vs H Q E ⟨w,x,y,rfl,hx,ky,hyl,tb,hno,q1,q2,q3,q4⟩;unfold oM;change wpB G K _ _ _ [some (.int w),some x,some y,none,none] H;walk_at "wp";refine⟨short (by simp),fun l0 hl0=>?_⟩;have s1:aG H (upd H l0 (.lst [])):=aA hl0;have e1:upd H l0 (.lst []) l0=some (.lst []):=ax;have tb1:Tab T (upd H l0 (.lst [])):=(Gr.of s1).tab tb;have hx1:=hx.same s1;have ky1:=(ky.same s1).1;have ht:=m9 hx s1;generalize upd H l0 (.lst [])=H1 at s1 e1 tb1 hx1 ky1 ht⊢;unfold lY;refine⟨CE,X.v0,?_⟩;have ret:∀{E:XS}{D:Ends}{H':Hp}{a b c f:Option V},D.rt=Q->Q (.ref l0) H'->wpB G K E dm D [a,b,c,some (.ref l0),f] H':=fun hr h=>by
  unfold dm;walk_at "wp";rw[hr];exact h
 have c1:=fun{D:Ends}{E:XS}(hr:D.rt=Q){H':Hp}{a b c e f:Option V}=>B9 (Q:=Q) X F1 (D:=D) (E:=E) hr (H':=H') (a:=a) (b:=b) (c:=c) (e:=e) (f:=f);have c2:=fun{D:Ends}{E:XS}(hr:D.rt=Q){H':Hp}{a b c e f:Option V}=>B9 (Q:=Q) X F2 (D:=D) (E:=E) hr (H':=H') (a:=a) (b:=b) (c:=c) (e:=e) (f:=f);have c3:=fun{D:Ends}{E:XS}(hr:D.rt=Q){H':Hp}{dd:Addr}{x y z:V}{a b c e f:Option V}=>caught1 (Q:=Q) X F3 f1 f2 f3 (D:=D) (E:=E) hr (H':=H') (dd:=dd) (x:=x) (y:=y) (z:=z) (a:=a) (b:=b) (c:=c) (e:=e) (f:=f);unfold su1 su3 at c1 c2 c3;walk_at "wp";by_cases hw:w=0
 ·rw[decide_eq_true hw,if_pos rfl]
  refine⟨_,_,g1,x,rfl,hx1,tb1,fun z H' s'=>c1 rfl fun H'' l s'' el=>?_,fun z=>⟨fun nc H' p gr hp _=>ret rfl ?_,fun H' i j l' dd gr fi el' ed=>c3 rfl ed fun H'' l p s'' el ep=>?_⟩⟩
  ·rw[ht]at z
   exact q1 z H'' l (s1.trans (s'.trans s'')) el
  ·rw[ht]at z
   rw[(nW z s1).1,sS hx s1]at nc;exact q3 z hw nc H' l0 ((Gr.of s1).trans gr) (gr.lst tb1 e1)
  ·rw[ht]at z
   rw[(nW z s1).1,sS hx s1]at fi;rw[(nW z s1).1]at el';exact q4 z hw H'' i j p l' l fi ((Gr.of s1).trans (gr.trans (Gr.of s''))) el ep (s'' _ _ el')
 ·rw[decide_eq_false hw,if_neg aq]
  refine⟨_,_,g2,x,y,rfl,hx1,ky1,hyl,tb1,fun z H' s'=>c1 rfl fun H'' l s'' el=>?_,fun z=>⟨fun _ H' s'=>c2 rfl fun H'' l s'' el=>?_,fun hh=>?_⟩⟩
  ·rw[ht]at z
   exact q1 z H'' l (s1.trans (s'.trans s'')) el
  ·rw[ht]at z
   exact q2 z hw H'' l (s1.trans (s'.trans s'')) el
  ·rw[ht]at z
   exact absurd (((nW z s1).2 y).mp hh) (hno hw z)
end
structure Lw(T:Tb)(H:Hp)(t l:Addr)(c:Int)(n:Nat)(ys:List V):Prop where
 tb:Tab T H
 et:H t=some (.lst ys)
 el:H l=some (.lst ((az 11).map fun k=>V.str (K21.nm c k)))
 dr:Dr H (K21.nm c) n ys
 y0:ys≠[]
 yl:ys.length<=10
 n8:n<=8
section
variable {G:Gam}{K:ae}{CE C CN CC CP CR:Addr}{T:Tb}{H H':Hp}{t l:Addr}{c:Int}{n:Nat}{ys:List V}{E:XS}{D:Ends}
theorem Lw.gr(L:Lw T H t l c n ys)(g:Gr T H H'):Lw T H' t l c n ys:=
 {L with tb:=g.tab L.tb,et:=g.lst L.tb L.et,el:=g.lst L.tb L.el,dr:=fun i y e=>let⟨b,r,zs,h1,h2,h3,h4⟩:=L.dr i y e;⟨b,r,zs,h1,g.nU L.tb h2,g.nU L.tb h3,h4⟩}
theorem Lw.same(L:Lw T H t l c n ys)(s:aG H H'):Lw T H' t l c n ys:=L.gr (Gr.of s)
theorem Lw.inj(L:Lw T H t l c n ys):∀i j,i<ys.length->j<ys.length->K21.nm c i=K21.nm c j->i=j:=fun i j hi hj e=>by
 have :=L.yl
 exact K21.AA (by omega) (by omega) e
theorem Lw.tab(L:Lw T H t l c n ys):Kn4 H (.ref t)/\bO H (.ref t)=true:=by
 have :=L.yl
 have :=L.n8
 obtain⟨k1,k2,_⟩:=lU (K21.mI c) L.inj L.et L.dr (by omega) (by omega);exact⟨k1,k2⟩
theorem Lw.rows(L:Lw T H t l c n ys)(g:Gr T H H'):rowsOf H' (.ref t)=rowsOf H (.ref t)/\count H' (.ref t)=count H (.ref t):=by
 have :=L.yl
 have b:=tb2_of L.et (by omega) L.n8 L.dr L.tb g;exact⟨b.ro,b.ct⟩
noncomputable def Od(c:Int)(v:V)(H:Hp):Prop:=Known H v/\∀z,v=.str z->z.length<=20000/\∀i,i<10->z≠K21.nm c i
theorem nY:jY (Od c):=fun v H H' s h=>⟨(h.1.same s).1,h.2⟩
theorem Lw.no(L:Lw T H t l c n ys){v:V}(h:Od c v H):¬sE H (.ref t) v:=by
 rintro⟨a,ys',z,y,e1,e2,rfl,hy,e4⟩;cases e1;rw[show cn (H t)=some ys by rw[L.et];rfl]at e2;cases e2;obtain⟨i,hi⟩:=bH.mp hy;have h2:=(ik (K21.mI c) L.dr (by have :=L.n8;omega) hi).2.1;have h3:=(aM.mp hi).1;exact(h.2 z rfl).2 i (by have :=L.yl;omega) (by rw[<-e4,h2])
theorem CJ(g5:G.fn "clash" 1=some (ic C T,[]))(g7:G.fn "_law_truths" 3=some (vT T,[])){Q:VK}(hr:D.rt=Q)(qq:∀H',Q (.bl true) H')(L:Lw T H t l c n ys){a0 a1 a2 a3 a4 a6 a7 a8 a9 a10 a11 a12 a13 a14 a15 a16 a17:Option V}:
  wpB G K E sZ D [a0,a1,a2,a3,a4,some (.ref t),a6,a7,a8,a9,a10,a11,a12,a13,a14,a15,a16,a17] H:=by
 unfold sZ;walk_at "wp";refine⟨_,_,g5,.ref t,rfl,L.tab.1,L.tb,fun _ H1 v gr rs=>?_,fun z=>by(rw[L.tab.2]at z;cases z)⟩;have L1:=L.gr gr;have ro1:=L.rows gr;unfold zm;walk_at "wp";rcases rs with⟨rfl,nc⟩ |⟨i,j,a,l',rfl,fi,ea,el⟩
 ·rw[if_pos (by simp)]
  refine⟨_,_,g7,0,.ref t,_,rfl,L1.tab.1,lQ,fun z e=>by(cases e;exact(by decide+kernel)),L1.tb,fun z=>absurd rfl z,fun z=>by(rw[L1.tab.2]at z;cases z),fun _ z=>absurd rfl z,fun _ _ _ H2 l2 gr2 el2=>⟨short (by simp),fun m hm=>?_⟩,fun _ _ H2 i j p l2 l3 fi=>?_⟩
  ·refine eq_bls (bs:=[]) (aA hm _ _ el2) ax ?_
   rw[hr];exact qq _
  ·rw[ro1.1,ro1.2]at fi
   have :=nc i j fi.ij fi.jn
   rw[fi.four]at this;cases this
 ·rw[if_neg (by simp)]
  unfold zl;walk_at "wp";refine⟨_,_,g7,0,.ref t,_,rfl,L1.tab.1,lQ,fun z e=>by(cases e;exact(by decide+kernel)),L1.tb,fun z=>absurd rfl z,fun z=>by(rw[L1.tab.2]at z;cases z),fun _ z=>absurd rfl z,fun _ _ nc=>?_,fun _ _ H2 i' j' p l2 l3 fi' gr2 el3 ep el2=>⟨short (by simp),fun m hm=>?_⟩⟩
  ·rw[ro1.1,ro1.2]at nc
   have :=nc i j fi.ij fi.jn
   rw[fi.four]at this;cases this
  ·rw[ro1.1,ro1.2]at fi'
   rw[ro1.1]at el2;obtain⟨rfl,rfl⟩:=fi.one fi';have ea2:=gr2.nU L1.tb ea;have el22:=gr2.nU L1.tb el;generalize KP.map (p8 (rowsOf H (.ref t)) i j)=nms at el2 el22;generalize hX:upd H2 m _=H3;obtain⟨s3,em⟩:=jf hX hm;clear hX;have rep:∀{a l:Addr},H2 a=some (.tup [.int i,.int j,.ref l])->H2 l=some (.tup (nms.map V.str))->Rep K H3 (.tup [.int i,.int j,.tup (nms.map L2.D.str)]) (.ref a):=fun{a l} e1 e2=>
    ⟨a,_,rfl,SqT.of (s3 _ _ e1),_,_,rfl,rfl,_,_,rfl,rfl,_,_,rfl,⟨l,_,rfl,SqT.of (s3 _ _ e2),uL _⟩,rfl⟩
   have rl:∀{a m:Addr},Rep K H3 (.tup [.int i,.int j,.tup (nms.map L2.D.str)]) (.ref a)->H3 m=some (.lst [V.bl false,V.bl false,V.bl true,V.bl true,V.bl false,V.bl false,V.ref a])->Rep K H3 (.lst [.bl false,.bl false,.bl true,.bl true,.bl false,.bl false,.tup [.int i,.int j,.tup (nms.map L2.D.str)]]) (.ref m):=fun{a m} r e=>
    ⟨m,_,rfl,SqL.of e,_,_,rfl,rfl,_,_,rfl,rfl,_,_,rfl,rfl,_,_,rfl,rfl,_,_,rfl,rfl,_,_,rfl,rfl,_,_,rfl,r,rfl⟩
   refine⟨_,_,rl (rep ep el2) (s3 _ _ el3),rl (rep ea2 el22) em,?_,?_⟩
   ·show max 0 (max 0 (max 0 (max 0 (max 0 (max 0 (max (max 0 (max 0 (max (fF (nms.map L2.D.str)+1) 0))+1) 0))))))+1<=30
    rw[u9];decide
   ·rw[sP]
    rw[hr];exact qq _
theorem CK(g5:G.fn "clash" 1=some (ic C T,[]))(g7:G.fn "_law_truths" 3=some (vT T,[])){Q:VK}(hr:D.rt=Q)(qq:∀H',Q (.bl true) H')(L:Lw T H t l c n ys){odd bad:V}(od:Od c odd H)(bd:Bad bad H){a0 a1 a2 a3 a4 a6 a7 a8 a9 a10 a11 a12 a13 a16 a17:Option V}:
  wpB G K E tf D [a0,a1,a2,a3,a4,some (.ref t),a6,a7,a8,a9,a10,a11,a12,a13,some odd,some bad,a16,a17] H:=by
 unfold tf;walk_at "wp";refine⟨short (by simp),fun nt hnt=>?_⟩;have s1:aG H (upd H nt (.lst (NT.map V.bl))):=aA hnt;have ent:upd H nt (.lst (NT.map V.bl)) nt=some (.lst (NT.map V.bl)):=ax;change wpB G K _ td _ _ (upd H nt (.lst (NT.map V.bl)));generalize upd H nt (.lst (NT.map V.bl))=H1 at s1 ent⊢;have L1:=L.same s1;have bd1:=nZ _ _ _ s1 bd;have od1:=nY _ _ _ s1 od;unfold td;walk_at "wp";refine⟨_,_,g7,1,bad,odd,rfl,bd1.1,od1.1,fun z e=>(od1.2 z e).1,L1.tb,fun _ z=>by(rw[bd1.2]at z;cases z),fun _ H2 l2 s2 e2=>?_,fun z=>by(rw[bd1.2]at z;cases z),fun z=>by(rw[bd1.2]at z;cases z),fun z=>by(rw[bd1.2]at z;cases z)⟩;refine AB e2 (s2 _ _ ent) ⟨_,rfl,?_⟩;rw[if_neg aq];have bd2:=nZ _ _ _ s2 bd1;refine⟨_,_,g7,0,bad,_,rfl,bd2.1,lQ,fun z e=>by(cases e;exact(by decide+kernel)),(L1.same s2).tb,fun z=>absurd rfl z,fun _ H3 l3 s3 e3=>?_,fun z=>by(rw[bd2.2]at z;cases z),fun z=>by(rw[bd2.2]at z;cases z),fun z=>by(rw[bd2.2]at z;cases z)⟩;refine AB e3 (s3 _ _ (s2 _ _ ent)) ⟨_,rfl,?_⟩;rw[if_neg aq];exact CJ g5 g7 hr qq ((L1.same s2).same s3)
section
variable {σ:L2.St}(L:Lw T H t l c n ys)(h5:σ[5]? =some (some (.ref t)))
include L h5
theorem mk_tupT:Mk G K E σ H (.bfn .tuple (.cons (.var 5) .nil)) Bad:=fun H' s Q q=>
 ⟨_,h5,t,ys,rfl,.inl ⟨SqL.of (s _ _ L.et),fun p hp=>q _ _ (aA hp) (bad_tup ax)⟩⟩
theorem kn3s(s:aG H H'):∀y∈ys,Kn3 H' y:=fun y hy=>by
 obtain⟨i,hi⟩:=bH.mp hy;exact(ik (K21.mI c) (L.dr.same s) (by have :=L.n8;omega) hi).2.2.2
theorem mk_none:Mk G K E σ H (.bin .Add (.var 5) (.lst (.cons (.con .none) .nil))) Bad:=fun H' s Q q=>by
 have hl:=L.yl;refine⟨_,h5,short (by show 1<=40;decide),fun m hm=>.inr (.inr (.inl ⟨t,m,ys,[.non],rfl,rfl,aA hm _ _ (s _ _ L.et),ax,short (by show ys.length+1<=40;omega),fun p hp=>?_⟩))⟩;have s2:=(aA (o:=.lst [V.non]) hm).trans (aA (o:=.lst (ys++[V.non])) hp);refine q _ _ s2 (xx ax (by simp;omega) (fun y hy=>?_) fun _ cp _ _=>?_)
 ·rcases dW.mp hy with hy|hy
  ·exact kn3s L h5 (s.trans s2) y hy
  ·rw[aO.mp hy];exact GK trivial
 ·have :=cp .non (by simp)
  cases this
theorem Gg:Mk G K E σ H (.bin .Add (.var 5) (.cut (.var 5) .no (.yes (.con (.int 1))))) Bad:=fun H' s Q q=>by
 have hl:=L.yl;obtain⟨y,r,rfl⟩:∃y r,ys=y::r:=by
  cases ys with
  |nil=>exact absurd rfl L.y0
  |cons y r=>exact⟨y,r,rfl⟩
 have ec:pM (y::r) none (some 1)=[y]:=by
  unfold pM;rw[HT.rO,show HT.sIx (y::r).length (y::r).length (some 1)=min 1 (y::r).length from HT.n9 _ _ 1,show min 1 (y::r).length=1 by simp];rfl
 refine⟨_,h5,_,h5,_,rfl,.inl ⟨t,y::r,rfl,SqL.of (s _ _ L.et),fun m hm=>?_⟩⟩;rw[ec];refine .inr (.inr (.inl ⟨t,m,y::r,[y],rfl,rfl,aA hm _ _ (s _ _ L.et),ax,short (by show(y::r).length+1<=40;omega),fun p hp=>?_⟩));have s2:=(aA (o:=.lst [y]) hm).trans (aA (o:=.lst ((y::r)++[y])) hp);refine q _ _ s2 (xx ax (by simp at hl⊢;omega) (fun z hz=>?_) fun _ _ nd _=>?_)
 ·rcases dW.mp hz with hz|hz
  ·exact kn3s L h5 (s.trans s2) z hz
  ·rw[aO.mp hz];exact kn3s L h5 (s.trans s2) y (.head _)
 ·rw[de,dA]at nd
  exact nd.2.2 _ (aV.mpr ⟨y,.head _,rfl⟩) _ (aV.mpr ⟨y,.head _,rfl⟩) rfl
theorem mk_a2:Mk G K E σ H (.lst (.cons (.tup (.cons (.con (.str "a")) (.cons (.tup (.cons (.con (.int 2)) .nil)) .nil))) .nil)) Bad:=
 mk_lone (K23.mk_nocP kJ wR K23.EZ (K23.mk_noR1 (c:=.int 2) trivial rfl) fun v w H' e kw=>by
  rw[show v=_ from e];exact⟨GL (by show _<=_;decide+kernel),kw.1,.inr kw.2⟩)
end
theorem CM(g5:G.fn "clash" 1=some (ic C T,[]))(g7:G.fn "_law_truths" 3=some (vT T,[])){Q:VK}(hr:D.rt=Q)(qq:∀H',Q (.bl true) H')(L:Lw T H t l c n ys){odd:V}(od:Od c odd H){d:Int}(hd:0<=d){a0 a1 a2 a3 a4 a6 a7 a8 a9 a10 a11 a12 a15 a16 a17:Option V}:
  wpB G K E tj D [a0,a1,a2,a3,a4,some (.ref t),a6,a7,a8,a9,a10,a11,a12,some (.int d),some odd,a15,a16,a17] H:=by
 unfold tj wpB R.wpS qD rC wpG kj;have ix:∀{σ:L2.St},σ[13]? =some (some (.int d))->Mk G K E σ H (.bin .Mod (.bin .FloorDiv (.var 13) (.con (.int 9))) (.con (.int 6))) (Is (.int (d/9%6))):=fun{σ} h H' s Q q=>by
  refine⟨_,h,?_⟩;walk_at "wp";exact⟨⟨by decide,by decide⟩,by decide,q _ _ (aG.refl _) rfl⟩
 refine Gh (n:=6) nZ (Gj nZ rfl (by decide) (K23.nC (mk_bad (c:=.none) trivial) (K23.nC (mk_tupT L rfl) (K23.nC (Gg L rfl) (K23.nC (mk_none L rfl) (K23.nC (mk_a2 L rfl) (K23.nC mk_dic K23.alln))))))) (ix rfl) (bw _ (by decide)) (bL _ (by decide)) H (aG.refl _) _ fun bad H1 s1 bd=>?_;simp only[qv,qw];exact CK g5 g7 hr qq (L.same s1) (nY _ _ _ s1 od) bd
theorem lG{v:V}(k:Known H v)(h:∀z,v≠.str z):Od c v H:=⟨k,fun z e=>absurd e (h z)⟩
theorem Ay{z:Str}(hz:z.length<=20000)(h:eR z=false):Od c (.str z) H:=⟨lQ,fun z' e=>by
 cases e;exact⟨hz,fun i _ e=>by rw[e,K21.mI]at h;cases h⟩⟩
theorem nm8(c:Int)(k:Nat):(K21.nm c k).length<=8/\1<=(K21.nm c k).length:=by
 have :=K21.mI c k
 unfold eR at this;rw[ah,decide_eq_true_eq]at this;omega
section
variable {σ:L2.St}(L:Lw T H t l c n ys)(h3:σ[3]? =some (some (.ref l)))
include L h3
theorem BO{k:Nat}(hk:k<11):Mk G K E σ H (.idx (.var 3) (.con (.int k))) (Is (.str (K21.nm c k))):=fun H' s Q q=>by
 have h:((az 11).map fun k=>V.str (K21.nm c k))[k]? =some (.str (K21.nm c k)):=by
  rw[aF,cG hk];rfl
 exact⟨_,h3,.inl ⟨l,_,k,_,rfl,rfl,SqL.of (s _ _ L.el),cH h,q _ _ (aG.refl _) rfl⟩⟩
theorem mk_ten:Mk G K E σ H (.idx (.var 3) (.con (.int 10))) (Od c):=(BO L h3 (k:=10) (by decide)).imp fun v H' _ e=>by
 rw[show v=_ from e];exact⟨lQ,fun z e=>by
  cases e;refine⟨by have :=(nm8 c 10).1;omega,fun i hi e=>?_⟩;have :=K21.AA (by decide) (by omega) e;omega⟩
theorem mk_zz:Mk G K E σ H (.bin .Add (.idx (.var 3) (.con (.int 0))) (.con (.str "zzzzzzzz"))) (Od c):=fun H' s Q q=>by
 refine BO L h3 (k:=0) (by decide) H' s _ fun v H2 s2 e=>?_;rw[show v=_ from e];show iy K .Add (.str (K21.nm c 0)) (.str (aQ "zzzzzzzz")) H2 _;have h8:(aQ "zzzzzzzz").length=8:=by decide+kernel
 have h0:=nm8 c 0;refine HF.mpr ⟨short (by rw[h8];omega),q _ _ s2 (Ay (by rw[sv,h8];omega) ?_)⟩;have hl:(K21.nm c 0++aQ "zzzzzzzz").length=(K21.nm c 0).length+8:=by rw[sv,h8]
 unfold eR;rw[hl,decide_eq_false (by omega),cQ]
theorem mk_lnm:Mk G K E σ H (.lst (.cons (.idx (.var 3) (.con (.int 0))) .nil)) (Od c):=(AF (oy (BO L h3 (k:=0) (by decide)) kJ) (nX kJ) len_one).imp fun v H' _ ⟨p,vs,e1,e2,_⟩=>by
 rw[e1];exact lG (AO e2) fun z e=>nomatch e
theorem mk_tnm:Mk G K E σ H (.tup (.cons (.idx (.var 3) (.con (.int 0))) .nil)) (Od c):=(AE (oy (BO L h3 (k:=0) (by decide)) kJ) (nX kJ) len_one).imp fun v H' _ ⟨p,vs,e1,e2,_⟩=>by
 rw[e1];exact lG (nj e2) fun z e=>nomatch e
end
theorem yD{σ:L2.St}{k:Const}(h:∀H':Hp,Od c (cv k) H'):Mk G K E σ H (.con k) (Od c):=wR.imp fun v H' _ e=>by rw[show v=cv k from e];exact h H'
theorem Ex(g1:G.fn "_law_draw" 2=some (gN,[]))(g5:G.fn "clash" 1=some (ic C T,[]))(g7:G.fn "_law_truths" 3=some (vT T,[])){Q:VK}(hr:D.rt=Q)(qq:∀H',Q (.bl true) H')(L:Lw T H t l c n ys){d0:Int}{a0 a2 a4 a6 a7 a8 a9 a10 a11 a12 a13 a14 a15 a16 a17:Option V}:
  wpB G K E xq D [a0,some (.int d0),a2,some (.ref l),a4,some (.ref t),a6,a7,a8,a9,a10,a11,a12,a13,a14,a15,a16,a17] H:=by
 unfold xq;walk_at "wp";refine⟨_,_,g1,d0,5,rfl,by decide,by decide,?_⟩;have hd:=w8 d0 5;generalize draw d0 5=d at hd⊢;unfold zq wpB R.wpS qD rC wpG kj;have ix:∀{σ:L2.St},σ[13]? =some (some (.int d))->Mk G K E σ H (.bin .Mod (.var 13) (.con (.int 9))) (Is (.int (d%9))):=fun{σ} h H' s Q q=>by
  refine⟨_,h,?_⟩;show iy K .Mod (.int d) (.int 9) H' _;rw[AD];exact⟨by decide,q _ _ (aG.refl _) rfl⟩
 refine Gh (n:=9) nY (Gj nY rfl (by decide) (K23.nC (mk_ten L rfl) (K23.nC (yD (k:=.none) fun _=>lG (v:=.non) (by show "NoneType"≠"?";decide) fun z e=>nomatch e) (K23.nC (yD (k:=.int 3) fun _=>lG (v:=.int 3) sx fun z e=>nomatch e) (K23.nC (yD fun _=>Ay (by decide+kernel) (by decide+kernel)) (K23.nC (yD fun _=>Ay (by decide+kernel) (by decide+kernel)) (K23.nC (yD (k:=.bool true) fun _=>lG (v:=.bl true) (by show "bool"≠"?";decide) fun z e=>nomatch e) (K23.nC (mk_lnm L rfl) (K23.nC (mk_tnm L rfl) (K23.nC (mk_zz L rfl) K23.alln)))))))))) (ix rfl) (bw _ (by decide)) (bL _ (by decide)) H (aG.refl _) _ fun odd H1 s1 od=>?_;simp only[qv,qw];have L1:=L.same s1;unfold zo;walk_at "wp";refine⟨_,_,g7,1,.ref t,odd,rfl,L1.tab.1,od.1,fun z e=>(od.2 z e).1,L1.tb,fun _ _=>L1.no od,fun z=>by(rw[L1.tab.2]at z;cases z),fun _ _ H2 l2 s2 e2=>⟨short (by simp),fun m hm=>?_⟩,fun _ z=>absurd z (by decide),fun _ z=>absurd z (by decide)⟩;have s3:aG H2 (upd H2 m (.lst (NN.map V.bl))):=aA hm;refine AB (s3 _ _ e2) ax ⟨_,rfl,?_⟩;rw[if_neg aq];exact CM g5 g7 hr qq (L1.same (s2.trans s3)) (nY _ _ _ (s2.trans s3) od) hd
theorem ty_tup{p:Addr}{xs:List V}(h:H p=some (.tup xs)):iu (tyName H (.ref p)) "tuple"=true:=by
 show iu (gp (H p)) "tuple"=true;rw[h];show iu "tuple" "tuple"=true;decide+kernel
theorem G2:∀ns:List Int,fF (ns.map L2.D.int)=0
 | []=>rfl
 |_::r=>by show max 0 (fF (r.map L2.D.int))=0;rw[G2 r];rfl
theorem xY(g1:G.fn "_law_draw" 2=some (gN,[]))(g2:G.fn "_law_whole" 1=some (spB isWhole,[]))(g5:G.fn "clash" 1=some (ic C T,[]))(g6:G.fn "node_of" 2=some (pw C CN T,[]))(g7:G.fn "_law_truths" 3=some (vT T,[])){Q:VK}(hr:D.rt=Q)(qq:∀H',Q (.bl true) H')(L:Lw T H t l c n ys){d0:Int}{a0 a2 a4 a6 a7 a8 a9 a10 a11 a12 a13 a14 a15 a16 a17:Option V}:
  wpB G K E xr D [a0,some (.int d0),a2,some (.ref l),a4,some (.ref t),a6,a7,a8,a9,a10,a11,a12,a13,a14,a15,a16,a17] H:=by
 unfold xr;walk_at "wp";refine hJ (dS rfl (SqL.of L.et) (gu (fN (xs:=ys)) (fun k σ H'=>Gr T H H'/\∃u v w x,σ=[a0,some (.int d0),a2,some (.ref l),a4,some (.ref t),a6,a7,a8,u,v,w,x,a13,a14,a15,a16,a17]) ⟨Gr.refl _ _,_,_,_,_,rfl⟩ (fun k σ H' _ p=>SqL.of (L.gr p.1).et) ?_ ?_))
 ·rintro k y σ H1 H2 D2 hk ⟨gr1,u,v,w,x,rfl⟩ hy s2 hD _
  have gr2:Gr T H H2:=gr1.trans (Gr.of s2);have LL:=L.gr gr2;obtain⟨b,r,zs,rfl,k1,k2,k3,k4⟩:=LL.dr k y hy;have hnm:=(ik (K21.mI c) LL.dr (by have :=L.n8;omega) hy).2.1;have hyl:cn (H2 t)=some ys:=by rw[LL.et];rfl
  refine⟨b,_,rfl,SqT.of k1,rfl,_,_,rfl,_,_,rfl,rfl,?_⟩;walk_at "wp";refine⟨_,_,g6,.ref t,.str (K21.nm c k),rfl,LL.tab.1,lQ,fun z e=>by(cases e;have :=(nm8 c k).1;omega),LL.tb,fun z=>by(rw[LL.tab.2]at z;cases z),fun _=>⟨fun hno=>absurd ⟨t,ys,_,_,rfl,hyl,rfl,aU hy,hnm⟩ hno,fun _ a ys' y' H3 r' e1 e2 hy' e3 gr er=>?_⟩⟩;cases e1;rw[hyl]at e2;cases e2;obtain⟨i,hi⟩:=bH.mp hy';have hik:i=k:=by
   have h1:=(ik (K21.mI c) LL.dr (by have :=L.n8;omega) hi).2.1;injection e3 with e3
   exact LL.inj i k (aM.mp hi).1 hk (by rw[<-h1,<-e3])
  subst hik;rw[hy]at hi;cases hi;rw[show kK H2 (.ref b)=zs from congrArg Prod.snd (jb k1 k2)]at er;have er2:=gr.nU LL.tb k2;obtain⟨ib,ir⟩:=pI k4;generalize zs.map intOf=is at ib ir;refine isi (nj er) .tuple ⟨_,rfl,?_⟩;rw[show Ty.t .tuple="tuple" from rfl,ty_tup er,if_neg (by simp)];subst ib;have rep:∀{a:Addr},H3 a=some (.tup (is.map V.int))->Rep K H3 (.tup (is.map L2.D.int)) (.ref a):=fun{a} e=>⟨a,_,rfl,SqT.of e,gE.ints is⟩;refine⟨_,_,rep er,rep er2,by show fF (is.map L2.D.int)+1<=30;rw[G2];decide,_,rfl,?_⟩;rw[sP];rw[if_neg (by simp)];refine hJ (qu rfl (SqT.of er) (gu (wk (xs:=is.map V.int)) (fun m σ H'=>aG H3 H'/\∃x,σ=[a0,some (.int d0),a2,some (.ref l),a4,some (.ref t),a6,a7,a8,some (.str (K21.nm c i)),some (.ref r),some (.ref r'),x,a13,a14,a15,a16,a17]) ⟨aG.refl _,_,rfl⟩ (fun _ _ _ _ p=>SqT.of (p.1 _ _ er)) ?_ ?_))
  ·rintro m z σ H4 H5 D3 hm ⟨s4,x,rfl⟩ hz s5 hD3 _
   obtain⟨j,_,rfl⟩:=aV.mp (aU hz);walk_at "wp";refine⟨_,_,g2,_,rfl,sx,fun H6 s6=>⟨_,rfl,?_⟩⟩;rw[if_neg (by simp[isWhole])];exact hD3 _ _ ⟨s4.trans (s5.trans s6),_,rfl⟩
  ·rintro σ H4 ⟨s4,x,rfl⟩
   exact hD _ _ ⟨gr2.trans (gr.trans (Gr.of s4)),_,_,_,_,rfl⟩
 ·rintro σ H1 ⟨gr1,u,v,w,x,rfl⟩
  exact Ex g1 g5 g7 hr qq (L.gr gr1)
noncomputable def E1(K:ae)(T:Tb):Sp:=fun vs H Q _=>∃(a:Addr)(ns:List Int),vs=[.ref a]/\SqL K H a (ns.map V.int)/\ns.length<=63/\Tab T H/\∀H',Q (.bl true) H'
theorem DO(xs:List V):(pM xs (some 3) (some 12)).length<=9:=by
 unfold pM;rw[dk,show HT.sIx xs.length xs.length (some 12)=min 12 xs.length from HT.n9 _ _ 12,show HT.sIx xs.length 0 (some 3)=min 3 xs.length from HT.n9 _ _ 3];omega
theorem cut_ten(f:Nat->V):pM ((az 11).map f) none (some 10)=(az 10).map f:=by
 unfold pM;rw[HT.rO,show HT.sIx ((az 11).map f).length ((az 11).map f).length (some 10)=min 10 ((az 11).map f).length from HT.n9 _ _ 10,ao,cJ];rfl
theorem Ey(g1:G.fn "_law_draw" 2=some (gN,[]))(g2:G.fn "_law_whole" 1=some (spB isWhole,[]))(g3:G.fn "_law_grown" 2=some (qO K,[]))(g4:G.fn "_law_held" 2=some (vW K,[]))(g5:G.fn "clash" 1=some (ic C T,[]))(g6:G.fn "node_of" 2=some (pw C CN T,[]))(g7:G.fn "_law_truths" 3=some (vT T,[])){Q:VK}(hr:D.rt=Q)(qq:∀H',Q (.bl true) H')(L:Lw T H t l c n ys){d0:Int}{b:Addr}{ms:List Int}(hb:H b=some (.lst (ms.map V.int)))(hm0:ms≠[])(hml:ms.length<=10){a0 a6 a7 a8 a9 a10 a11 a12 a13 a14 a15 a16 a17:Option V}:
  wpB G K E xu D [a0,some (.int d0),some (.int n),some (.ref l),some (.ref b),some (.ref t),a6,a7,a8,a9,a10,a11,a12,a13,a14,a15,a16,a17] H:=by
 unfold xu;walk_at "wp";refine⟨_,_,g1,d0,4,rfl,by decide,by decide,?_⟩;generalize draw d0 4=way;refine AD.mpr ⟨by decide,sN.mpr ⟨_,rfl,?_⟩⟩;by_cases hw:way%3=0
 ·rw[decide_eq_true hw,if_pos rfl]
  refine⟨_,_,g3,b,ms,n,rfl,SqL.of hb,by omega,L.n8,fun H3 pr nd lk us s3 epr fnd end3 hy0 hyl nds=>?_⟩;refine⟨pr,_,rfl,SqT.of epr,rfl,_,_,rfl,_,_,rfl,rfl,?_⟩;refine⟨_,_,g4,b,nd,ms,us,rfl,SqL.of (s3 _ _ hb),SqL.of end3,by omega,hy0,fun H5 l2 hs s6 hl2 el2 hhl hh=>?_⟩;have nds5:=nds.same s6;have end5:=s6 _ _ end3;have s7:=s3.trans s6;have L5:=L.same s7;refine d8 ?_;walk_at "wp";refine Or.inl ⟨l2,_,rfl,.inl (SqL.of el2),_,rfl,by rw[ao];omega,by rw[ao];omega,?_⟩;refine dZ du (short (by simp;omega)) (fun _ _=>trivial) (fun k v H'=>∃b r zs,v=.ref b/\H' b=some (.tup [.str (K21.nm c k),.ref r])/\H' r=some (.tup zs)/\zs.length=n/\∀z∈zs,bj z=true)
   (fun k v H8 H9 s ⟨b,r,zs,h1,h2,h3,h4⟩=>⟨b,r,zs,h1,s _ _ h2,s _ _ h3,h4⟩) (fun τ=>∃t,τ=[t,some (.ref l),some (.ref nd),some (.ref l2)]) ⟨none,rfl⟩ ?_ ?_
  ·rintro k x τ H6 R hk ⟨t,rfl⟩ s8 rfl kk
   walk_at "wp"
   simp only[dD];have hk':k<hs.length:=by simpa using hk
   have hb':((az 11).map fun k=>V.str (K21.nm c k))[k]? =some (.str (K21.nm c k)):=by
    rw[aF,cG (by omega)];rfl
   have hh':(hs.map V.int)[k]? =some (.int hs[k]):=by rw[aF,ag hk'];rfl
   obtain⟨i0,i1⟩:=hh hs[k] (bq hk');obtain⟨z,hz⟩:=cN i0;have hzl:z<us.length:=by omega
   have hy:us[z]? =some us[z]:=ag hzl;obtain⟨r,zs,ez,k1,k2,k3⟩:=nds5 us[z] (bq hzl);refine .inl ⟨l,_,k,_,rfl,rfl,SqL.of (s8 _ _ L5.el),cH hb',?_⟩;refine .inl ⟨l2,_,k,_,rfl,rfl,SqL.of (s8 _ _ el2),cH hh',?_⟩;rw[hz];refine .inl ⟨nd,_,z,_,rfl,rfl,SqL.of (s8 _ _ end5),cH hy,short (by simp),fun tp htp=>?_⟩;rw[ez];refine kk _ _ _ ⟨_,rfl⟩ (aA htp) ⟨tp,r,zs,rfl,ax,?_,k2,k3⟩;exact aA htp _ _ (s8 _ _ k1)
  ·intro vs H6 t' hvl hF s8 ht
   have hvl':vs.length=hs.length:=by simpa using hvl
   have s9:aG H5 (upd H6 t' (.lst vs)):=s8.trans (aA ht);have L6:=L5.same s9;have hm1:0<ms.length:=cX.mpr hm0;refine xY (c:=c) (n:=n) (ys:=vs) g1 g2 g5 g6 g7 hr qq ⟨L6.tb,ax,L6.el,fun k y e=>?_,cX.mp (by omega),by omega,L.n8⟩;obtain⟨b,r,zs,h1,h2,h3,h4⟩:=hF k y e;exact⟨b,r,zs,h1,aA ht _ _ h2,aA ht _ _ h3,h4⟩
 ·rw[decide_eq_false hw,if_neg aq]
  exact xY g1 g2 g5 g6 g7 hr qq L
theorem wp_law(g0:G.fn "_law_cell_at" 2=some (Aa K,[]))(g1:G.fn "_law_draw" 2=some (gN,[]))(g2:G.fn "_law_whole" 1=some (spB isWhole,[]))(g8:G.fn "_law_names" 2=some (vU,[]))(g9:G.fn "_law_random" 3=some (rG K,[]))(g3:G.fn "_law_grown" 2=some (qO K,[]))(g4:G.fn "_law_held" 2=some (vW K,[]))(g5:G.fn "clash" 1=some (ic C T,[]))(g6:G.fn "node_of" 2=some (pw C CN T,[]))(g7:G.fn "_law_truths" 3=some (vT T,[])):
  Sat G K (E1 K T) HA Ge:=by
 rintro vs H Q E ⟨a,ns,rfl,hs,hn63,tb0,q⟩;unfold HA;change wpB G K _ _ _ [some (.ref a),none,none,none,none,none,none,none,none,none,none,none,none,none,none,none,none,none] H;walk_at "wp";refine d8 (dS rfl hs (dZ fN (by rw[ao];exact aX hn63 (by decide)) (fun H1 s1=>s1.seq hs) (fun i v _=>∃m:Int,v=.int m) (fun _ _ _ _ _ h=>h) (fun τ=>∃t,τ=[t,some (.ref a)]) ⟨none,rfl⟩ ?_ ?_))
 ·rintro i y τ H3 R hi ⟨t,rfl⟩ s3 hy k
  obtain⟨m,hm⟩:∃m:Int,y=.int m:=by
   obtain⟨m,_,rfl⟩:=aV.mp (aU hy);exact⟨m,rfl⟩
  subst hm;walk_at "wp";refine⟨mP (by decide) (by decide),.inl ⟨a,_,rfl,s3.seq hs,fun l hl=>?_⟩⟩;obtain⟨ms,em⟩:=y9 ns none (some 1);refine⟨l,ms,rfl,by rw[<-em];exact SqL.of ax,?_⟩;walk_at "wp";exact⟨by decide,k _ _ _ ⟨_,rfl⟩ (aA hl) ⟨_,rfl⟩⟩
 intro vs H1 b hvl hF s1 hb;obtain⟨ns',rfl⟩:=qU hF;have s2:aG H (upd H1 b (.lst (ns'.map V.int))):=s1.trans (aA hb);have eb:upd H1 b (.lst (ns'.map V.int)) b=some (.lst (ns'.map V.int)):=ax;generalize upd H1 b (.lst (ns'.map V.int))=H2 at s2 eb⊢;unfold Ce Cd;walk_at "wp";refine⟨_,_,g0,b,ns',1,rfl,SqL.of eb,?_⟩;generalize ns'.getD 1 0=c;refine⟨_,_,g1,c,3,rfl,by decide,by decide,?_⟩;walk_at "wp";have h0:0<=draw c 3%9:=bw _ (by decide);have h1:draw c 3%9<9:=bL _ (by decide);obtain⟨n,hn⟩:=cN h0;rw[hn];refine⟨by decide,?_⟩;unfold Cc;walk_at "wp";refine⟨_,_,g8,_,_,g0,b,ns',0,rfl,SqL.of eb,_,11,rfl,by decide,fun H3 l s3 hl el=>?_⟩;generalize ns'.getD 0 0=c0 at el;unfold Cb;walk_at "wp";refine⟨short (by simp),fun p1 hp1=>?_⟩;generalize hX:upd H3 p1 _=H4;obtain⟨s4,e1⟩:=jf hX hp1;clear hX;obtain⟨ms,em⟩:=y9 ns' (some 3) (some 12);have hml:ms.length<=9:=by
  have :=DO (ns'.map V.int)
  rw[em,ao]at this;exact this
 refine .inl ⟨b,_,rfl,(s3.trans s4).seq (SqL.of eb),fun p2 hp2=>?_⟩;rw[em];generalize hX:upd H4 p2 _=H5;obtain⟨s5,e2⟩:=jf hX hp2;clear hX;refine .inr (.inr (.inl ⟨p1,p2,_,_,rfl,rfl,s5 _ _ e1,e2,short (by simp;omega),fun p3 hp3=>?_⟩));have s6:aG H5 (upd H5 p3 (.lst ([.int c]++ms.map V.int))):=aA hp3;have e3:upd H5 p3 (.lst ([.int c]++ms.map V.int)) p3=some (.lst ((c::ms).map V.int)):=ax;generalize upd H5 p3 (.lst ([.int c]++ms.map V.int))=H6 at s6 e3⊢;have el6:=s6 _ _ (s5 _ _ (s4 _ _ el));unfold Ca;walk_at "wp";refine⟨_,_,g9,.inl ⟨l,_,rfl,SqL.of el6,fun p4 hp4=>?_⟩⟩;rw[cut_ten];have s7:=aA (o:=.lst ((az 10).map fun k=>V.str (K21.nm c0 k))) hp4;have e4:upd H6 p4 (.lst ((az 10).map fun k=>V.str (K21.nm c0 k))) p4=some (.lst ((az 10).map fun k=>V.str (K21.nm c0 k))):=ax;generalize upd H6 p4 (.lst ((az 10).map fun k=>V.str (K21.nm c0 k)))=H7 at s7 e4⊢;refine⟨p3,p4,c::ms,K21.nm c0,10,n,rfl,SqL.of (s7 _ _ e3),SqL.of e4,by simp;omega,by decide,by omega,K21.mI c0,fun H8 t ys s8 ht et hyl dr=>?_⟩;have hy0:ys≠[]:=fun z=>by rw[z]at hyl;simp at hyl;omega
 have s9:aG H H8:=s2.trans (s3.trans (s4.trans (s5.trans (s6.trans (s7.trans s8)))));exact Ey (ms:=c::ms) g1 g2 g3 g4 g5 g6 g7 rfl q ⟨(Gr.of s9).tab tb0,et,s8 _ _ (s7 _ _ el6),dr,hy0,by rw[hyl];omega,by omega⟩ (s8 _ _ (s7 _ _ e3)) (by simp) (by simp;omega)
end
end K32
set_option maxHeartbeats 0
namespace K32
open PySem PySem.Spec PySem.Calls PyProof.Rows L2 R Cp Lt Lm
noncomputable def yT(P:PySem.Params):ae:=
 (nat_lit 2,⟨.none,none,(.dict #[] 0),#[]⟩)::
 (nat_lit 3,⟨.type "dict",none,(.dict #[⟨ak P "__name__",.str "__name__" 165,.str "law_copykin_k32_node_of_a_copy" 452⟩,⟨ak P "__doc__",.str "__doc__" 166,.none⟩,⟨ak P "__package__",.str "__package__" 167,.none⟩,⟨ak P "__loader__",.str "__loader__" 168,.builtin "__main__.__loader__#opaque"⟩,⟨ak P "__spec__",.str "__spec__" 169,.none⟩,⟨ak P "__annotations__",.str "__annotations__" 170,.ref 6⟩,⟨ak P "__builtins__",.str "__builtins__" 171,.ref 4⟩,⟨ak P "__file__",.str "__file__" 173,.str "/claim/cut.py" 172⟩,⟨ak P "__cached__",.str "__cached__" 174,.none⟩,⟨ak P "KinError",.str "KinError" 206,.ref 24⟩,⟨ak P "Clash",.str "Clash" 235,.ref 44⟩,⟨ak P "NoTable",.str "NoTable" 251,.ref 56⟩,⟨ak P "NoName",.str "NoName" 267,.ref 68⟩,⟨ak P "NoPlace",.str "NoPlace" 283,.ref 80⟩,⟨ak P "NoReading",.str "NoReading" 299,.ref 92⟩,⟨ak P "LETTERS",.str "LETTERS" 303,.str "abcdefghijklmnopqrstuvwxyz" 302⟩,⟨ak P "LONGEST_NAME",.str "LONGEST_NAME" 305,.int 8 304⟩,⟨ak P "MOST_PLACES",.str "MOST_PLACES" 307,.int 60 306⟩,⟨ak P "MOST_COPIES",.str "MOST_COPIES" 309,.int 40 308⟩,⟨ak P "is_whole",.str "is_whole" 316,.ref 101⟩,⟨ak P "is_name",.str "is_name" 322,.ref 106⟩,⟨ak P "is_reading",.str "is_reading" 329,.ref 113⟩,⟨ak P "are_readings",.str "are_readings" 335,.ref 118⟩,⟨ak P "is_copy",.str "is_copy" 342,.ref 125⟩,⟨ak P "is_table",.str "is_table" 348,.ref 130⟩,⟨ak P "need_table",.str "need_table" 355,.ref 137⟩,⟨ak P "need_name",.str "need_name" 361,.ref 142⟩,⟨ak P "table_list",.str "table_list" 367,.ref 147⟩,⟨ak P "place_count",.str "place_count" 374,.ref 154⟩,⟨ak P "KINDS",.str "KINDS" 385,.ref 159⟩,⟨ak P "first_of_kinds",.str "first_of_kinds" 391,.ref 164⟩,⟨ak P "clash",.str "clash" 403,.ref 171⟩,⟨ak P "refuse_clash",.str "refuse_clash" 411,.ref 178⟩,⟨ak P "group_at",.str "group_at" 425,.ref 185⟩,⟨ak P "turned",.str "turned" 431,.ref 190⟩,⟨ak P "grown",.str "grown" 437,.ref 195⟩,⟨ak P "tree",.str "tree" 445,.ref 202⟩,⟨ak P "node_of",.str "node_of" 451,.ref 207⟩,⟨ak P "_law_cell_at",.str "_law_cell_at" 461,.ref 214⟩,⟨ak P "_law_whole",.str "_law_whole" 468,.ref 221⟩,⟨ak P "_law_draw",.str "_law_draw" 478,.ref 228⟩,⟨ak P "_law_names",.str "_law_names" 493,.ref 235⟩,⟨ak P "_law_random",.str "_law_random" 499,.ref 240⟩,⟨ak P "_law_otherwise",.str "_law_otherwise" 505,.ref 245⟩,⟨ak P "_law_grown",.str "_law_grown" 511,.ref 250⟩,⟨ak P "_law_held",.str "_law_held" 522,.ref 257⟩,⟨ak P "_law_truths",.str "_law_truths" 533,.ref 264⟩,⟨ak P "law",.str "law" 539,.ref 269⟩] 48),#[]⟩)::
 (nat_lit 23,⟨.type "dict",none,(.dict #[⟨ak P "__module__",.str "__module__" 196,.str "copykin.errors" 187⟩,⟨ak P "__firstlineno__",.str "__firstlineno__" 200,.int 2 199⟩,⟨ak P "__static_attributes__",.str "__static_attributes__" 201,.ref 22⟩,⟨ak P "__weakref__",.str "__weakref__" 203,.ref 25⟩,⟨ak P "__doc__",.str "__doc__" 204,.none⟩] 3),#[]⟩)::
 (nat_lit 24,⟨.type "type",none,(.cls {name:="KinError",bases:=[.type "ValueError"],mro:=[.ref 24,.type "ValueError",.type "Exception",.type "BaseException",.type "object"],ns:=23,qualname:="KinError",hasDict:=true,slotNames:=[],subclasses:=[.ref 44,.ref 56,.ref 68,.ref 80,.ref 92],abstract:=false,collection:=none,hasDel:=false}),#[(some (.ref 15)),none,(some (.str "KinError" 189)),(some (.str "KinError" 197)),(some (.builtin "ValueError.__new__")),(some (.bool true))]⟩)::
 (nat_lit 40,⟨.type "code",none,(.fields #[.str "__init__" 219,.str "Clash.__init__" 220,.str "/claim/cut.py" 221,.int 6 0,.int 4 0,.int 0 0,.int 0 0,.int 3 0,.ref 35,.bool true,.int 181 0,.ref 36,.none,.ref 37,.ref 38,.ref 39,.int 226 0,.int 6 0,.str "/claim/cut.py" 227]),#[]⟩)::
 (nat_lit 41,⟨.type "function",none,(.func (aH "__init__" "Clash.__init__" (bF (iK 2 0)) (bc (iK 2 0)) (aJ (iK 2 0)) .none .none .none (.str "copykin.errors" 187) none (.ref 40) .none)),#[]⟩)::
 (nat_lit 43,⟨.type "dict",none,(.dict #[⟨ak P "__module__",.str "__module__" 214,.str "copykin.errors" 187⟩,⟨ak P "__firstlineno__",.str "__firstlineno__" 218,.int 4 217⟩,⟨ak P "__init__",.str "__init__" 228,.ref 41⟩,⟨ak P "__static_attributes__",.str "__static_attributes__" 232,.ref 42⟩,⟨ak P "__doc__",.str "__doc__" 233,.none⟩] 2),#[]⟩)::
 (nat_lit 44,⟨.type "type",none,(.cls {name:="Clash",bases:=[.ref 24],mro:=[.ref 44,.ref 24,.type "ValueError",.type "Exception",.type "BaseException",.type "object"],ns:=43,qualname:="Clash",hasDict:=true,slotNames:=[],subclasses:=[],abstract:=false,collection:=none,hasDel:=false}),#[(some (.ref 28)),none,(some (.str "Clash" 207)),(some (.str "Clash" 215)),(some (.builtin "ValueError.__new__")),(some (.bool true))]⟩)::
 (nat_lit 55,⟨.type "dict",none,(.dict #[⟨ak P "__module__",.str "__module__" 243,.str "copykin.errors" 187⟩,⟨ak P "__firstlineno__",.str "__firstlineno__" 247,.int 11 246⟩,⟨ak P "__static_attributes__",.str "__static_attributes__" 248,.ref 54⟩,⟨ak P "__doc__",.str "__doc__" 249,.none⟩] 2),#[]⟩)::
 (nat_lit 56,⟨.type "type",none,(.cls {name:="NoTable",bases:=[.ref 24],mro:=[.ref 56,.ref 24,.type "ValueError",.type "Exception",.type "BaseException",.type "object"],ns:=55,qualname:="NoTable",hasDict:=true,slotNames:=[],subclasses:=[],abstract:=false,collection:=none,hasDel:=false}),#[(some (.ref 47)),none,(some (.str "NoTable" 236)),(some (.str "NoTable" 244)),(some (.builtin "ValueError.__new__")),(some (.bool true))]⟩)::
 (nat_lit 67,⟨.type "dict",none,(.dict #[⟨ak P "__module__",.str "__module__" 259,.str "copykin.errors" 187⟩,⟨ak P "__firstlineno__",.str "__firstlineno__" 263,.int 13 262⟩,⟨ak P "__static_attributes__",.str "__static_attributes__" 264,.ref 66⟩,⟨ak P "__doc__",.str "__doc__" 265,.none⟩] 2),#[]⟩)::
 (nat_lit 68,⟨.type "type",none,(.cls {name:="NoName",bases:=[.ref 24],mro:=[.ref 68,.ref 24,.type "ValueError",.type "Exception",.type "BaseException",.type "object"],ns:=67,qualname:="NoName",hasDict:=true,slotNames:=[],subclasses:=[],abstract:=false,collection:=none,hasDel:=false}),#[(some (.ref 59)),none,(some (.str "NoName" 252)),(some (.str "NoName" 260)),(some (.builtin "ValueError.__new__")),(some (.bool true))]⟩)::
 (nat_lit 79,⟨.type "dict",none,(.dict #[⟨ak P "__module__",.str "__module__" 275,.str "copykin.errors" 187⟩,⟨ak P "__firstlineno__",.str "__firstlineno__" 279,.int 15 278⟩,⟨ak P "__static_attributes__",.str "__static_attributes__" 280,.ref 78⟩,⟨ak P "__doc__",.str "__doc__" 281,.none⟩] 2),#[]⟩)::
 (nat_lit 80,⟨.type "type",none,(.cls {name:="NoPlace",bases:=[.ref 24],mro:=[.ref 80,.ref 24,.type "ValueError",.type "Exception",.type "BaseException",.type "object"],ns:=79,qualname:="NoPlace",hasDict:=true,slotNames:=[],subclasses:=[],abstract:=false,collection:=none,hasDel:=false}),#[(some (.ref 71)),none,(some (.str "NoPlace" 268)),(some (.str "NoPlace" 276)),(some (.builtin "ValueError.__new__")),(some (.bool true))]⟩)::
 (nat_lit 91,⟨.type "dict",none,(.dict #[⟨ak P "__module__",.str "__module__" 291,.str "copykin.errors" 187⟩,⟨ak P "__firstlineno__",.str "__firstlineno__" 295,.int 17 294⟩,⟨ak P "__static_attributes__",.str "__static_attributes__" 296,.ref 90⟩,⟨ak P "__doc__",.str "__doc__" 297,.none⟩] 2),#[]⟩)::
 (nat_lit 92,⟨.type "type",none,(.cls {name:="NoReading",bases:=[.ref 24],mro:=[.ref 92,.ref 24,.type "ValueError",.type "Exception",.type "BaseException",.type "object"],ns:=91,qualname:="NoReading",hasDict:=true,slotNames:=[],subclasses:=[],abstract:=false,collection:=none,hasDel:=false}),#[(some (.ref 83)),none,(some (.str "NoReading" 284)),(some (.str "NoReading" 292)),(some (.builtin "ValueError.__new__")),(some (.bool true))]⟩)::
 (nat_lit 100,⟨.type "code",none,(.fields #[.str "is_whole" 310,.str "is_whole" 311,.str "/claim/cut.py" 312,.int 24 0,.int 1 0,.int 0 0,.int 0 0,.int 3 0,.ref 95,.bool true,.int 181 0,.ref 96,.none,.ref 97,.ref 98,.ref 99,.int 314 0,.int 24 0,.str "/claim/cut.py" 315]),#[]⟩)::
 (nat_lit 101,⟨.type "function",none,(.func (aH "is_whole" "is_whole" (bF (top 12)) (bc (top 12)) (aJ (top 12)) .none .none .none (.str "copykin.tables" 300) none (.ref 100) .none)),#[]⟩)::
 (nat_lit 105,⟨.type "code",none,(.fields #[.str "is_name" 317,.str "is_name" 318,.str "/claim/cut.py" 319,.int 26 0,.int 1 0,.int 0 0,.int 0 0,.int 3 0,.ref 102,.bool true,.int 181 0,.ref 103,.none,.none,.none,.ref 104,.int 320 0,.int 26 0,.str "/claim/cut.py" 321]),#[]⟩)::
 (nat_lit 106,⟨.type "function",none,(.func (aH "is_name" "is_name" (bF (top 13)) (bc (top 13)) (aJ (top 13)) .none .none .none (.str "copykin.tables" 300) none (.ref 105) .none)),#[]⟩)::
 (nat_lit 112,⟨.type "code",none,(.fields #[.str "is_reading" 323,.str "is_reading" 324,.str "/claim/cut.py" 325,.int 32 0,.int 1 0,.int 0 0,.int 0 0,.int 3 0,.ref 107,.bool true,.int 181 0,.ref 108,.none,.ref 109,.ref 110,.ref 111,.int 327 0,.int 32 0,.str "/claim/cut.py" 328]),#[]⟩)::
 (nat_lit 113,⟨.type "function",none,(.func (aH "is_reading" "is_reading" (bF (top 14)) (bc (top 14)) (aJ (top 14)) .none .none .none (.str "copykin.tables" 300) none (.ref 112) .none)),#[]⟩)::
 (nat_lit 117,⟨.type "code",none,(.fields #[.str "are_readings" 330,.str "are_readings" 331,.str "/claim/cut.py" 332,.int 34 0,.int 1 0,.int 0 0,.int 0 0,.int 3 0,.ref 114,.bool true,.int 181 0,.ref 115,.none,.none,.none,.ref 116,.int 333 0,.int 34 0,.str "/claim/cut.py" 334]),#[]⟩)::
 (nat_lit 118,⟨.type "function",none,(.func (aH "are_readings" "are_readings" (bF (top 15)) (bc (top 15)) (aJ (top 15)) .none .none .none (.str "copykin.tables" 300) none (.ref 117) .none)),#[]⟩)::
 (nat_lit 124,⟨.type "code",none,(.fields #[.str "is_copy" 336,.str "is_copy" 337,.str "/claim/cut.py" 338,.int 38 0,.int 1 0,.int 0 0,.int 0 0,.int 3 0,.ref 119,.bool true,.int 181 0,.ref 120,.none,.ref 121,.ref 122,.ref 123,.int 340 0,.int 38 0,.str "/claim/cut.py" 341]),#[]⟩)::
 (nat_lit 125,⟨.type "function",none,(.func (aH "is_copy" "is_copy" (bF (top 16)) (bc (top 16)) (aJ (top 16)) .none .none .none (.str "copykin.tables" 300) none (.ref 124) .none)),#[]⟩)::
 (nat_lit 129,⟨.type "code",none,(.fields #[.str "is_table" 343,.str "is_table" 344,.str "/claim/cut.py" 345,.int 42 0,.int 1 0,.int 0 0,.int 0 0,.int 3 0,.ref 126,.bool true,.int 181 0,.ref 127,.none,.none,.none,.ref 128,.int 346 0,.int 42 0,.str "/claim/cut.py" 347]),#[]⟩)::
 (nat_lit 130,⟨.type "function",none,(.func (aH "is_table" "is_table" (bF (top 17)) (bc (top 17)) (aJ (top 17)) .none .none .none (.str "copykin.tables" 300) none (.ref 129) .none)),#[]⟩)::
 (nat_lit 136,⟨.type "code",none,(.fields #[.str "need_table" 349,.str "need_table" 350,.str "/claim/cut.py" 351,.int 50 0,.int 1 0,.int 0 0,.int 0 0,.int 3 0,.ref 131,.bool true,.int 181 0,.ref 132,.none,.ref 133,.ref 134,.ref 135,.int 353 0,.int 50 0,.str "/claim/cut.py" 354]),#[]⟩)::
 (nat_lit 137,⟨.type "function",none,(.func (aH "need_table" "need_table" (bF (top 18)) (bc (top 18)) (aJ (top 18)) .none .none .none (.str "copykin.tables" 300) none (.ref 136) .none)),#[]⟩)::
 (nat_lit 141,⟨.type "code",none,(.fields #[.str "need_name" 356,.str "need_name" 357,.str "/claim/cut.py" 358,.int 53 0,.int 2 0,.int 0 0,.int 0 0,.int 3 0,.ref 138,.bool true,.int 181 0,.ref 139,.none,.none,.none,.ref 140,.int 359 0,.int 53 0,.str "/claim/cut.py" 360]),#[]⟩)::
 (nat_lit 142,⟨.type "function",none,(.func (aH "need_name" "need_name" (bF (top 19)) (bc (top 19)) (aJ (top 19)) .none .none .none (.str "copykin.tables" 300) none (.ref 141) .none)),#[]⟩)::
 (nat_lit 146,⟨.type "code",none,(.fields #[.str "table_list" 362,.str "table_list" 363,.str "/claim/cut.py" 364,.int 57 0,.int 1 0,.int 0 0,.int 0 0,.int 3 0,.ref 143,.bool true,.int 181 0,.ref 144,.none,.none,.none,.ref 145,.int 365 0,.int 57 0,.str "/claim/cut.py" 366]),#[]⟩)::
 (nat_lit 147,⟨.type "function",none,(.func (aH "table_list" "table_list" (bF (top 20)) (bc (top 20)) (aJ (top 20)) .none .none .none (.str "copykin.tables" 300) none (.ref 146) .none)),#[]⟩)::
 (nat_lit 153,⟨.type "code",none,(.fields #[.str "place_count" 368,.str "place_count" 369,.str "/claim/cut.py" 370,.int 61 0,.int 1 0,.int 0 0,.int 0 0,.int 3 0,.ref 148,.bool true,.int 181 0,.ref 149,.none,.ref 150,.ref 151,.ref 152,.int 372 0,.int 61 0,.str "/claim/cut.py" 373]),#[]⟩)::
 (nat_lit 154,⟨.type "function",none,(.func (aH "place_count" "place_count" (bF (top 21)) (bc (top 21)) (aJ (top 21)) .none .none .none (.str "copykin.tables" 300) none (.ref 153) .none)),#[]⟩)::
 (nat_lit 155,⟨.type "tuple",none,(.seq #[.int 0 377,.int 0 378] 0),#[]⟩)::
 (nat_lit 156,⟨.type "tuple",none,(.seq #[.int 0 379,.int 1 380] 0),#[]⟩)::
 (nat_lit 157,⟨.type "tuple",none,(.seq #[.int 1 381,.int 0 382] 0),#[]⟩)::
 (nat_lit 158,⟨.type "tuple",none,(.seq #[.int 1 383,.int 1 384] 0),#[]⟩)::
 (nat_lit 159,⟨.type "tuple",none,(.seq #[.ref 155,.ref 156,.ref 157,.ref 158] 0),#[]⟩)::
 (nat_lit 163,⟨.type "code",none,(.fields #[.str "first_of_kinds" 386,.str "first_of_kinds" 387,.str "/claim/cut.py" 388,.int 68 0,.int 3 0,.int 0 0,.int 0 0,.int 3 0,.ref 160,.bool true,.int 181 0,.ref 161,.none,.none,.none,.ref 162,.int 389 0,.int 68 0,.str "/claim/cut.py" 390]),#[]⟩)::
 (nat_lit 164,⟨.type "function",none,(.func (aH "first_of_kinds" "first_of_kinds" (bF (top 24)) (bc (top 24)) (aJ (top 24)) .none .none .none (.str "copykin.clashes" 375) none (.ref 163) .none)),#[]⟩)::
 (nat_lit 170,⟨.type "code",none,(.fields #[.str "clash" 392,.str "clash" 393,.str "/claim/cut.py" 394,.int 75 0,.int 1 0,.int 0 0,.int 0 0,.int 3 0,.ref 165,.bool true,.int 181 0,.ref 166,.none,.ref 167,.ref 168,.ref 169,.int 401 0,.int 75 0,.str "/claim/cut.py" 402]),#[]⟩)::
 (nat_lit 171,⟨.type "function",none,(.func (aH "clash" "clash" (bF (top 25)) (bc (top 25)) (aJ (top 25)) .none .none .none (.str "copykin.clashes" 375) none (.ref 170) .none)),#[]⟩)::
 (nat_lit 177,⟨.type "code",none,(.fields #[.str "refuse_clash" 404,.str "refuse_clash" 405,.str "/claim/cut.py" 406,.int 84 0,.int 1 0,.int 0 0,.int 0 0,.int 3 0,.ref 172,.bool true,.int 181 0,.ref 173,.none,.ref 174,.ref 175,.ref 176,.int 409 0,.int 84 0,.str "/claim/cut.py" 410]),#[]⟩)::
 (nat_lit 178,⟨.type "function",none,(.func (aH "refuse_clash" "refuse_clash" (bF (top 26)) (bc (top 26)) (aJ (top 26)) .none .none .none (.str "copykin.clashes" 375) none (.ref 177) .none)),#[]⟩)::
 (nat_lit 184,⟨.type "code",none,(.fields #[.str "group_at" 414,.str "group_at" 415,.str "/claim/cut.py" 416,.int 89 0,.int 2 0,.int 0 0,.int 0 0,.int 3 0,.ref 179,.bool true,.int 181 0,.ref 180,.none,.ref 181,.ref 182,.ref 183,.int 423 0,.int 89 0,.str "/claim/cut.py" 424]),#[]⟩)::
 (nat_lit 185,⟨.type "function",none,(.func (aH "group_at" "group_at" (bF (top 28)) (bc (top 28)) (aJ (top 28)) .none .none .none (.str "copykin.trees" 412) none (.ref 184) .none)),#[]⟩)::
 (nat_lit 189,⟨.type "code",none,(.fields #[.str "turned" 426,.str "turned" 427,.str "/claim/cut.py" 428,.int 95 0,.int 2 0,.int 0 0,.int 0 0,.int 3 0,.ref 186,.bool true,.int 181 0,.ref 187,.none,.none,.none,.ref 188,.int 429 0,.int 95 0,.str "/claim/cut.py" 430]),#[]⟩)::
 (nat_lit 190,⟨.type "function",none,(.func (aH "turned" "turned" (bF (top 29)) (bc (top 29)) (aJ (top 29)) .none .none .none (.str "copykin.trees" 412) none (.ref 189) .none)),#[]⟩)::
 (nat_lit 194,⟨.type "code",none,(.fields #[.str "grown" 432,.str "grown" 433,.str "/claim/cut.py" 434,.int 97 0,.int 1 0,.int 0 0,.int 0 0,.int 3 0,.ref 191,.bool true,.int 181 0,.ref 192,.none,.none,.none,.ref 193,.int 435 0,.int 97 0,.str "/claim/cut.py" 436]),#[]⟩)::
 (nat_lit 195,⟨.type "function",none,(.func (aH "grown" "grown" (bF (top 30)) (bc (top 30)) (aJ (top 30)) .none .none .none (.str "copykin.trees" 412) none (.ref 194) .none)),#[]⟩)::
 (nat_lit 201,⟨.type "code",none,(.fields #[.str "tree" 438,.str "tree" 439,.str "/claim/cut.py" 440,.int 112 0,.int 1 0,.int 0 0,.int 0 0,.int 3 0,.ref 196,.bool true,.int 181 0,.ref 197,.none,.ref 198,.ref 199,.ref 200,.int 443 0,.int 112 0,.str "/claim/cut.py" 444]),#[]⟩)::
 (nat_lit 202,⟨.type "function",none,(.func (aH "tree" "tree" (bF (top 31)) (bc (top 31)) (aJ (top 31)) .none .none .none (.str "copykin.trees" 412) none (.ref 201) .none)),#[]⟩)::
 (nat_lit 206,⟨.type "code",none,(.fields #[.str "node_of" 446,.str "node_of" 447,.str "/claim/cut.py" 448,.int 118 0,.int 2 0,.int 0 0,.int 0 0,.int 3 0,.ref 203,.bool true,.int 181 0,.ref 204,.none,.none,.none,.ref 205,.int 449 0,.int 118 0,.str "/claim/cut.py" 450]),#[]⟩)::
 (nat_lit 207,⟨.type "function",none,(.func (aH "node_of" "node_of" (bF (top 32)) (bc (top 32)) (aJ (top 32)) .none .none .none (.str "copykin.trees" 412) none (.ref 206) .none)),#[]⟩)::
 (nat_lit 213,⟨.type "code",none,(.fields #[.str "_law_cell_at" 454,.str "_law_cell_at" 455,.str "/claim/cut.py" 456,.int 123 0,.int 2 0,.int 0 0,.int 0 0,.int 3 0,.ref 208,.bool true,.int 181 0,.ref 209,.none,.ref 210,.ref 211,.ref 212,.int 459 0,.int 123 0,.str "/claim/cut.py" 460]),#[]⟩)::
 (nat_lit 214,⟨.type "function",none,(.func (aH "_law_cell_at" "_law_cell_at" (bF (top 34)) (bc (top 34)) (aJ (top 34)) .none .none .none (.str "law_copykin_k32_node_of_a_copy" 452) none (.ref 213) .none)),#[]⟩)::
 (nat_lit 220,⟨.type "code",none,(.fields #[.str "_law_whole" 462,.str "_law_whole" 463,.str "/claim/cut.py" 464,.int 127 0,.int 1 0,.int 0 0,.int 0 0,.int 3 0,.ref 215,.bool true,.int 181 0,.ref 216,.none,.ref 217,.ref 218,.ref 219,.int 466 0,.int 127 0,.str "/claim/cut.py" 467]),#[]⟩)::
 (nat_lit 221,⟨.type "function",none,(.func (aH "_law_whole" "_law_whole" (bF (top 35)) (bc (top 35)) (aJ (top 35)) .none .none .none (.str "law_copykin_k32_node_of_a_copy" 452) none (.ref 220) .none)),#[]⟩)::
 (nat_lit 227,⟨.type "code",none,(.fields #[.str "_law_draw" 469,.str "_law_draw" 470,.str "/claim/cut.py" 471,.int 129 0,.int 2 0,.int 0 0,.int 0 0,.int 3 0,.ref 222,.bool true,.int 181 0,.ref 223,.none,.ref 224,.ref 225,.ref 226,.int 476 0,.int 129 0,.str "/claim/cut.py" 477]),#[]⟩)::
 (nat_lit 228,⟨.type "function",none,(.func (aH "_law_draw" "_law_draw" (bF (top 36)) (bc (top 36)) (aJ (top 36)) .none .none .none (.str "law_copykin_k32_node_of_a_copy" 452) none (.ref 227) .none)),#[]⟩)::
 (nat_lit 234,⟨.type "code",none,(.fields #[.str "_law_names" 479,.str "_law_names" 480,.str "/claim/cut.py" 481,.int 135 0,.int 2 0,.int 0 0,.int 0 0,.int 3 0,.ref 229,.bool true,.int 181 0,.ref 230,.none,.ref 231,.ref 232,.ref 233,.int 491 0,.int 135 0,.str "/claim/cut.py" 492]),#[]⟩)::
 (nat_lit 235,⟨.type "function",none,(.func (aH "_law_names" "_law_names" (bF (top 37)) (bc (top 37)) (aJ (top 37)) .none .none .none (.str "law_copykin_k32_node_of_a_copy" 452) none (.ref 234) .none)),#[]⟩)::
 (nat_lit 239,⟨.type "code",none,(.fields #[.str "_law_random" 494,.str "_law_random" 495,.str "/claim/cut.py" 496,.int 146 0,.int 3 0,.int 0 0,.int 0 0,.int 3 0,.ref 236,.bool true,.int 181 0,.ref 237,.none,.none,.none,.ref 238,.int 497 0,.int 146 0,.str "/claim/cut.py" 498]),#[]⟩)::
 (nat_lit 240,⟨.type "function",none,(.func (aH "_law_random" "_law_random" (bF (top 38)) (bc (top 38)) (aJ (top 38)) .none .none .none (.str "law_copykin_k32_node_of_a_copy" 452) none (.ref 239) .none)),#[]⟩)::
 (nat_lit 244,⟨.type "code",none,(.fields #[.str "_law_otherwise" 500,.str "_law_otherwise" 501,.str "/claim/cut.py" 502,.int 158 0,.int 2 0,.int 0 0,.int 0 0,.int 3 0,.ref 241,.bool true,.int 181 0,.ref 242,.none,.none,.none,.ref 243,.int 503 0,.int 158 0,.str "/claim/cut.py" 504]),#[]⟩)::
 (nat_lit 245,⟨.type "function",none,(.func (aH "_law_otherwise" "_law_otherwise" (bF (top 39)) (bc (top 39)) (aJ (top 39)) .none .none .none (.str "law_copykin_k32_node_of_a_copy" 452) none (.ref 244) .none)),#[]⟩)::
 (nat_lit 249,⟨.type "code",none,(.fields #[.str "_law_grown" 506,.str "_law_grown" 507,.str "/claim/cut.py" 508,.int 160 0,.int 2 0,.int 0 0,.int 0 0,.int 3 0,.ref 246,.bool true,.int 181 0,.ref 247,.none,.none,.none,.ref 248,.int 509 0,.int 160 0,.str "/claim/cut.py" 510]),#[]⟩)::
 (nat_lit 250,⟨.type "function",none,(.func (aH "_law_grown" "_law_grown" (bF (top 40)) (bc (top 40)) (aJ (top 40)) .none .none .none (.str "law_copykin_k32_node_of_a_copy" 452) none (.ref 249) .none)),#[]⟩)::
 (nat_lit 256,⟨.type "code",none,(.fields #[.str "_law_held" 512,.str "_law_held" 513,.str "/claim/cut.py" 514,.int 178 0,.int 2 0,.int 0 0,.int 0 0,.int 3 0,.ref 251,.bool true,.int 181 0,.ref 252,.none,.ref 253,.ref 254,.ref 255,.int 520 0,.int 178 0,.str "/claim/cut.py" 521]),#[]⟩)::
 (nat_lit 257,⟨.type "function",none,(.func (aH "_law_held" "_law_held" (bF (top 41)) (bc (top 41)) (aJ (top 41)) .none .none .none (.str "law_copykin_k32_node_of_a_copy" 452) none (.ref 256) .none)),#[]⟩)::
 (nat_lit 263,⟨.type "code",none,(.fields #[.str "_law_truths" 523,.str "_law_truths" 524,.str "/claim/cut.py" 525,.int 187 0,.int 3 0,.int 0 0,.int 0 0,.int 3 0,.ref 258,.bool true,.int 181 0,.ref 259,.none,.ref 260,.ref 261,.ref 262,.int 531 0,.int 187 0,.str "/claim/cut.py" 532]),#[]⟩)::
 (nat_lit 264,⟨.type "function",none,(.func (aH "_law_truths" "_law_truths" (bF (top 42)) (bc (top 42)) (aJ (top 42)) .none .none .none (.str "law_copykin_k32_node_of_a_copy" 452) none (.ref 263) .none)),#[]⟩)::
 (nat_lit 268,⟨.type "code",none,(.fields #[.str "law" 534,.str "law" 535,.str "/claim/cut.py" 536,.int 200 0,.int 1 0,.int 0 0,.int 0 0,.int 3 0,.ref 265,.bool true,.int 181 0,.ref 266,.none,.none,.none,.ref 267,.int 537 0,.int 200 0,.str "/claim/cut.py" 538]),#[]⟩)::
 (nat_lit 269,⟨.type "function",none,(.func (aH "law" "law" (bF (top 43)) (bc (top 43)) (aJ (top 43)) .none .none .none (.str "law_copykin_k32_node_of_a_copy" 452) none (.ref 268) .none)),#[]⟩)::[]
noncomputable def yU:List Addr:=[2,3,23,24,40,41,43,44,55,56,67,68,79,80,91,92,100,101,105,106,112,113,117,118,124,125,129,130,136,137,141,142,146,147,153,154,155,156,157,158,159,163,164,170,171,177,178,184,185,189,190,194,195,201,202,206,207,213,214,220,221,227,228,234,235,239,240,244,245,249,250,256,257,263,264,268,269]
noncomputable def lhsB(w:World):=(HY treeTable PySem.Challenge.pw_copykin_k32_node_of_a_copy w 4524).map (zL (jz K32.yT K32.yU (fun _=>by kernel_rfl) [144]))
noncomputable def rhsB(w:World):=some (zK (jz K32.yT K32.yU (fun _=>by kernel_rfl) [144]) w)
theorem laidB:(seen lhsB&&seen rhsB)=true:=by k_qdec
theorem leftB(w:World):lhsB w=rhsB w:=by
 have _:=laidB;rw[PySem.W.Fast.te6063846692603282828,PySem.W.Fast.te15551965832349349990]
 kernel_rfl
theorem four_of{us:List Value}(h:us.length=4):∃a b c d,us=[a,b,c,d]:=by
 cases us with
 |nil=>exact nomatch h
 |cons a r=>
  obtain⟨b,c,d,e⟩:=Kc.nV (pb h);exact⟨a,b,c,d,by rw[e]⟩
noncomputable def GI(st:Stmt):Pos:=match bc st with
 |_::.Assign _ (.Call _ _ [⟨_,.Lambda _ _ _ p,_⟩] _) _::_=>p
 |_=>⟨0,0,0,0⟩
noncomputable def tb(p:Addr):Tb:=⟨p,GI (top 20),"table_list.<locals>.<lambda>"⟩
theorem tl_ok:(mH iS oh (aJ (top 20))&&chkK (aJ (top 20)) iS jX 1 (.var 0) "copy" (GI (top 20)) jW (bc (top 20)))=true:=by decide+kernel
theorem tl_q:("table_list":Str)++".<locals>."++"<lambda>"="table_list.<locals>.<lambda>":=by decide+kernel
noncomputable def vals(C CE CN CC CP CR kd:Addr):List (Str×V):=[("LETTERS",.str LETTERS),("LONGEST_NAME",.int 8),("MOST_PLACES",.int 60),("MOST_COPIES",.int 40),("NoTable",.ref C),("KinError",.ref CE),("NoName",.ref CN),("Clash",.ref CC),("NoPlace",.ref CP),("NoReading",.ref CR),("KINDS",.ref kd)]
theorem qQ{K:ae}{a:Addr}{od:Option Addr}{n:Nat}{sl:Array (Option Value)}{i j:Int}{t u:Tok}(l:K.lookup a=some ⟨.type "tuple",od,.seq #[.int i t,.int j u] n,sl⟩)(H:Hp):SqT K H a [.int i,.int j]:=
 .inr ⟨_,_,_,l,rfl,rfl,by show 2<=sizeLine;decide,.cons ⟨t,rfl⟩ (.cons ⟨u,rfl⟩ .nil)⟩
theorem GP{K:ae}{kd a0 a1 a2 a3:Addr}{od o0 o1 o2 o3:Option Addr}{n n0 n1 n2 n3:Nat}{sl s0 s1 s2 s3:Array (Option Value)}{t0 t1 t2 t3 u0 u1 u2 u3:Tok}(l:K.lookup kd=some ⟨.type "tuple",od,.seq #[.ref a0,.ref a1,.ref a2,.ref a3] n,sl⟩)
  (l0:K.lookup a0=some ⟨.type "tuple",o0,.seq #[.int 0 t0,.int 0 u0] n0,s0⟩)(l1:K.lookup a1=some ⟨.type "tuple",o1,.seq #[.int 0 t1,.int 1 u1] n1,s1⟩)(l2:K.lookup a2=some ⟨.type "tuple",o2,.seq #[.int 1 t2,.int 0 u2] n2,s2⟩)(l3:K.lookup a3=some ⟨.type "tuple",o3,.seq #[.int 1 t3,.int 1 u3] n3,s3⟩):Kc.Kinds K kd:=
 ⟨a0,a1,a2,a3,fun H=>⟨.inr ⟨_,_,_,l,rfl,rfl,by show 4<=sizeLine;decide,.cons rfl (.cons rfl (.cons rfl (.cons rfl .nil)))⟩,qQ l0 H,qQ l1 H,qQ l2 H,qQ l3 H⟩⟩
theorem kl{K:ae}{C:Addr}{cd:ClassData}(a:gW K (.ref C) "__getattribute__"=some (some (.builtin "BaseException.__getattribute__")))(b:gW K (.ref C) "__getattr__"=some none)(c:gW K (.ref C) "__class__"=some (some (.builtin "object.__class__")))
  (d:pT K (.builtin "object.__class__") "__get__"=some (some (.builtin "getset_descriptor.__get__")))(e:PySem.W.takesIn K (.builtin "object.__class__")=some true)(f:xN K C (.type "object")=some true)(g:xN K C (.type "BaseException")=some true)(h:PySem.W.clsIn K C=some cd):k7 K C=true:=by
 unfold k7;rw[a,b,c,d,e,f,g,h];simp only[beq_self_eq_true,Bool.and_self,fw]
theorem sJ{K:ae}{C:Addr}{f:Str}{cd:ClassData}(a:k7 K C=true)(b:gW K (.ref C) f=some none)(c:PySem.W.clsIn K C=some cd)(d:cd.hasDict=true):jk K C f=true:=by
 unfold jk;rw[a,b,c];simp only[beq_self_eq_true,Bool.and_self,d]
noncomputable def xC(K:ae)(x:Str)(st:Stmt)(c p:Addr):Prop:=∃(f:Addr)(oc:Value)(od an:Option Addr)(osl:Array (Option Value))(kV doc pm ct:Value),cF K bg x=some (some (.ref f))/\
 K.lookup f=some ⟨oc,od,.func (aH x x (bF st) (bc st) (aJ st) .none kV doc pm an (.ref c) ct),osl⟩/\ek K (.ref c) x=true/\cw K (.ref f)=true/\Ia K c p=true
theorem vc{K:ae}{x:Str}{st:Stmt}{f c p:Addr}{oc:Value}{od an:Option Addr}{osl:Array (Option Value)}{kV doc pm ct:Value}(a:cF K bg x=some (some (.ref f)))
  (l:K.lookup f=some ⟨oc,od,.func (aH x x (bF st) (bc st) (aJ st) .none kV doc pm an (.ref c) ct),osl⟩)(k:ek K (.ref c) x=true)(q:cw K (.ref f)=true)(h:Ia K c p=true):∃c,xC K x st c p:=
 ⟨c,f,oc,od,an,osl,kV,doc,pm,ct,a,l,k,q,h⟩
theorem add_fnK{P:Program}{w:World}{K:ae}{mg:Str->Option Value}{base h:Heap}{k:Nat}{vals:List (Str×V)}{fns:List ((Str×Nat)×(Sp×List V))}{x lx:Str}{st:Stmt}{N ps:List Str}{sp:Sp}{c1:CS}{i:Nat}{ce:R.CE}{c2:CB}{T:Tb}{c:Addr}{inis:List ((Str×Nat)×(Addr×Sp×List V))}{dics:List (Addr×List (Key×V))}
  (g:GOk P w K mg base (CXx P w) k (gam vals fns inis dics))(X:K.In h)(Xb:K.In base)(Gm:h.Ns bg mg)(d:xC K x st c T.P)(hc:(mH N ps (aJ st)&&chkK (aJ st) N c1 i ce lx T.pos c2 (bc st))=true)(hq:x++".<locals>."++"<lambda>"=T.q)(hb:BM mg base)
  (hbd:∀(p:Pos)(body:Expr)(scope:Scope)(qual:Str)(pm ctv v:Value)(c':Addr),nK (PySem.W.kla_fn "<lambda>" qual (oA lx p) body scope [] pm (.ref c') ctv) ⟨[v],[]⟩=pure [(lx,v)])
  (hba:∀(kV doc pm:Value)(an:Option Addr)(cdv ct:Value)(us:List Value),us.length=ps.length->nK (aH x x (bF st) (bc st) (aJ st) .none kV doc pm an cdv ct) ⟨us,[]⟩=pure (ps.zip us))(len:∀vs H Q E,sp vs H Q E->vs.length=ps.length)
  (hw:∀vs H Q E,sp vs H Q E->qD (R.wpS (gam vals fns inis dics) K (fun _=>E) c1) (qD (rC (rA K T (wpE (gam vals fns inis dics) K (fun _=>E) ce)) (kj i)) (wpB (gam vals fns inis dics) K (fun _=>E) c2)) {nx:=fun _ H'=>Q .non H',rt:=Q} (L2.start N vs) H):
  GOk P w K mg base (CXx P w) (k+1) (gam vals (((x,ps.length),(sp,[]))::fns) inis dics):=by
 rw[ah]at hc;obtain⟨f,oc,od,an,osl,kV,doc,pm,ct,a,l,q1,q2,q3⟩:=d;have F:=AZ l q1 q2;exact g.add (n:=ps.length) (Hb F hc.1 hc.2 rfl (Cs Xb q3) hq hb hbd g len hw) (cB X Gm a) q2 (F.binds hba) .nil
theorem AW{K:ae}{kV doc pm cdv ct:Value}{an:Option Addr}:Binds K (aH "__init__" "Clash.__init__" (bF (iK 2 0)) (bc (iK 2 0)) (aJ (iK 2 0)) .none kV doc pm an cdv ct) K32.kZ []:=fun s us X hl=>by
 rw[vJ]at hl⊢;obtain⟨_,_,_,_,rfl⟩:=four_of hl;exact .of_eq rfl
theorem init_ok:(mH K32.iG K32.kZ (aJ (iK 2 0))&&lu (aJ (iK 2 0)) K32.iG K32.iO (bc (iK 2 0)))=true:=by decide+kernel
theorem all_mk{P:Program}{w:World}{K:ae}{h:Heap}{mg:Str->Option Value}{fa p:Addr}(X:K.In h)(Gm:h.Ns bg mg)(hfa:mg "law"=some (.ref fa)){t1 t2 t3 t4:Tok}{C CE CN CC CP CR kd fI:Addr}{odI anI:Option Addr}{kVI docI pmI cdI ctI:Value}{slI:Array (Option Value)}
  (v1:cF K bg "LETTERS"=some (some (.str LETTERS t1)))(v2:cF K bg "LONGEST_NAME"=some (some (.int 8 t2)))(v3:cF K bg "MOST_PLACES"=some (some (.int 60 t3)))(v4:cF K bg "MOST_COPIES"=some (some (.int 40 t4)))(v5:cF K bg "NoTable"=some (some (.ref C)))(v6:cF K bg "KinError"=some (some (.ref CE)))(v7:cF K bg "NoName"=some (some (.ref CN)))(v8:cF K bg "Clash"=some (some (.ref CC)))(v9:cF K bg "NoPlace"=some (some (.ref CP)))(v10:cF K bg "NoReading"=some (some (.ref CR)))(v11:cF K bg "KINDS"=some (some (.ref kd)))
  (xc:XC K C)(xn:XC K CN)(F1:Rf K CE C CN CC CP CR C true false false)(F2:Rf K CE C CN CC CP CR CN false true false)(F3:Rf K CE C CN CC CP CR CC false false true)(f1:jk K CC "one"=true)(f2:jk K CC "other"=true)(f3:jk K CC "names"=true)(kd0:Kc.Kinds K kd)(mx:nv K CC fI bmV "ValueError.__new__"=true)(kI:cw K (.ref CC)=true)(lI:K.lookup fI=some ⟨.type "function",odI,.func (aH "__init__" "Clash.__init__" (bF (iK 2 0)) (bc (iK 2 0)) (aJ (iK 2 0)) .none kVI docI pmI anI cdI ctI),slI⟩)(cI:ek K cdI "Clash.__init__"=true)(b1:pT K (.ref CE) "__getattribute__"=some (some (.builtin "type.__getattribute__")))(b2:PySem.W.readsIn K CE (.type "type")=true)(b3:PySem.W.findCls K (.ref CE) (.type "type") "__init__"=some (.val (.builtin "ValueError.__init__")))(st1:StX K CC "one")(st2:StX K CC "other")(st3:StX K CC "names")(bl:∀x∈iA,cF K bg x=some none)
  (h12:HasFn K "is_whole" (top 12))(h13:HasFn K "is_name" (top 13))(h14:HasFn K "is_reading" (top 14))(h15:HasFn K "are_readings" (top 15))(h16:HasFn K "is_copy" (top 16))(h17:HasFn K "is_table" (top 17))(h18:HasFn K "need_table" (top 18))(h19:HasFn K "need_name" (top 19))(h21:HasFn K "place_count" (top 21))(h24:HasFn K "first_of_kinds" (top 24))(h25:HasFn K "clash" (top 25))(h26:HasFn K "refuse_clash" (top 26))(h28:HasFn K "group_at" (top 28))(h29:HasFn K "turned" (top 29))(h30:HasFn K "grown" (top 30))(h31:HasFn K "tree" (top 31))(h32:HasFn K "node_of" (top 32))(h34:HasFn K "_law_cell_at" (top 34))(h35:HasFn K "_law_whole" (top 35))(h36:HasFn K "_law_draw" (top 36))(h37:HasFn K "_law_names" (top 37))(h38:HasFn K "_law_random" (top 38))(h39:HasFn K "_law_otherwise" (top 39))(h40:HasFn K "_law_grown" (top 40))(h41:HasFn K "_law_held" (top 41))(h42:HasFn K "_law_truths" (top 42))(h20:∃c,xC K "table_list" (top 20) c p)(h43:HasFn K "law" (top 43)):
  ∃fd:fh,(∀(s:Shared)(v:Value),BindsTo s fd ⟨[v],[]⟩ [("_law_script",v)])/\∀base:Heap,K.In base->base.Ns bg mg->BM mg base->ju P w K mg base CX0 30 fa fd ["_law_script"] (fun vs H Q _=>E1 K (tb p) vs H Q E0):=by
 obtain⟨f,oc',od,an,osl,kV,doc,pm,cdv,ct,a,l,c,k⟩:=id h43;have e:=hfa.symm.trans (cB X Gm a);cases e;obtain⟨cc,h20⟩:=h20;refine⟨aH "law" "law" (bF (top 43)) (bc (top 43)) (aJ (top 43)) .none kV doc pm an cdv ct,fun s v=>.of_eq rfl,fun base Xb _ bm=>?_⟩;have hv:∀x v,(x,v)∈vals C CE CN CC CP CR kd->∃u,mg x=some u/\RelV v u:=by
  intro x v hm;simp only[vals,aC,dj,or_false,Prod.mk.injEq]at hm;rcases hm with⟨rfl,rfl⟩ |⟨rfl,rfl⟩ |⟨rfl,rfl⟩ |⟨rfl,rfl⟩ |⟨rfl,rfl⟩ |⟨rfl,rfl⟩ |⟨rfl,rfl⟩ |⟨rfl,rfl⟩ |⟨rfl,rfl⟩ |⟨rfl,rfl⟩ |⟨rfl,rfl⟩
  ·exact⟨_,cB X Gm v1,t1,rfl⟩
  ·exact⟨_,cB X Gm v2,t2,rfl⟩
  ·exact⟨_,cB X Gm v3,t3,rfl⟩
  ·exact⟨_,cB X Gm v4,t4,rfl⟩
  ·exact⟨_,cB X Gm v5,rfl⟩
  ·exact⟨_,cB X Gm v6,rfl⟩
  ·exact⟨_,cB X Gm v7,rfl⟩
  ·exact⟨_,cB X Gm v8,rfl⟩
  ·exact⟨_,cB X Gm v9,rfl⟩
  ·exact⟨_,cB X Gm v10,rfl⟩
  ·exact⟨_,cB X Gm v11,rfl⟩
 have g0:GOk P w K mg base (CXx P w) 0 (gam (vals C CE CN CC CP CR kd) []):=GOk.start hv fun x hx=>PySem.W.mg_none_of X Gm (bl x hx);have g1:=dH (N:=Cp.r8) (ps:=Cp.As) g0 (h12.def X Gm) (by decide+kernel) (fun _ _ _ _ _ _ us hl=>by obtain⟨_,rfl⟩:=Kc.gy hl;rfl) (sp:=spB isWhole) (fun vs H Q E h=>Kc.cR h fun _ h=>Kc.gO h rfl) pZ;have g2:=dH (N:=Cp.uW) (ps:=Cp.Dg) g1 (h13.def X Gm) (by decide+kernel) (fun _ _ _ _ _ _ us hl=>by obtain⟨_,rfl⟩:=Kc.gy hl;rfl) (sp:=spN) (fun vs H Q E h=>Kc.cR h fun _ h=>Kc.gO h rfl) (zS (by kernel_rfl) (by kernel_rfl));have g3:=dH (N:=Cp.ou) (ps:=Cp.wH) g2 (h14.def X Gm) (by decide+kernel) (fun _ _ _ _ _ _ us hl=>by obtain⟨_,rfl⟩:=Kc.gy hl;rfl) (sp:=spB bj) (fun vs H Q E h=>Kc.cR h fun _ h=>Kc.gO h rfl) (tZ (by kernel_rfl));have g4:=dH (N:=Cp.lK) (ps:=Cp.rV) g3 (h15.def X Gm) (by decide+kernel) (fun _ _ _ _ _ _ us hl=>by obtain⟨_,rfl⟩:=Kc.gy hl;rfl) (sp:=spR) (fun vs H Q E h=>Kc.cR h fun _ h=>Kc.gO h rfl) (qC (by kernel_rfl) (by kernel_rfl));have g5:=dH (N:=Cp.uX) (ps:=Cp.Dh) g4 (h16.def X Gm) (by decide+kernel) (fun _ _ _ _ _ _ us hl=>by obtain⟨_,rfl⟩:=Kc.gy hl;rfl) (sp:=spC) (fun vs H Q E h=>Kc.cR h fun _ h=>Kc.gO h rfl) (zT (by kernel_rfl) (by kernel_rfl));have g6:=dH (N:=Cp.r9) (ps:=Cp.Au) g5 (h17.def X Gm) (by decide+kernel) (fun _ _ _ _ _ _ us hl=>by obtain⟨_,rfl⟩:=Kc.gy hl;rfl) (sp:=Cp.spT) (fun vs H Q E h=>Kc.cR h fun _ h=>Kc.gO h rfl) (xZ (by kernel_rfl) (by kernel_rfl));have g7:=dH (N:=Cp.oo) (ps:=Cp.wD) g6 (h18.def X Gm) (by decide+kernel) (fun _ _ _ _ _ _ us hl=>by obtain⟨_,rfl⟩:=Kc.gy hl;rfl) (sp:=rJ C) (fun vs H Q E h=>Kc.cR h fun _ h=>Kc.gO h rfl) (tY (by kernel_rfl) (by kernel_rfl) xc);have g8:=dH (N:=K32.p9) (ps:=K32.yk) g7 (h19.def X Gm) (by decide+kernel) (fun _ _ _ _ _ _ us hl=>by obtain⟨_,_,rfl⟩:=Kc.ja hl;rfl) (sp:=K32.rH C CN) (fun vs H Q E h=>Kc.cR h fun _ h=>Kc.cR h fun _ h=>Kc.gO h rfl) (K32.CH (C:=C) (CN:=CN) (by kernel_rfl) (by kernel_rfl) (by kernel_rfl) xn);have g9:=add_fnK (T:=tb p) (N:=iS) (ps:=oh) (lx:="copy") g8 X Xb Gm h20 tl_ok tl_q bm (fun _ _ _ _ _ _ _ _=>rfl) (fun _ _ _ _ _ _ us hl=>by obtain⟨_,rfl⟩:=Kc.gy hl;rfl) (sp:=rK C (tb p)) (fun vs H Q E h=>Kc.cR h fun _ h=>Kc.gO h rfl) (tU (C:=C) (by kernel_rfl));have g10:=dH (N:=Cp.mJ) (ps:=Cp.uf) g9 (h21.def X Gm) (by decide+kernel) (fun _ _ _ _ _ _ us hl=>by obtain⟨_,rfl⟩:=Kc.gy hl;rfl) (sp:=vZ C) (fun vs H Q E h=>Kc.cR h fun _ h=>Kc.gO h rfl) (rh (C:=C) (by kernel_rfl));have g11:=dH (N:=Kc.ki) (ps:=Kc.pC) g10 (h24.def X Gm) (by decide+kernel) (fun _ _ _ _ _ _ us hl=>by obtain⟨_,_,_,rfl⟩:=Kc.nV hl;rfl) (sp:=Kc.vY) (fun vs H Q E h=>Kc.cR h fun _ h=>Kc.cR h fun _ h=>Kc.cR h fun _ h=>Kc.cR h fun _ h=>Kc.cR h fun _ h=>Kc.gO h rfl) (Kc.EC (by kernel_rfl) kd0);have g12:=dH (N:=K22.BL) (ps:=K22.p_clash) g11 (h25.def X Gm) (by decide+kernel) (fun _ _ _ _ _ _ us hl=>by obtain⟨_,rfl⟩:=Kc.gy hl;rfl) (sp:=K22.ic C (tb p)) (fun vs H Q E h=>Kc.cR h fun _ h=>Kc.gO h rfl) (K22.ED (C:=C) (T:=tb p) (by kernel_rfl) (by kernel_rfl) (by kernel_rfl));have nt:K32.Cl K CE CC:=⟨⟨b1,b2,b3⟩,st1,st2,st3,fI,mx⟩;have hi:=nS.mp init_ok;have g12I:=g12.addI (n:=3) (x:="Clash") (C:=CC) ⟨mx,⟨_,lI,rfl⟩,kI⟩ (yX lI cI hi.1 hi.2 g12 (sp:=K32.vV CC) (fun vs H Q E h=>Kc.cR h fun _ h=>Kc.cR h fun _ h=>Kc.cR h fun _ h=>Kc.cR h fun _ h=>Kc.gO h rfl) (K32.Ez (B:=CE) (C:=CC) (by kernel_rfl) nt)) (cB X Gm v8) AW .nil;have g13:=dH (N:=K32.lJ) (ps:=K32.rT) g12I (h26.def X Gm) (by decide+kernel) (fun _ _ _ _ _ _ us hl=>by obtain⟨_,rfl⟩:=Kc.gy hl;rfl) (sp:=rF C CC (tb p)) (fun vs H Q E h=>Kc.cR h fun _ h=>Kc.gO h rfl) (CD (C:=C) (CC:=CC) (T:=tb p) (by kernel_rfl) (by kernel_rfl));have g14:=dH (N:=K32.se) (ps:=K32.Av) g13 (h28.def X Gm) (by decide+kernel) (fun _ _ _ _ _ _ us hl=>by obtain⟨_,_,rfl⟩:=Kc.ja hl;rfl) (sp:=vX) (fun vs H Q E h=>Kc.cR h fun _ h=>Kc.cR h fun _ h=>Kc.cR h fun _ h=>Kc.cR h fun _ h=>Kc.cR h fun _ h=>Kc.gO h rfl) EB;have g15:=dH (N:=K32.yB) (ps:=K32.F5) g14 (h29.def X Gm) (by decide+kernel) (fun _ _ _ _ _ _ us hl=>by obtain⟨_,_,rfl⟩:=Kc.ja hl;rfl) (sp:=lE K) (fun vs H Q E h=>Kc.cR h fun _ h=>Kc.cR h fun _ h=>Kc.cR h fun _ h=>Kc.cR h fun _ h=>Kc.gO h rfl) Cz;have g16:=dH (N:=K32.BK) (ps:=K32.p_grown) g15 (h30.def X Gm) (by decide+kernel) (fun _ _ _ _ _ _ us hl=>by obtain⟨_,rfl⟩:=Kc.gy hl;rfl) (sp:=rL) (fun vs H Q E h=>Kc.cR h fun _ h=>Kc.cR h fun _ h=>Kc.cR h fun _ h=>Kc.cR h fun _ h=>Kc.gO h rfl) (CQ (by kernel_rfl) (by kernel_rfl));have g17:=dH (N:=K32.Gd) (ps:=K32.p_tree) g16 (h31.def X Gm) (by decide+kernel) (fun _ _ _ _ _ _ us hl=>by obtain⟨_,rfl⟩:=Kc.gy hl;rfl) (sp:=z9 C CC (tb p)) (fun vs H Q E h=>Kc.cR h fun _ h=>Kc.gO h rfl) (wp_tree (C:=C) (CC:=CC) (T:=tb p) (by kernel_rfl) (by kernel_rfl) (by kernel_rfl));have g18:=dH (N:=K32.uV) (ps:=K32.Df) g17 (h32.def X Gm) (by decide+kernel) (fun _ _ _ _ _ _ us hl=>by obtain⟨_,_,rfl⟩:=Kc.ja hl;rfl) (sp:=pw C CN (tb p)) (fun vs H Q E h=>Kc.cR h fun _ h=>Kc.cR h fun _ h=>Kc.gO h rfl) (zR (C:=C) (CN:=CN) (T:=tb p) (by kernel_rfl) (by kernel_rfl));have g19:=dH (N:=Lt.mK) (ps:=Lt.ug) g18 (h34.def X Gm) (by decide+kernel) (fun _ _ _ _ _ _ us hl=>by obtain⟨_,_,rfl⟩:=Kc.ja hl;rfl) (sp:=Lt.Aa K) (fun vs H Q E h=>Kc.cR h fun _ h=>Kc.cR h fun _ h=>Kc.cR h fun _ h=>Kc.gO h rfl) Lt.wp_cell;have g20:=dH (N:=K22.yC) (ps:=K22.ym) g19 (h35.def X Gm) (by decide+kernel) (fun _ _ _ _ _ _ us hl=>by obtain⟨_,rfl⟩:=Kc.gy hl;rfl) (sp:=spB isWhole) (fun vs H Q E h=>Kc.cR h fun _ h=>Kc.gO h rfl) pZ;have g21:=dH (N:=K21.r6) (ps:=K21.Ar) g20 (h36.def X Gm) (by decide+kernel) (fun _ _ _ _ _ _ us hl=>by obtain⟨_,_,rfl⟩:=Kc.ja hl;rfl) (sp:=K21.gN) (fun vs H Q E h=>Kc.cR h fun _ h=>Kc.cR h fun _ h=>Kc.gO h rfl) K21.wp_draw;have g22:=dH (N:=K21.qa) (ps:=K21.yn) g21 (h37.def X Gm) (by decide+kernel) (fun _ _ _ _ _ _ us hl=>by obtain⟨_,_,rfl⟩:=Kc.ja hl;rfl) (sp:=K21.vU) (fun vs H Q E h=>Kc.cR h fun _ h=>Kc.cR h fun _ h=>Kc.gO h rfl) (K21.Ew (by kernel_rfl));have g23:=dH (N:=K21.ot) (ps:=K21.wG) g22 (h38.def X Gm) (by decide+kernel) (fun _ _ _ _ _ _ us hl=>by obtain⟨_,_,_,rfl⟩:=Kc.nV hl;rfl) (sp:=K21.rG K) (fun vs H Q E h=>Kc.cR h fun _ h=>Kc.cR h fun _ h=>Kc.cR h fun _ h=>Kc.cR h fun _ h=>Kc.cR h fun _ h=>Kc.cR h fun _ h=>Kc.gO h rfl) (K21.CF (by kernel_rfl));have g24:=dH (N:=K22.k6) (ps:=K22.qF) g23 (h39.def X Gm) (by decide+kernel) (fun _ _ _ _ _ _ us hl=>by obtain⟨_,_,rfl⟩:=Kc.ja hl;rfl) (sp:=K22.jD K) (fun vs H Q E h=>Kc.cR h fun _ h=>Kc.cR h fun _ h=>Kc.cR h fun _ h=>Kc.cR h fun _ h=>Kc.gO h rfl) K22.Eu;have g25:=dH (N:=K22.qb) (ps:=K22.yo) g24 (h40.def X Gm) (by decide+kernel) (fun _ _ _ _ _ _ us hl=>by obtain⟨_,_,rfl⟩:=Kc.ja hl;rfl) (sp:=K22.qO K) (fun vs H Q E h=>Kc.cR h fun _ h=>Kc.cR h fun _ h=>Kc.cR h fun _ h=>Kc.gO h rfl) (K22.EA (by kernel_rfl) (by kernel_rfl));have g26:=dH (N:=K22.rZ) (ps:=K22.Aq) g25 (h41.def X Gm) (by decide+kernel) (fun _ _ _ _ _ _ us hl=>by obtain⟨_,_,rfl⟩:=Kc.ja hl;rfl) (sp:=K22.vW K) (fun vs H Q E h=>Kc.cR h fun _ h=>Kc.cR h fun _ h=>Kc.cR h fun _ h=>Kc.cR h fun _ h=>Kc.gO h rfl) (K22.wp_held (by kernel_rfl));have X':∀fns inis,Xs (gam (vals C CE CN CC CP CR kd) fns inis) K CE C CN CC CP CR:=fun fns inis=>⟨by kernel_rfl,by kernel_rfl,by kernel_rfl,by kernel_rfl,by kernel_rfl,by kernel_rfl⟩;have g27:=dH (N:=K32.oq) (ps:=K32.wF) g26 (h42.def X Gm) (by decide+kernel) (fun _ _ _ _ _ _ us hl=>by obtain⟨_,_,_,rfl⟩:=Kc.nV hl;rfl) (sp:=vT (tb p)) (fun vs H Q E h=>Kc.cR h fun _ h=>Kc.cR h fun _ h=>Kc.cR h fun _ h=>Kc.gO h rfl) (CA (T:=tb p) (X' _ _) F1 F2 F3 f1 f2 f3 (by kernel_rfl) (by kernel_rfl));have hk:(mH K32.Ge K32.p_law (aJ (top 43))&&lu (aJ (top 43)) K32.Ge K32.HA (bc (top 43)))=true:=by decide+kernel
 rw[ah]at hk;exact ju.calm (B3 (AZ l c k) hk.1 hk.2 g27 (fun vs H Q E h=>Kc.cR h fun _ h=>Kc.cR h fun _ h=>Kc.gO h rfl) (wp_law (C:=C) (CN:=CN) (T:=tb p) (by kernel_rfl) (by kernel_rfl) (by kernel_rfl) (by kernel_rfl) (by kernel_rfl) (by kernel_rfl) (by kernel_rfl) (by kernel_rfl) (by kernel_rfl) (by kernel_rfl)))
end K32
open PySem PySem.W PyProof.Rows
set_option maxRecDepth 100000 in
set_option maxHeartbeats 0 in
theorem PySem.Challenge.cw_copykin_k32_node_of_a_copy_holds : PySem.Challenge.rw_copykin_k32_node_of_a_copy.Holds := by
 w_on;o_law
 refine PySem.W.holds_open (q:=K32.vw) (loose:=K32.loo) (Xt:=K32.xt)
  (XP:=PySem.W.XL K32.vw []) (Yf:=zL (jz K32.yT K32.yU (fun _=>by kernel_rfl) [144])) (Ya:=zK (jz K32.yT K32.yU (fun _=>by kernel_rfl) [144]))
  (YP:=PySem.W.Hook.says (jz K32.yT K32.yU (fun _=>by kernel_rfl) [144])) (N:=4524) (fun w=>K32.both (K32.leftA w) (K32.leftB w)) (PySem.W.Hook.of _) (PySem.W.Hook.keeps _)
  (fun s e=>PySem.W.xl_of s (nS.mp e).1) PySem.W.XL.keeps
  (by rfl) (by rfl) (by rfl)
  (fun s e=>PySem.W.recFacts_of (nS.mp e).2) rfl (by assumption) (by decide+kernel)
  ⟨rfl,rfl,rfl,rfl,rfl,by decide+kernel⟩ ?hw ?hc
 (case hw=>w_witness2)
 k_fill
 refine Lm.EE (l:=PySem.Challenge.rw_copykin_k32_node_of_a_copy) (n:=63) (k:=30) (x:="_law_script") (CX:=L2.CX0) (sp:=fun K=>fun vs H Q _=>K32.E1 K (K32.tb 144) vs H Q L2.E0) (tabs:=[144]) rfl (by decide) rfl ⟨rfl,by decide,by decide⟩ (fun w h Y=>HZ Y) ?T ?F (fun K H a ns hl ht hS=>⟨a,ns,rfl,hS,hl,.inl (ht 144 (aO.mpr rfl)),fun _=>rfl⟩) (fun _ _ _ _ z=>z)
 case T=>
  intro w s₀ mg mb h G Y p hp;obtain rfl:=aO.mp hp;have KX:=HZ Y;have T:=PySem.W.km_tabs_of Y 144 (aO.mpr rfl);have F:∃c,K32.xC (L2.KOf KX) "table_list" (K32.top 20) c 144:=by
   dsimp only[L2.KOf];refine' K32.vc ?ta ?tl ?tk ?tq ?th;(case ta=>k_is);(case tl=>k_is);(case tk=>k_is);(case tq=>k_is);(case th=>first |k_is|kernel_rfl)
  obtain⟨c,_,_,_,_,_,_,_,_,_,_,_,_,_,q⟩:=F;exact⟨T,((Cs KX q).tab T).isCodeTable,by kernel_rfl⟩
 case F=>
  intro w mg fa h KX G hmg;refine' K32.all_mk (p:=144) (fI:=41) (cdI:=.ref 40) KX G hmg ?v1 ?v2 ?v3 ?v4 ?v5 ?v6 ?v7 ?v8 ?v9 ?v10 ?v11 ?xc ?xn ?F1 ?F2 ?F3 ?f1 ?f2 ?f3 ?kd0 ?mx ?kI ?lI ?cI ?b1 ?b2 ?b3 ?st1 ?st2 ?st3 ?bl ?h12 ?h13 ?h14 ?h15 ?h16 ?h17 ?h18 ?h19 ?h21 ?h24 ?h25 ?h26 ?h28 ?h29 ?h30 ?h31 ?h32 ?h34 ?h35 ?h36 ?h37 ?h38 ?h39 ?h40 ?h41 ?h42 ?h20 ?h43
  (case v1=>k_is);(case v2=>k_is);(case v3=>k_is);(case v4=>k_is);(case v5=>k_is);(case v6=>k_is);(case v7=>k_is);(case v8=>k_is);(case v9=>k_is);(case v10=>k_is);(case v11=>k_is)
  (case xc=>refine'⟨?x1,?x2⟩;(case x1=>k_is);(case x2=>k_exc))
  (case xn=>refine'⟨?x1,?x2⟩;(case x1=>k_is);(case x2=>k_exc))
  (case F1=>refine'⟨?o,?m,?k1,?k2,?k3,?kv,?k4,?k5⟩;(case o=>refine' K32.kl ?xa ?xb ?xc ?xd ?xe ?xf ?xg ?xh;(case xa=>k_is);(case xb=>k_is);(case xc=>k_is);(case xd=>k_is);(case xe=>k_is);(case xf=>k_is);(case xg=>k_is);(case xh=>k_is));(case m=>kts_exm);(case k1=>kit_is);(case k2=>kit_is);(case k3=>kit_is);(case kv=>kit_is);(case k4=>kit_is);(case k5=>kit_is))
  (case F2=>refine'⟨?o,?m,?k1,?k2,?k3,?kv,?k4,?k5⟩;(case o=>refine' K32.kl ?xa ?xb ?xc ?xd ?xe ?xf ?xg ?xh;(case xa=>k_is);(case xb=>k_is);(case xc=>k_is);(case xd=>k_is);(case xe=>k_is);(case xf=>k_is);(case xg=>k_is);(case xh=>k_is));(case m=>kts_exm);(case k1=>kit_is);(case k2=>kit_is);(case k3=>kit_is);(case kv=>kit_is);(case k4=>kit_is);(case k5=>kit_is))
  (case F3=>refine'⟨?o,?m,?k1,?k2,?k3,?kv,?k4,?k5⟩;(case o=>refine' K32.kl ?xa ?xb ?xc ?xd ?xe ?xf ?xg ?xh;(case xa=>k_is);(case xb=>k_is);(case xc=>k_is);(case xd=>k_is);(case xe=>k_is);(case xf=>k_is);(case xg=>k_is);(case xh=>k_is));(case m=>kts_exm);(case k1=>kit_is);(case k2=>kit_is);(case k3=>kit_is);(case kv=>kit_is);(case k4=>kit_is);(case k5=>kit_is))
  (case f1=>refine' K32.sJ (K32.kl ?xa ?xb ?xc ?xd ?xe ?xf ?xg ?xh) ?fb ?fc ?fd;(case xa=>k_is);(case xb=>k_is);(case xc=>k_is);(case xd=>k_is);(case xe=>k_is);(case xf=>k_is);(case xg=>k_is);(case xh=>k_is);(case fb=>k_is);(case fc=>k_is);(case fd=>rfl))
  (case f2=>refine' K32.sJ (K32.kl ?xa ?xb ?xc ?xd ?xe ?xf ?xg ?xh) ?fb ?fc ?fd;(case xa=>k_is);(case xb=>k_is);(case xc=>k_is);(case xd=>k_is);(case xe=>k_is);(case xf=>k_is);(case xg=>k_is);(case xh=>k_is);(case fb=>k_is);(case fc=>k_is);(case fd=>rfl))
  (case f3=>refine' K32.sJ (K32.kl ?xa ?xb ?xc ?xd ?xe ?xf ?xg ?xh) ?fb ?fc ?fd;(case xa=>k_is);(case xb=>k_is);(case xc=>k_is);(case xd=>k_is);(case xe=>k_is);(case xf=>k_is);(case xg=>k_is);(case xh=>k_is);(case fb=>k_is);(case fc=>k_is);(case fd=>rfl))
  (case kd0=>refine' K32.GP ?l ?l0 ?l1 ?l2 ?l3;(case l=>k_is);(case l0=>k_is);(case l1=>k_is);(case l2=>k_is);(case l3=>k_is))
  (case mx=>first |k_exc|kernel_rfl)
  (case kI=>k_is)
  (case lI=>k_is)
  (case cI=>k_is)
  (case b1=>k_is)
  (case b2=>first |k_is|kernel_rfl)
  (case b3=>first |k_is|kernel_rfl)
  (case st1=>refine'⟨?s1,?s2,?s3,?s4⟩;(case s1=>k_is);(case s2=>first |k_is|kernel_rfl);(case s3=>first |k_is|kernel_rfl);(case s4=>first |k_is|kernel_rfl))
  (case st2=>refine'⟨?s1,?s2,?s3,?s4⟩;(case s1=>k_is);(case s2=>first |k_is|kernel_rfl);(case s3=>first |k_is|kernel_rfl);(case s4=>first |k_is|kernel_rfl))
  (case st3=>refine'⟨?s1,?s2,?s3,?s4⟩;(case s1=>k_is);(case s2=>first |k_is|kernel_rfl);(case s3=>first |k_is|kernel_rfl);(case s4=>first |k_is|kernel_rfl))
  (case bl=>
   intro x hx;simp only[R.iA,aC,dj,or_false]at hx;rcases hx with rfl|rfl|rfl|rfl|rfl|rfl|rfl|rfl|rfl|rfl|rfl|rfl|rfl|rfl|rfl|rfl|rfl|rfl|rfl<;>k_is)
  (case h20=>refine' K32.vc ?ua ?ul ?uk ?uq ?uh;(case ua=>k_is);(case ul=>k_is);(case uk=>k_is);(case uq=>k_is);(case uh=>first |k_is|kernel_rfl))
  all_goals(refine' R.G3 ?a ?l ?c ?k;(case a=>k_is);(case l=>k_is);(case c=>k_is);(case k=>k_is))
