import PyProof.Rows.All
import Wide.All
import OpenK.AllK
import Wide.FinOn
import Lean
import PyProof.EqAt
import PyProof.EqKinds
import PyProof.TupleCall
import PyProof.NeKinds
import PySem.Challenge.RW_copykin_k53_fewest_changes
open Array renaming length_toList → bR, getElem?_eq_some_iff → cO, getElem?_toList → gI, perm_iff_toList_perm → u3, mem_toList_iff → Bj, getD → EI
open Bool renaming and_eq_true → aP, false_ne_true → bp, false_eq_true → bO, or_eq_true → di, false_and → eY, and_false → eZ, eq_iff_iff → lq, or_false → xl, and_eq_true_iff → Bx
open False renaming elim → jd
open ForInStep renaming yield → fk
open Int renaming emod_nonneg → cS, toNat_natCast → dh, toNat_of_nonneg → fH, emod_lt_of_pos → f9, fdiv_eq_ediv_of_nonneg → jt, eq_ofNat_of_zero_le → zN
open Lean.Name renaming str → bU, anonymous → xk
open List renaming length_map → ag, getElem?_eq_getElem → ai, mem_singleton → aq, mem_cons_self → au, mem_append → aw, size_toArray → ay, map_append → aD, mem_cons_of_mem → aF, length_append → aG, mem_map → aH, getD_eq_getElem?_getD → aJ, mem_cons → aK, map_cons → aN, replicate → aO, range → aQ, mem_of_getElem? → aS, mem_iff_getElem → aT, mem_append_right → aW, getElem?_map → aZ, length_take → bb, length_cons → bj, lookup_cons → bt, not_mem_nil → bA, getElem?_eq_some_iff → bE, map_map → bK, getElem_map → bL, take_add_one → bM, mem_map_of_mem → bS, length_singleton → bX, take_length → bY, nodup_cons → cb, getElem_inj → cc, nodup_append → cf, filter_cons → cu, nodup_nil → cA, find?_cons → cD, append_nil → cE, map_reverse → cH, getElem?_append_right → cP, append_assoc → df, length_reverse → dk, getElem_mem → du, ext_getElem → dv, all_eq_true → dw, length_range → dG, replicate_succ → dU, map_congr_left → dW, mem_range → dX, length_eq_zero_iff → dY, take_of_length_le → eF, getElem?_drop → eG, mem_filter → eK, length_replicate → eP, length_filter_le → eQ, pairwise_append → eX, mem_reverse → fi, any_eq_true → fj, getElem?_append_left → fw, flatMap_append → fC, sum_cons → fJ, length_nil → fV, filter_append → fX, reverse_perm → gv, pairwise_map → gw, getElem_take → gy, take_append_drop → gQ, length_drop → gS, lookup → ij, eq_nil_of_length_eq_zero → iq, length_pos_iff → iK, filterMap_cons → iL, perm_ext_iff_of_nodup → jf, mem_of_find?_eq_some → jv, reverse_cons → jJ, length → jK, flatten_cons → jL, count_append → jM, eq_of_mem_replicate → jY, any_cons → jZ, getElem?_cons_zero → kd, map_nil → kX, foldl_cons → lh, count_cons → lj, mem_iff_getElem? → lW, getElem?_eq_none → lX, mem_of_mem_take → mC, mem_append_left → mD, all_cons → ot, lookup_append → pq, filter_filter → pv, take_sublist → p8, flatMap_cons → p9, filter_congr → qa, all_map → qb, eraseIdxIfInBounds_toArray → rD, mem_flatMap → rJ, countP_cons → rK, of_mem_zip → tH, nil_append → tI, find?_some → tJ, nodup_iff_pairwise_ne → vb, length_eraseIdx_of_lt → vc, forIn_nil → vd, exists_cons_of_ne_nil → ve, drop_zero → vf, pairwise_iff_getElem → wZ, getElem?_take_of_lt → xj, getElem?_cons_succ → yA, pairwise_lt_range → zK, getElem?_set_self → zL, getElem?_toArray → Bg, getElem?_reverse → Bh, perm_cons_erase → Bq, mem_erase_of_ne → Bs, getLastD_concat → Bt, getElem?_set_ne → Bu, count_le_length → Bv, toList_toArray → EE, reverse_append → EF, getElem?_range → EG
open List.Pairwise renaming nil → lp
open List.Perm renaming refl → fW, swap → EH
open Nat renaming le_refl → ar, ne_of_lt → aE, zero_le → aM, le_trans → aU, lt_of_lt_of_le → bf, lt_succ_of_lt → bG, ne_of_gt → cG, lt_irrefl → dt, lt_succ_self → dy, le_succ_of_le → dJ, le_succ → eE, lt_trans → fq, le_of_not_lt → ft, le_add_right → fu, le_of_lt → gF, min_le_right → hG, not_lt_zero → iJ, sub_zero → lg, lt_of_le_of_lt → pL, min_eq_left → uY, le_antisymm → uZ, min_self → Bd, add_comm → Be
open Nat.succ renaming inj → hZ
open Ne renaming symm → cz
open Option renaming isNone_iff_eq_none → dB, isSome_iff_exists → dF, map_eq_some_iff → gf, map_some → hX, isSome_map → pk, getD_none → p7, isSome_some → Bo
open Option.some renaming inj → bh, injEq → fG
open PyProof.Rows renaming callWith_type1 → bT, boot_list → fB, StrsAre → fT, boot_dict → je, AllBare → kY, listUpdate_at → k8, callWith_builtin1 → mB, boot_tuple → rC, subscriptTail → rH, boot_int → se, entry_list_sort → yy, sortedHeap → A5, slot_list_sort → A6, args_list_sort → A9, Subscript_ → Ba
open PyProof.Rows.F renaming plain_set_update_loop → eJ, entry_set_update_loop → jX
open PySem renaming wpAny_bind → af, wpAny_pure → aj, mem_of_lookup → bw, starEach → bC, SetTable → bF, mainGlobals → bV, cellsFrom → bZ, wpAny_holding → b7, compareOp → ck, wpAny_truthy_bool → cB, wpAny_newObj_type → cC, wpAny_setField_rec → cK, sysModules → cL, wpAny_askSetting → cN, wpAny_setState_of → cT, binaryOp → cY, NameKind → cZ, bootBuiltins → dc, wpAny_mono → dm, assignEach → dD, builtinLookup_eq_fast → dE, codeAny_builtin → dQ, wpAny_call_entry → eI, tupleKind_room_in1 → eR, wpAny_passesOwn → eU, scanBound → eW, Fin → fc, strIterType → fE, sliceBounds → fF, FuncData → fI, pickOrder → fS, plainId_quiet → gk, typeLookup_type → gr, wpAny_Call_Name_kw → gD, call_meets → gE, wpAny_pyIter_list → gW, isSubtype_type → gY, foldedSetIterable → gZ, call_meetsIn → hE, wpAny_standAt → iV, attributeBase → iW, codeAny_mono → jG, codeAny → jH, noteFrame → jW, setsByText → j8, builtinsNs → j9, fits_of_scanBound → kU, behindInMarks → k9, tupleKind → mw, swapsWith → mx, relayAll → my, wpAny_typeOf → nC, wpAny_rule → nE, wpAny_specialOf → nH, wpAny_ite_split → nI, letOwnedTupleGo → nJ, wpAny_pyIter_revIter → pG, sizeLine_eq → pH, setField → pI, firstArgMember → pJ, wpAny_newList → rG, valueAt → uS, slot_list_getitem → uT, wpAny_isInstance → wU, setFlight → wV, noFill_tuple_add → wW, wpAny_field → w6, wpAny_execs_nil → yx, Within → yz, getItem → zH, callerA → zI, ItemsOf → zM, wpAny_seqItems → A3, typeLookup → A4, sliceRange → A7, raiseNew → A8, GenState → Bi, evalArgs_none → Bk, wpAny_getItem_list_slice → Ey, seq_tuple_add → Ez, evalPart_none → EA
open PySem.Around renaming under_plainId → cX
open PySem.Builtin.Dict renaming updateFrom → rF
open PySem.Builtin.List renaming listExtendWith → da, listLengthHint → d9, listTooLong → eS, listSameRef → iC, listTouch → jg, listItems → rL
open PySem.Builtin.Str renaming occurrences → fm, strSliceIndices → pz
open PySem.Calls renaming spliced_cons → eA, callWith_builtin → eB, call_function_entry → ju, evalArgs_plain → mz, spliced_nil → pM, Name_function_global → u0
open PySem.EntryCells renaming newEntry → w4
open PySem.F renaming slot_dict_get → dq, plainAttrs_dict → dP, entry_dict_get → fZ, slot_list_getattribute → gc, args_tuple_add_2 → js, entry_tuple_add → jI, slot_tuple_add → kc, slot_dict_setdefault → rB, slot_dict_items → u5, slot_dict_clear → u6, plainAttrs_list → u7, args_dict_get_3 → u9, args_dict_get_2 → va, type_dict_get → xi
open PySem.Heap renaming get?_push_of_some → ae, lt_size → ax, get?_push_size → aC, get?_update_other → bx, size_push → cQ, get?_update_self → cU, SameBut → dH, MadeExcOf → vg, get?_none_of_le → Bw
open PySem.Heap.DictOf renaming new → zO
open PySem.Heap.IsRevIter renaming typeIs → rE
open PySem.Heap.IsSliceOf renaming new → tK
open PySem.Heap.SameBut renaming update → gG
open PySem.IsL renaming update → Bc
open PySem.NameKind renaming free → bQ, cell → cq
open PySem.Obj renaming mapSeq → bW, mapFields → fU, data_mapFields → pK, isFreed_of_fields → Bp
open PySem.Paired renaming length → nG
open PySem.PyData renaming keyHash → aA
open PySem.SeqAt.EqAt renaming str_int → w9, int_str → xc, int_int → xf
open PySem.SetTable renaming below → b8, grown → dM, insertAt → nK, has → u4, orStandIn → zJ, relaid → EB
open PySem.SetTable.below renaming go → uX
open PySem.SetTable.probe renaming go → kW
open PySem.Str renaming ofString → cF, length → wX
open PySem.Value renaming ref → bI, none → bN, type → dI, str → iX, isStrOf_shape → nF, bool → uW, int → w8
open PySem.W renaming Frag → aa, fnOf → aL, keepIn → b9, kia_one → cy, kas_sort → dj, codeIn → dO, nsIn → eV, kitOne → fY, mg_of → gH, kas_descPart → gX, kmHook → iH, findIn → iI, methodObj → oq, instObj → rA, lookIn → sd, kas_rev → uV, cellsFrom_some → wY, callWith_K → Bb, kitx_list → Bm, kitx_dict → Bn, plainGet → EC, openEnds → ED
open PySem.W.Hook renaming val → xg, obs → xh
open PySem.W.KasT renaming ret → qc
open PySem.pickOrder renaming go → uU
open Sum renaming inr → dg, inl → rq
open Sum.inr renaming inj → p6
set_option Elab.async false
set_option linter.all false
set_option maxRecDepth 100000
set_option maxHeartbeats 0
namespace K53
open PySem PySem.Spec PySem.Calls PyProof.Rows
noncomputable def top(i:Nat):Stmt:=PySem.Challenge.pw_copykin_k53_fewest_changes.main.body.getD i (.Pass ⟨0,0,0,0⟩)
noncomputable def vw:Program:=
 {PySem.Challenge.pw_copykin_k53_fewest_changes with main:={PySem.Challenge.pw_copykin_k53_fewest_changes.main with body:=[top 1,top 2,top 4,top 5,top 6,top 7,top 8,top 10,top 11,top 12,top 14,top 15,top 16,top 17,top 20,top 21,top 22,top 23,top 24,top 25,top 28,top 29,top 30,top 31,top 32,top 33,top 34,top 35,top 36,top 37,top 38,top 39,top 40,top 41,top 42]}}
noncomputable def loo:List Str:=[cF "frame_list",cF "fewest"]
noncomputable def xt(s:Shared):Bool:=PySem.W.xlAt vw [] s&&PySem.W.recOk [] s
noncomputable def lhsA(w:World):=(ED treeTable PySem.Challenge.pw_copykin_k53_fewest_changes w 3036).map
 (PySem.W.openSeen vw loo (importedModules PySem.Challenge.pw_copykin_k53_fewest_changes.main.body) xt true)
noncomputable def rhsA(_:World):=some (PySem.W.openGood vw loo)
noncomputable def seen{α:Type}(_:α):Bool:=true
theorem laidA:(seen lhsA&&seen rhsA)=true:=by k_qdec
theorem leftA(w:World):lhsA w=rhsA w:=by
 have _:=laidA;rw[PySem.W.Fast.te17263406208687051844,PySem.W.Fast.te4130279728386315336]
 kernel_rfl
theorem both{α β γ:Type}{o:Option α}{f:α->β}{g:α->γ}{a:β}{b:γ}(h:o.map f=some a)(k:o.map g=some b):(o.map fun s=>(f s,g s))=some (a,b):=by
 cases o with
 |none=>cases h
 |some x=>
  injection h with h;injection k with k;rw[<-h,<-k];rfl
end K53
namespace L2
open PySem PySem.Spec PyProof.Rows
noncomputable abbrev Key:=Sum Int Str
noncomputable def qG:Key->Value->Bool
 |.inl k,v=>Value.isInt k v
 |.inr x,v=>Value.isStrOf x v
noncomputable def keyH(w:World):Key->Int
 |.inl k=>hashInt k
 |.inr x=>hashStr w x
theorem dz:∀{k:Key}{v:Value},qG k v=true->(∃i t,k=rq i/\v=w8 i t)\/(∃x t,k=dg x/\v=iX x t)
 |.inl i,v,h=>by
  obtain⟨t,e⟩:=Value.isInt_shape (k:=i) (v:=v) h;exact .inl ⟨i,t,rfl,e⟩
 |.inr x,v,h=>by
  obtain⟨t,e⟩:=nF (x:=x) (v:=v) h;exact .inr ⟨x,t,rfl,e⟩
theorem AE(i:Int)(t:Tok):qG (.inl i) (.int i t)=true:=by simp[qG,Value.isInt]
theorem AD(x:Str)(t:Tok):qG (.inr x) (.str x t)=true:=by simp[qG,Value.isStrOf]
theorem key_ll(a b:Int):decide ((rq a:Key)=rq b)=(a==b):=by
 by_cases e:a=b
 ·subst e;simp
 ·have h:¬(rq a:Key)=rq b:=fun q=>e (rq.inj q)
  rw[decide_eq_false h];exact(beq_eq_false_iff_ne.mpr e).symm
theorem key_rr(a b:Str):decide ((dg a:Key)=dg b)=decide (a=b):=by
 by_cases e:a=b
 ·subst e;simp
 ·have h:¬(dg a:Key)=dg b:=fun q=>e (p6 q)
  rw[decide_eq_false h,decide_eq_false e]
theorem key_lr(a:Int)(b:Str):decide ((rq a:Key)=dg b)=false:=decide_eq_false (fun q=>nomatch q)
theorem key_rl(a:Str)(b:Int):decide ((dg a:Key)=rq b)=false:=decide_eq_false (fun q=>nomatch q)
noncomputable def bq(prog:Program)(w:World):PySem.KeyKind prog w Key where
 is:=qG
 hash:=keyH w
 inj:=fun v a b ha hb=>by
  rcases dz ha with⟨i,t,rfl,rfl⟩ |⟨x,t,rfl,rfl⟩
  ·rcases dz hb with⟨j,u,rfl,e⟩ |⟨y,u,rfl,e⟩
   ·injection e with e1 _;rw[e1]
   ·exact nomatch e
  ·rcases dz hb with⟨j,u,rfl,e⟩ |⟨y,u,rfl,e⟩
   ·exact nomatch e
   ·injection e with e1 _;rw[e1]
 byValue:=fun k v h=>by
  rcases dz h with⟨i,t,rfl,rfl⟩ |⟨x,t,rfl,rfl⟩<;>rfl
 pyHash:=fun hv h=>by
  rcases dz hv with⟨i,t,rfl,rfl⟩ |⟨x,t,rfl,rfl⟩
  ·exact wpAny_pyHash_int h
  ·exact wpAny_pyHash_str h
 eqBool:=fun hu hv h=>by
  rcases dz hu with⟨i,t,rfl,rfl⟩ |⟨x,t,rfl,rfl⟩
  ·rcases dz hv with⟨j,u,rfl,rfl⟩ |⟨y,u,rfl,rfl⟩
   ·rw[key_ll]at h;exact wpAny_eqBool_int h
   ·rw[key_lr]at h;exact xc i t y u _ _ _ _ h
  ·rcases dz hv with⟨j,u,rfl,rfl⟩ |⟨y,u,rfl,rfl⟩
   ·rw[key_rl]at h;exact w9 x t j u _ _ _ _ h
   ·rw[key_rr]at h;exact wpAny_eqBool_str h
 «strs»:=fun k x t v h=>by
  rcases dz h with⟨i,u,rfl,e⟩ |⟨y,u,rfl,e⟩
  ·exact nomatch e
  ·injection e with e1 _
   subst e1;cases v<;>rfl
theorem qA(prog:Program)(w:World)(k:Key)(v:Value):(bq prog w).is k v=qG k v:=rfl
theorem vV(prog:Program)(w:World)(i:Int)(t:Tok):(bq prog w).is (.inl i) (.int i t)=true:=AE i t
theorem oJ(prog:Program)(w:World)(x:Str)(t:Tok):(bq prog w).is (.inr x) (.str x t)=true:=AD x t
inductive V where
 |non|bl (b:Bool) |int (i:Int) |str (x:Str) |byt (b:Array UInt8) |flt (b:UInt64) |ref (a:Addr) |ty (n:String)
 deriving DecidableEq
noncomputable def RelV:V->Value->Prop
 |.non,u=>u=bN
 |.bl b,u=>u=uW b
 |.int i,u=>∃t,u=w8 i t
 |.str x,u=>∃t,u=iX x t
 |.byt b,u=>∃t,u=Value.bytes b t
 |.flt b,u=>∃t,u=Value.float b t
 |.ref a,u=>u=bI a
 |.ty n,u=>u=dI n
noncomputable abbrev bJ:List V->List Value->Prop:=Paired RelV
theorem bJ.length{xs:List V}{us:List Value}(r:bJ xs us):xs.length=us.length:=nG r
theorem bJ.get:∀{xs:List V}{us:List Value}{i:Nat}{x:V},bJ xs us->xs[i]? =some x->∃u,us[i]? =some u/\RelV x u
 |_,_,_,_,.nil,e=>by simp at e
 |_,_,0,_,.cons r _,e=>by simp at e;subst e;exact⟨_,rfl,r⟩
 |_,_,i+1,x,.cons _ t,e=>by
  obtain⟨u,h1,h2⟩:=bJ.get (i:=i) (x:=x) t (by simpa using e);exact⟨u,by simpa using h1,h2⟩
theorem bJ.set{x:V}{u:Value}(r:RelV x u):∀{xs:List V}{us:List Value}(i:Nat),bJ xs us->bJ (xs.set i x) (us.set i u)
 |_,_,_,.nil=>.nil
 |_,_,0,.cons _ t=>.cons r t
 |_,_,i+1,.cons q t=>.cons q (bJ.set r i t)
theorem bJ.append:∀{xs ys:List V}{us ws:List Value},bJ xs us->bJ ys ws->bJ (xs++ys) (us++ws)
 |_,_,_,_,.nil,s=>s
 |_,_,_,_,.cons r t,s=>.cons r (bJ.append t s)
theorem bJ.take:∀{xs:List V}{us:List Value}(n:Nat),bJ xs us->bJ (xs.take n) (us.take n)
 |_,_,0,_=>.nil
 |_,_,_+1,.nil=>.nil
 |_,_,n+1,.cons r t=>.cons r (bJ.take n t)
theorem bJ.drop:∀{xs:List V}{us:List Value}(n:Nat),bJ xs us->bJ (xs.drop n) (us.drop n)
 |_,_,0,r=>r
 |_,_,_+1,.nil=>.nil
 |_,_,n+1,.cons _ t=>bJ.drop n t
noncomputable def k7:Option V->Option Value->Prop
 |some v,some u=>RelV v u
 |none,none=>True
 |_,_=>False
noncomputable def KV{κ:Type}:List (κ×V)->List (κ×Value)->Prop:=Paired fun(p:κ×V)(q:κ×Value)=>p.1=q.1/\RelV p.2 q.2
noncomputable def kV:Key->V
 |.inl i=>.int i
 |.inr x=>.str x
inductive HO where
 |lst (xs:List V)
 |tup (xs:List V)
 |dK (kvs:List (Key×V)) |dT (kvs:List (List Key×V))
 |set (S:Int->Bool) (n:Nat)
 |ins (C dx:Addr) (fs:List (Str×V))
 |own (x:Addr)
 |xd (fs:List (Str×V))
 |met (f x:Addr)
 |rng (lo hi:Int)
 |frz (o:Obj) (u:HO)
 |tbl (ps:Array Value)
 |ext (φ:Heap->Prop)
noncomputable abbrev Hp:=Addr->Option HO
noncomputable def upd(H:Hp)(a:Addr)(o:HO):Hp:=fun b=>if b=a then some o else H b
theorem av{H:Hp}{a:Addr}{o:HO}:upd H a o a=some o:=by unfold upd;rw[if_pos rfl]
theorem aI{H:Hp}{a b:Addr}{o:HO}(h:b≠a):upd H a o b=H b:=by unfold upd;rw[if_neg h]
theorem d5{H:Hp}{a b:Addr}{o u:HO}(h:H a=some o)(h':H b=some u)(d:o≠u):a≠b:=by
 intro e;subst e;rw[h]at h';exact d (bh h')
theorem bg{H:Hp}{a b:Addr}{o:HO}(h:H a=some o)(h':H b=none):a≠b:=by
 intro e;subst e;rw[h]at h';cases h'
section
variable(P:Program)(w:World)
noncomputable def cJ(H:Hp)(h:Heap)(a:Addr):HO->Prop
 |.lst xs=>xs.length<=sizeLine/\∃(its:List Value)(n:Nat),bJ xs its/\h.get? a=some {cls:=.type "list",data:=.seq its.toArray n}
 |.tup xs=>xs.length<=sizeLine/\∃its:List Value,bJ xs its/\IsTup h a its.toArray
 |.dK kvs=>kvs.length<=sizeLine/\(a==cL)=false/\∃vs,KV kvs vs/\h.DictOf (bq P w) a vs
 |.dT kvs=>kvs.length<=sizeLine/\(a==cL)=false/\∃xs:List (List Key×Addr×Value),
   Paired (fun(p:List Key×V)(q:List Key×Addr×Value)=>p.1=q.1/\H q.2.1=some (.tup (p.1.map kV))/\RelV p.2 q.2.2) kvs xs/\
   ∃o es ep,h.get? a=some o/\o.ExactDict/\o.data=.dict es ep/\es.toList=xs.map (entryOfKey (mw (bq P w)))/\(xs.map (·.1)).Nodup
 |.set S n=>h.SetOf (intKind P w) a S n
 |.ins C dx fs=>H dx=some (.own a)/\fs.length<=1000/\dx≠a/\h.get? a=some (rA C dx)/\
   ∃mA,h.Ns1 dx mA/\(∀f,k7 (fs.lookup f) (mA f))/\yz mA (fs.map (·.1))
 |.own _=>∃o,h.get? a=some o
 |.xd fs=>∃mA,h.Ns1 a mA/\∀f,k7 (fs.lookup f) (mA f)
 |.rng lo hi=>∃t u v,h.get? a=some {cls:=.type "range",data:=.fields #[.int lo t,.int hi u,.int 1 v]}
 |.frz o u=>h.get? a=some o/\cJ H h a u
 |.tbl ps=>h.get? a=some {cls:=.none,data:=.fields ps}
 |.met f x=>h.get? a=some (oq (.ref f) (.ref x))
 |.ext φ=>φ h/\(∃o,h.get? a=some o)/\∀h1 h2:Heap,φ h1->(∀o,h1.get? a=some o->h2.get? a=some o)->φ h2
noncomputable def HOk(H:Hp)(h:Heap):Prop:=∀a o,H a=some o->cJ P w H h a o
end
section
variable {P:Program}{w:World}{H H':Hp}{h h':Heap}{a:Addr}{o:HO}
theorem cJ.lt(x:cJ P w H h a o):a<h.objs.size:=by
 cases o with
 |lst xs=>obtain⟨_,_,_,_,e⟩:=x;exact ax e
 |tup xs=>obtain⟨_,_,_,p⟩:=x;exact p.lt
 |dK kvs=>obtain⟨_,_,_,_,o,_,_,e,_⟩:=x;exact ax e
 |dT kvs=>obtain⟨_,_,_,_,o,_,_,e,_⟩:=x;exact ax e
 |set S n=>obtain⟨o,_,_,_,e,_⟩:=x;exact ax e
 |ins C dx fs=>obtain⟨_,_,_,e,_⟩:=x;exact ax e
 |own y=>obtain⟨_,e⟩:=x;exact ax e
 |xd fs=>obtain⟨_,⟨_,_,_,e,_⟩,_⟩:=x;exact ax e
 |rng lo hi=>obtain⟨_,_,_,e⟩:=x;exact ax e
 |frz ob u=>obtain⟨e,_⟩:=x;exact ax e
 |tbl ps=>exact ax (show h.get? a=some _ from x)
 |met f y=>exact ax (show h.get? a=some _ from x)
 |ext φ=>obtain⟨_,⟨_,e⟩,_⟩:=x;exact ax e
theorem Paired.gM{α β:Type}{F G:α->β->Prop}:∀{l₁:List α}{l₂:List β},Paired F l₁ l₂->(∀a b,F a b->G a b)->Paired G l₁ l₂
 |_,_,.nil,_=>.nil
 |_,_,.cons r t,f=>.cons (f _ _ r) (Paired.gM t f)
theorem cJ.nP(x:cJ P w H h a o)(k:∀b u,(b=a\/H b=some (.own a))->h.get? b=some u->h'.get? b=some u)
  (ho:∀b,H b=some (.own a)->H' b=some (.own a))(ht:∀b xs,H b=some (.tup xs)->H' b=some (.tup xs)):cJ P w H' h' a o:=by
 induction o with
 |lst xs=>obtain⟨z,its,n,r,e⟩:=x;exact⟨z,its,n,r,k _ _ (.inl rfl) e⟩
 |tup xs=>obtain⟨z,its,r,ob,e,c⟩:=x;exact⟨z,its,r,ob,k _ _ (.inl rfl) e,c⟩
 |dK kvs=>obtain⟨z,y,vs,r,ob,es,ep,e,c⟩:=x;exact⟨z,y,vs,r,ob,es,ep,k _ _ (.inl rfl) e,c⟩
 |dT kvs=>
  obtain⟨z,y,xs,r,ob,es,ep,e,c⟩:=x;exact⟨z,y,xs,Paired.gM r fun p q z=>⟨z.1,ht _ _ z.2.1,z.2.2⟩,ob,es,ep,k _ _ (.inl rfl) e,c⟩
 |set S n=>obtain⟨ob,es,ep,t,e,c⟩:=x;exact⟨ob,es,ep,t,k _ _ (.inl rfl) e,c⟩
 |ins C dx fs=>
  obtain⟨d,z,ne,e,mA,⟨od,es,ep,e2,c⟩,r⟩:=x;exact⟨ho _ d,z,ne,k _ _ (.inl rfl) e,mA,⟨od,es,ep,k _ _ (.inr d) e2,c⟩,r⟩
 |own y=>obtain⟨ob,e⟩:=x;exact⟨ob,k _ _ (.inl rfl) e⟩
 |xd fs=>obtain⟨mA,⟨od,es,ep,e,c⟩,r⟩:=x;exact⟨mA,⟨od,es,ep,k _ _ (.inl rfl) e,c⟩,r⟩
 |rng lo hi=>obtain⟨t,u,v,e⟩:=x;exact⟨t,u,v,k _ _ (.inl rfl) e⟩
 |frz ob u ih=>obtain⟨e,q⟩:=x;exact⟨k _ _ (.inl rfl) e,ih q⟩
 |tbl ps=>
  have e:h.get? a=some {cls:=.none,data:=.fields ps}:=x;show h'.get? a=some {cls:=.none,data:=.fields ps};exact k a _ (.inl rfl) e
 |met f y=>
  have e:h.get? a=some (oq (.ref f) (.ref y)):=x;show h'.get? a=some (oq (.ref f) (.ref y));exact k a _ (.inl rfl) e
 |ext φ=>obtain⟨p,⟨o,e⟩,st⟩:=x;exact⟨st _ _ p fun o q=>k _ _ (.inl rfl) q,⟨o,k _ _ (.inl rfl) e⟩,st⟩
theorem HOk.lt(x:HOk P w H h)(e:H a=some o):a<h.objs.size:=(x a o e).lt
theorem HOk.fresh(x:HOk P w H h)(e:h.objs.size<=a):H a=none:=by
 cases q:H a with
 |none=>rfl
 |some u=>exact absurd (bf (x.lt q) e) (dt _)
theorem HOk.kept(x:HOk P w H h)(k:∀b u,h.get? b=some u->h'.get? b=some u):HOk P w H h':=fun a o e=>
 (x a o e).nP (fun b u _ q=>k b u q) (fun _ q=>q) fun _ _ q=>q
theorem HOk.laid(x:HOk P w H h)(k:∀b u,h.get? b=some u->h'.get? b=some u)(hp:h.objs.size<=a)(new:cJ P w (upd H a o) h' a o):HOk P w (upd H a o) h':=fun b u e=>by
 have hn:=x.fresh hp;by_cases hb:b=a
 ·subst hb;rw[av]at e;cases e;exact new
 ·rw[aI hb]at e
  exact(x b u e).nP (fun c v _ q=>k c v q) (fun c q=>by rw[aI (bg q hn)];exact q) fun c xs q=>by rw[aI (bg q hn)];exact q
end
noncomputable def Rd(H:Hp)(a:Addr)(u:HO):Prop:=H a=some u\/∃o,H a=some (.frz o u)
theorem Rd.ok{P:Program}{w:World}{H:Hp}{h:Heap}{a:Addr}{u:HO}(r:Rd H a u)(x:HOk P w H h):cJ P w H h a u:=by
 rcases r with r|⟨o,r⟩
 ·exact x a u r
 ·obtain⟨_,q⟩:=x a _ r
  exact q
noncomputable def Mut:Option HO->Prop
 |some (.lst _)=>True
 |some (.dK _)=>True
 |some (.dT _)=>True
 |some (.set _ _)=>True
 |some (.ins _ _ _)=>True
 |some (.ext _)=>True
 |_=>False
section
variable {P:Program}{w:World}{H:Hp}{h h':Heap}{x e:Addr}{o':HO}
theorem HOk.write(ok:HOk P w H h)(mu:Mut (H x))(he:e=x\/H e=some (.own x))(k:∀b u,b≠e->h.get? b=some u->h'.get? b=some u)(heo:∃u,h'.get? e=some u)
  (new:cJ P w (upd H x o') h' x o'):HOk P w (upd H x o') h':=fun b u q=>by
 have nown:∀c y,H c=some (.own y)->c≠x:=fun c y r z=>by subst z;rw[r]at mu;exact mu
 have ntup:∀c xs,H c=some (.tup xs)->c≠x:=fun c xs r z=>by subst z;rw[r]at mu;exact mu
 by_cases hb:b=x
 ·subst hb;rw[av]at q;cases q;exact new
 ·rw[aI hb]at q
  by_cases hbe:b=e
  ·have q':H b=some (.own x):=by
    rcases he with z|z
    ·exact absurd (hbe.trans z) hb
    ·rw[hbe];exact z
   rw[q]at q';cases q';obtain⟨v,hv⟩:=heo;exact⟨v,by rw[hbe];exact hv⟩
  ·refine(ok b u q).nP (fun c v hc r=>k c v ?_ r) (fun c r=>by rw[aI (nown c b r)];exact r) fun c xs r=>by rw[aI (ntup c xs r)];exact r
   rcases hc with rfl|hc
   ·exact hbe
   ·rintro rfl
    rcases he with z|z
    ·exact nown c b hc z
    ·rw[hc]at z;cases z;exact hb rfl
end
structure Un(fs ex:List Addr)(H H':Hp)(h h':Heap):Prop where
 keep:∀b o,h.get? b=some o->H b=none->b∉fs->b∉ex->h'.get? b=some o
 slot:∀b o,h.get? b=some o->H b=none->b∈fs->b∉ex->∃sl,h'.get? b=some {o with slots:=sl}
 free:∀b o,h.get? b=some o->H b=none->b∉ex->H' b=none
 there:∀b o,h.get? b=some o->b∉ex->∃o',h'.get? b=some o'
 tups:∀b xs,H b=some (.tup xs)->H' b=some (.tup xs)
 frzs:∀b o u,H b=some (.frz o u)->H' b=some (.frz o u)
 tbls:∀b ps,H b=some (.tbl ps)->∃more,H' b=some (.tbl (ps++more))
section
variable {fs fs' ex ex':List Addr}{H H1 H2:Hp}{h h1 h2 h':Heap}{a x e:Addr}{o:HO}
theorem Un.any(u:Un fs ex H H1 h h1){b:Addr}{ob:Obj}(q:h.get? b=some ob)(n:H b=none)(hx:b∉ex):∃sl,h1.get? b=some {ob with slots:=sl}:=by
 by_cases hb:b∈fs
 ·exact u.slot b ob q n hb hx
 ·exact⟨ob.slots,u.keep b ob q n hb hx⟩
theorem Un.kept(k:∀b u,h.get? b=some u->h'.get? b=some u):Un fs ex H H h h':=
 ⟨fun b ob q _ _ _=>k b ob q,fun b ob q _ _ _=>⟨ob.slots,k b ob q⟩,fun _ _ _ n _=>n,fun b ob q _=>⟨ob,k b ob q⟩,fun _ _ q=>q,fun _ _ _ q=>q,fun _ ps q=>⟨#[],by rw[q];simp⟩⟩
theorem Un.refl:Un fs ex H H h h:=Un.kept fun _ _ q=>q
theorem Un.laid(k:∀b u,h.get? b=some u->h'.get? b=some u)(hp:h.objs.size<=a)(hn:H a=none):Un fs ex H (upd H a o) h h' where
 keep:=fun b u q _ _ _=>k b u q
 slot:=fun b u q _ _ _=>⟨u.slots,k b u q⟩
 free:=fun b u q n _=>by rw[aI (aE (bf (ax q) hp))];exact n
 there:=fun b u q _=>⟨u,k b u q⟩
 tups:=fun b xs q=>by rw[aI (bg q hn)];exact q
 frzs:=fun b u xs q=>by rw[aI (bg q hn)];exact q
 tbls:=fun b ps q=>⟨#[],by rw[aI (bg q hn),q];simp⟩
theorem Un.write(mu:Mut (H x))(he:e=x\/H e=some (.own x))(k:∀b u,b≠e->h.get? b=some u->h'.get? b=some u)(heo:∃u,h'.get? e=some u):Un fs ex H (upd H x o) h h':=by
 have hx:∀b,H b=none->b≠x:=fun b n z=>by subst z;rw[n]at mu;exact mu
 have hb:∀b,H b=none->b≠e:=fun b n z=>by
  subst z;rcases he with r|r
  ·exact hx b n r
  ·rw[n]at r;cases r
 have hm:∀b u,H b=some u->¬Mut (some u)->b≠x:=fun b u q nm z=>by subst z;rw[q]at mu;exact nm mu
 refine⟨fun b u q n _ _=>k b u (hb b n) q,fun b u q n _ _=>⟨u.slots,k b u (hb b n) q⟩,fun b u q n _=>by rw[aI (hx b n)];exact n,fun b u q _=>?_,
  fun b xs q=>by rw[aI (hm b _ q fun z=>z)];exact q,fun b u xs q=>by rw[aI (hm b _ q fun z=>z)];exact q,fun b ps q=>⟨#[],by rw[aI (hm b _ q fun z=>z),q];simp⟩⟩
 by_cases hbe:b=e
 ·subst hbe;exact heo
 ·exact⟨u,k b u hbe q⟩
end
noncomputable def trk(h:Heap)(H:Hp):List Addr:=(aQ h.objs.size).filter fun a=>(H a).isSome
noncomputable def wa(h:Heap)(H:Hp):Heap:=PySem.W.hideAll h (trk h H)
theorem AH(h:Heap)(H:Hp):(wa h H).objs.size=h.objs.size:=PySem.W.hideAll_size _ _
theorem qI{h:Heap}{H:Hp}{b:Addr}{o:Obj}(e:h.get? b=some o)(n:H b=none):(wa h H).get? b=some o:=
 PySem.W.hideAll_get _ e fun hm=>by
  have q:(H b).isSome=true:=(eK.mp hm).2;rw[n]at q;simp at q
theorem of_hidT{h:Heap}{H:Hp}{b:Addr}{o:Obj}(e:(wa h H).get? b=some o):h.get? b=some o/\H b=none:=by
 have e':h.get? b=some o:=PySem.W.of_hideAll (trk h H) e;refine⟨e',?_⟩;cases q:H b with
 |none=>rfl
 |some x=>
  have hm:b∈trk h H:=eK.mpr ⟨dX.mpr (ax e'),by simp[q]⟩;have z:(wa h H).get? b=none:=PySem.W.hideAll_none (trk h H) hm;rw[z]at e;cases e
structure Mod(K:aa)(mg:Str->Option Value)(base:Heap):Prop where
 kin:K.In base
 glob:base.Ns bV mg
 blt:∃mb,base.Ns j9 mb/\∀x:Str,x≠"__name__"->mb x=dc x
 nolimit:base.NoLimit
structure Cx where
 prog:Program
 w:World
 K:aa
 mg:Str->Option Value
 base:Heap
 A:Around
 N:List Str
 s₀:Shared
 H₀:Hp
 env:Env
 outer:List Env
 stack:List Env
 ex:List Addr
 fn:Str->Bool
 calm:Bool
 pn:List (Addr×Obj)
 xe:Value->Shared->Prop
noncomputable def frs(l:List Env):List Addr:=l.filterMap (·.frame)
noncomputable abbrev Cx.fs(X:Cx):List Addr:=frs X.outer
noncomputable def Vis(sc:Scope)(x:Str):Prop:=sc.names.lookup x=some .local\/sc.names.lookup x=some .cell\/sc.names.lookup x=some .free
noncomputable def Loc(sc:Scope)(x:Str):Prop:=sc.names.lookup x=some .local\/sc.names.lookup x=some .cell
noncomputable def Look(env:Env)(h:Heap)(m:Str->Option Value)(x:Str)(u:Value):Prop:=
 (env.kindOf x=some .local/\m x=some u)\/((env.kindOf x=some .cell\/env.kindOf x=some .free)/\∃c,env.cells.lookup x=some c/\h.IsCell c (some u))
structure Cx.Ok(X:Cx):Prop where
 mod:Mod X.K X.mg X.base
 kind:X.env.scope.kind=.function
 glob:X.env.globals=bV
 blt:X.env.builtins=j9
 above:X.s₀.heap.objs.size<=X.env.locals
 inj:∀x y c,X.env.cells.lookup x=some c->X.env.cells.lookup y=some c->x=y
 has:∀x,(X.env.kindOf x=some .cell\/X.env.kindOf x=some .free)->∃c,X.env.cells.lookup x=some c
 cab:∀x c,X.fn x=true->X.env.cells.lookup x=some c->X.s₀.heap.objs.size<=c
 hd:X.calm=true->X.A.handled=none
 frames:X.A.frames=some X.stack
 stk:X.stack=X.outer\/(X.stack=X.env::X.outer/\X.env.frame=some X.env.locals)
 exf:∀b∈X.ex,b≠X.env.locals/\∀x c,X.env.cells.lookup x=some c->c≠b
 bs:∀b o,X.base.get? b=some o->X.s₀.heap.get? b=some o/\X.H₀ b=none
 bsz:X.base.objs.size<=X.s₀.heap.objs.size
 noex:∀b o,X.base.get? b=some o->b∉X.ex
 exfs:∀b∈X.ex,b∉X.fs
 uA:X.s₀.heap.FunFrames X.base X.outer
 frf:∀b∈X.fs,X.H₀ b=none
structure Inv(X:Cx)(pins:List (Addr×Obj))(σ:List (Option V))(H:Hp)(s:Shared):Prop where
 ok:X.Ok
 os:s.os=X.s₀.os
 bare:kY s.gens
 base:Un X.fs X.ex X.H₀ H X.s₀.heap s.heap
 loc:∃m,s.heap.Ns X.env.locals m/\∀(i:Nat)(x:Str)(v:V),X.N[i]? =some x->σ[i]? =some (some v)->Vis X.env.scope x->∃u,RelV v u/\Look X.env s.heap m x u
 cell:∀x c,X.env.cells.lookup x=some c->∃v,s.heap.IsCell c v
 free:H X.env.locals=none
 freeC:∀x c,X.env.cells.lookup x=some c->H c=none
 pin:∀p∈X.pn++pins,s.heap.get? p.1=some p.2/\H p.1=none/\p.1≠X.env.locals/\p.1∉X.fs/\∀v,p.2.data≠.cell v
 hok:HOk X.prog X.w H s.heap
 len:σ.length=X.N.length
section
variable {X:Cx}{pins:List (Addr×Obj)}{σ:List (Option V)}{H H':Hp}{s:Shared}{h':Heap}
theorem Cx.Ok.nofr(ok:X.Ok){b:Addr}{o:Obj}(e:X.base.get? b=some o):b∉X.fs:=fun hb=>by
 have :=(ok.uA.mem hb).1
 rw[e]at this;cases this
theorem Inv.bs(I:Inv X pins σ H s):∀b o,X.base.get? b=some o->s.heap.get? b=some o/\H b=none:=fun b o e=>
 ⟨I.base.keep b o (I.ok.bs b o e).1 (I.ok.bs b o e).2 (I.ok.nofr e) (I.ok.noex b o e),I.base.free b o (I.ok.bs b o e).1 (I.ok.bs b o e).2 (I.ok.noex b o e)⟩
theorem Inv.bk(I:Inv X pins σ H s):∀b o,X.base.get? b=some o->s.heap.get? b=some o:=fun b o e=>(I.bs b o e).1
theorem Inv.mod(I:Inv X pins σ H s):Mod X.K X.mg X.base:=I.ok.mod
theorem Inv.kIn(I:Inv X pins σ H s):X.K.In s.heap:=I.ok.mod.kin.keeps I.bk
theorem Inv.lt(I:Inv X pins σ H s):X.env.locals<s.heap.objs.size:=let⟨_,hn,_⟩:=I.loc;hn.lt
theorem Inv.sz(I:Inv X pins σ H s):X.s₀.heap.objs.size<=s.heap.objs.size:=aU I.ok.above (gF I.lt)
theorem Inv.nofs(I:Inv X pins σ H s){a:Addr}(h:s.heap.objs.size<=a):a∉X.fs:=fun hb=>by
 obtain⟨_,o,ho,_⟩:=I.ok.uA.mem hb;exact absurd (bf (ax ho) (aU I.sz h)) (dt _)
theorem Inv.cne(I:Inv X pins σ H s):∀x c,X.env.cells.lookup x=some c->c≠X.env.locals:=fun x c e z=>by
 obtain⟨v,o,ho,hd⟩:=I.cell x c e;obtain⟨m,⟨o',es,ep,ho',hd',_⟩,_⟩:=I.loc;rw[z,ho']at ho;cases ho;rw[hd']at hd;cases hd
theorem Inv.uA(I:Inv X pins σ H s):s.heap.FunFrames X.base X.outer:=by
 have all:∀(l:List Env),(∀b∈frs l,b∈X.fs)->X.s₀.heap.FunFrames X.base l->s.heap.FunFrames X.base l:=by
  intro l
  induction l with
  |nil=>intro _ _;trivial
  |cons env r ih=>
   intro hs hl;obtain⟨hk,⟨L,o,hf,hn,ho,hd⟩,hr⟩:=hl;have hL:L∈X.fs:=hs L (by unfold frs;rw[iL,hf];exact au);obtain⟨sl,e⟩:=I.base.slot L o ho (I.ok.frf L hL) hL fun z=>I.ok.exfs L z hL;exact⟨hk,⟨L,_,hf,hn,e,hd⟩,ih (fun b hb=>hs b (by unfold frs;rw[iL,hf];exact aF _ hb)) hr⟩
 exact all X.outer (fun _ hb=>hb) I.ok.uA
theorem Inv.stack(I:Inv X pins σ H s):s.heap.FunFrames X.base X.stack:=by
 rcases I.ok.stk with e|⟨e,hf⟩
 ·rw[e];exact I.uA
 ·rw[e]
  obtain⟨m,hn,_⟩:=I.loc;refine .cons (by rw[I.ok.kind];decide) hf hn ?_ I.uA;exact Bw (aU I.ok.bsz I.ok.above)
theorem Inv.xx(I:Inv X pins σ H s):∀b∈frs X.stack,b∈X.env.locals::X.fs:=fun b hb=>by
 rcases I.ok.stk with e|⟨e,hf⟩
 ·rw[e]at hb;exact aF _ hb
 ·rw[e]at hb
  unfold frs at hb;rw[iL,hf]at hb;exact hb
theorem Inv.tP(I:Inv X pins σ H s):∀b∈frs X.stack,H b=none:=fun b hb=>by
 rcases aK.mp (I.xx b hb)with e|hb
 ·rw[e];exact I.free
 ·obtain⟨_,o,ho,_⟩:=I.ok.uA.mem hb
  exact I.base.free b o ho (I.ok.frf b hb) fun z=>I.ok.exfs b z hb
theorem Inv.step{g':Array Bi}{t':Nat}{d':Drawn}{ch:List Addr}(I:Inv X pins σ H s)
  (hch:∀b∈ch,(b∈X.ex\/X.s₀.heap.objs.size<=b)/\b≠X.env.locals/\(∀x c,X.env.cells.lookup x=some c->c≠b)/\∀p∈X.pn++pins,p.1≠b)
  (keep:∀b o,b≠X.env.locals->b∉X.fs->b∉ch->s.heap.get? b=some o->H b=none->h'.get? b=some o)
  (slot:∀b o,b≠X.env.locals->b∈X.fs->b∉ch->s.heap.get? b=some o->H b=none->∃sl,h'.get? b=some {o with slots:=sl}) (free:∀b o,b∉ch->s.heap.get? b=some o->H b=none->H' b=none)
  (there:∀b o,b∉ch->s.heap.get? b=some o->∃o',h'.get? b=some o')
  (tups:∀b xs,H b=some (.tup xs)->H' b=some (.tup xs)) (frzs:∀b o u,H b=some (.frz o u)->H' b=some (.frz o u)) (tbls:∀b ps,H b=some (.tbl ps)->∃more,H' b=some (.tbl (ps++more)))
  (ns:∀m,s.heap.Ns X.env.locals m->h'.Ns X.env.locals m) (hok:HOk X.prog X.w H' h') (hg:kY g'):
  Inv X pins σ H' {s with heap:=h',gens:=g',drawn:=d',toks:=t'}:=by
 have neL:∀b o,X.s₀.heap.get? b=some o->b≠X.env.locals:=fun b o e=>aE (bf (ax e) I.ok.above);have neC:∀b o,X.s₀.heap.get? b=some o->b∉X.ex->b∉ch:=fun b o e hx hb=>by
  rcases(hch b hb).1 with z|z
  ·exact hx z
  ·exact absurd (bf (ax e) z) (dt _)
 have cellK:∀x c,X.env.cells.lookup x=some c->∀v,s.heap.IsCell c v->h'.IsCell c v:=fun x c e v ⟨o,ho,hd⟩=>by
  have nch:c∉ch:=fun z=>(hch c z).2.2.1 x c e rfl;by_cases hc:c∈X.fs
  ·obtain⟨sl,q⟩:=slot c o (I.cne x c e) hc nch ho (I.freeC x c e)
   exact⟨_,q,hd⟩
  ·exact⟨o,keep c o (I.cne x c e) hc nch ho (I.freeC x c e),hd⟩
 refine⟨I.ok,I.os,hg,⟨fun b o e n hb hx=>?_,fun b o e n hb hx=>?_,fun b o e n hx=>?_,fun b o e hx=>?_,fun b xs e=>tups b xs (I.base.tups b xs e),fun b o xs e=>frzs b o xs (I.base.frzs b o xs e),fun b ps e=>?_⟩,?_,fun x c e=>?_,?_,fun x c e=>?_,fun p hp=>?_,hok,I.len⟩
 ·exact keep b o (neL b o e) hb (neC b o e hx) (I.base.keep b o e n hb hx) (I.base.free b o e n hx)
 ·obtain⟨sl,e1⟩:=I.base.slot b o e n hb hx
  obtain⟨sl',e2⟩:=slot b _ (neL b o e) hb (neC b o e hx) e1 (I.base.free b o e n hx);exact⟨sl',e2⟩
 ·obtain⟨o',e1⟩:=I.base.there b o e hx
  exact free b o' (neC b o e hx) e1 (I.base.free b o e n hx)
 ·obtain⟨o',e1⟩:=I.base.there b o e hx
  exact there b o' (neC b o e hx) e1
 ·obtain⟨m1,e1⟩:=I.base.tbls b ps e
  obtain⟨m2,e2⟩:=tbls b _ e1;exact⟨m1++m2,by rw[e2,Array.append_assoc]⟩
 ·obtain⟨m,hn,hl⟩:=I.loc
  refine⟨m,ns m hn,fun i x v e1 e2 e3=>?_⟩;obtain⟨u,r,l⟩:=hl i x v e1 e2 e3;refine⟨u,r,?_⟩;rcases l with l|⟨k,c,e,z⟩
  ·exact .inl l
  ·exact .inr ⟨k,c,e,cellK x c e _ z⟩
 ·obtain⟨v,z⟩:=I.cell x c e
  exact⟨v,cellK x c e v z⟩
 ·obtain⟨m,⟨o,_,_,ho,_⟩,_⟩:=I.loc
  exact free _ o (fun z=>(hch _ z).2.1 rfl) ho I.free
 ·obtain⟨v,o,ho,hd⟩:=I.cell x c e
  exact free c o (fun z=>(hch c z).2.2.1 x c e rfl) ho (I.freeC x c e)
 ·obtain⟨e,n,ne,nf,d⟩:=I.pin p hp
  have nch:p.1∉ch:=fun z=>(hch p.1 z).2.2.2 p hp rfl;exact⟨keep p.1 p.2 ne nf nch e n,free p.1 p.2 nch e n,ne,nf,d⟩
theorem Inv.un{t':Nat}(I:Inv X pins σ H s)(u:Un X.fs [] H H' s.heap h')(hok:HOk X.prog X.w H' h'):Inv X pins σ H' {s with heap:=h',toks:=t'}:=by
 obtain⟨m,⟨o,es,ep,ho,r⟩,_⟩:=id I.loc;obtain⟨sl,hL⟩:=u.any ho I.free (by simp);exact I.step (g':=s.gens) (d':=s.drawn) (ch:=[]) (fun _ z=>nomatch z) (fun b o _ hb _ e n=>u.keep b o e n hb (by simp)) (fun b o _ hb _ e n=>u.slot b o e n hb (by simp)) (fun b o _ e n=>u.free b o e n (by simp)) (fun b o _ e=>u.there b o e (by simp)) u.tups u.frzs u.tbls (fun m' hm=>by
  obtain⟨o',es',ep',ho',r'⟩:=hm;rw[ho]at ho';cases ho';exact⟨_,es',ep',hL,r'⟩) hok I.bare
theorem Inv.call{g':Array Bi}{t':Nat}{d':Drawn}{ch:List Addr}(I:Inv X pins σ H s)(u:Un (frs X.stack) ch H H' s.heap h')(hok:HOk X.prog X.w H' h')(hg:kY g')
  (hch:∀b∈ch,(b∈X.ex\/X.s₀.heap.objs.size<=b)/\b≠X.env.locals/\(∀x c,X.env.cells.lookup x=some c->c≠b)/\∀p∈X.pn++pins,p.1≠b):
  Inv X pins σ H' {s with heap:=h',gens:=g',drawn:=d',toks:=t'}:=by
 obtain⟨m,⟨o,es,ep,ho,r⟩,_⟩:=id I.loc;obtain⟨sl,hL⟩:=u.any ho I.free fun z=>(hch _ z).2.1 rfl;exact I.step (ch:=ch) hch (fun b o hL hb hc e n=>u.keep b o e n (fun z=>(aK.mp (I.xx b z)).elim hL hb) hc) (fun b o _ _ hc e n=>u.any e n hc) (fun b o hc e n=>u.free b o e n hc) (fun b o hc e=>u.there b o e hc) u.tups u.frzs u.tbls (fun m' hm=>by
  obtain⟨o',es',ep',ho',r'⟩:=hm;rw[ho]at ho';cases ho';exact⟨_,es',ep',hL,r'⟩) hok hg
theorem Inv.turned{t':Nat}{it:Addr}(I:Inv X pins σ H s)(k:∀b o,b≠it->s.heap.get? b=some o->h'.get? b=some o)(hn:H it=none)(hL:it≠X.env.locals)
  (h1:it∈X.ex\/X.s₀.heap.objs.size<=it)(h2:∀x c,X.env.cells.lookup x=some c->c≠it)(h3:∀p∈X.pn++pins,p.1≠it):Inv X pins σ H {s with heap:=h',toks:=t'}:=by
 have nit:∀b u,H b=some u->b≠it:=fun b u e z=>by rw[z,hn]at e;cases e
 refine I.step (g':=s.gens) (d':=s.drawn) (ch:=[it]) (fun b hb=>?_) (fun b o _ _ hc e _=>k b o (fun z=>hc (by simp[z])) e) (fun b o _ _ hc e _=>⟨o.slots,k b o (fun z=>hc (by simp[z])) e⟩) (fun _ _ _ _ n=>n)
  (fun b o hc e=>⟨o,k b o (fun z=>hc (by simp[z])) e⟩) (fun _ _ e=>e) (fun _ _ _ e=>e) (fun b ps e=>⟨#[],by rw[e];simp⟩) (fun m hm=>?_) (fun b u e=>?_) I.bare
 ·have e:b=it:=by simpa using hb
  subst e;exact⟨h1,hL,h2,h3⟩
 ·obtain⟨o,es,ep,ho,r⟩:=hm
  exact⟨o,es,ep,k _ o (cz hL) ho,r⟩
 ·refine(I.hok b u e).nP (fun c v hc q=>k c v ?_ q) (fun _ q=>q) fun _ _ q=>q
  rcases hc with z|z
  ·rw[z];exact nit b u e
  ·exact nit c _ z
theorem Inv.tok(I:Inv X pins σ H s)(t:Nat):Inv X pins σ H {s with toks:=t}:=I.un (h':=s.heap) (t':=t) Un.refl I.hok
theorem Inv.kept{t':Nat}(I:Inv X pins σ H s)(k:∀b u,s.heap.get? b=some u->h'.get? b=some u):Inv X pins σ H {s with heap:=h',toks:=t'}:=I.un (Un.kept k) (I.hok.kept k)
theorem Inv.laid{a:Addr}{o:HO}{t':Nat}(I:Inv X pins σ H s)(k:∀b u,s.heap.get? b=some u->h'.get? b=some u)(hp:s.heap.objs.size<=a)(new:cJ X.prog X.w (upd H a o) h' a o):
  Inv X pins σ (upd H a o) {s with heap:=h',toks:=t'}:=I.un (Un.laid k hp (I.hok.fresh hp)) (I.hok.laid k hp new)
theorem Inv.write{x e:Addr}{o:HO}{t':Nat}(I:Inv X pins σ H s)(mu:Mut (H x))(he:e=x\/H e=some (.own x))(k:∀b u,b≠e->s.heap.get? b=some u->h'.get? b=some u)(heo:∃u,h'.get? e=some u)
  (new:cJ X.prog X.w (upd H x o) h' x o):Inv X pins σ (upd H x o) {s with heap:=h',toks:=t'}:=I.un (Un.write mu he k heo) (I.hok.write mu he k heo new)
theorem Inv.ub{pins':List (Addr×Obj)}(I:Inv X pins σ H s)(h:∀p∈pins',s.heap.get? p.1=some p.2/\H p.1=none/\p.1≠X.env.locals/\p.1∉X.fs/\∀v,p.2.data≠.cell v):Inv X pins' σ H s:=
 ⟨I.ok,I.os,I.bare,I.base,I.loc,I.cell,I.free,I.freeC,fun p hp=>(aw.mp hp).elim (fun z=>I.pin p (mD _ z)) (h p),I.hok,I.len⟩
theorem vQ{N:List Str}(hN:N.Nodup){i j:Nat}{x:Str}(a:N[i]? =some x)(b:N[j]? =some x):i=j:=by
 obtain⟨h1,e1⟩:=bE.mp a;obtain⟨h2,e2⟩:=bE.mp b;exact(cc hN).mp (e1.trans e2.symm)
theorem zV{M:Model}{A:Around}{E:Value->Shared->Prop}{i:Nat}{x:Str}{v:V}{u:Value}{Q:Unit->Shared->Prop}(I:Inv X pins σ H s)(hN:X.N.Nodup)(hi:X.N[i]? =some x)(hx:Loc X.env.scope x)(r:RelV v u)
  (h:∀s',Inv X pins (σ.set i (some v)) H s'->(∃a,dH a s.heap s'.heap/\(a=X.env.locals\/X.env.cells.lookup x=some a))->Q () s')(hf:X.fn x=true\/X.env.scope.names.lookup x=some .local:=by first |exact .inl rfl|exact .inr rfl|assumption):wpAny M A (storeName X.env x u) Q E s:=by
 obtain⟨m,hn,hl⟩:=id I.loc;have hcls:(X.env.scope.kind== .class||(X.env.scope.kind== .module&&X.env.locals != X.env.globals))=false:=by rw[I.ok.kind];rfl
 have hiσ:i<σ.length:=by rw[I.len];exact(bE.mp hi).1
 have cne:=I.cne;have tracked:∀{a:Addr}{h':Heap},(∃o,s.heap.get? a=some o/\H a=none)->dH a s.heap h'->HOk X.prog X.w H h':=fun{a h'} ha hs b ob e=>by
  obtain⟨_,_,hfree⟩:=ha;refine(I.hok b ob e).nP (fun c w' hc q=>(hs.2 c ?_).trans q) (fun _ q=>q) fun _ _ q=>q;rintro rfl;rcases hc with rfl|hc
  ·rw[hfree]at e;cases e
  ·rw[hfree]at hc;cases hc
 rcases hx with hk|hk
 ·refine wpAny_storeName_local hk hn (fun h' hn' hs=>?_) hcls
  obtain⟨oL,_,_,hoL,_⟩:=id hn;refine h _ ⟨I.ok,I.os,I.bare,⟨fun b o e n hb hx=>?_,fun b o e n hb hx=>?_,I.base.free,fun b o e hx=>?_,I.base.tups,I.base.frzs,I.base.tbls⟩,⟨_,hn',fun j y v' e1 e2 e3=>?_⟩,fun y c e=>?_,I.free,I.freeC,fun p hp=>?_,tracked ⟨oL,hoL,I.free⟩ hs,by simpa using I.len⟩ ⟨_,hs,.inl rfl⟩
  ·exact(hs.2 b (aE (bf (ax e) I.ok.above))).trans (I.base.keep b o e n hb hx)
  ·obtain⟨sl,e1⟩:=I.base.slot b o e n hb hx
   exact⟨sl,(hs.2 b (aE (bf (ax e) I.ok.above))).trans e1⟩
  ·obtain⟨o',e1⟩:=I.base.there b o e hx
   exact⟨o',(hs.2 b (aE (bf (ax e) I.ok.above))).trans e1⟩
  ·by_cases hj:j=i
   ·subst hj
    rw[hi]at e1;cases e1;rw[zL hiσ]at e2;cases e2;exact⟨u,r,.inl ⟨hk,by simp⟩⟩
   ·rw[Bu (cz hj)]at e2
    obtain⟨u',r',q⟩:=hl j y v' e1 e2 e3;refine⟨u',r',?_⟩;rcases q with⟨k,e⟩ |⟨k,c,e,z⟩
    ·refine .inl ⟨k,?_⟩
     have :y≠x:=fun e=>hj (vQ hN e1 (e▸hi));simp[this,e]
    ·exact .inr ⟨k,c,e,z.sameBut hs (cne y c e)⟩
  ·obtain⟨w',z⟩:=I.cell y c e
   exact⟨w',z.sameBut hs (cne y c e)⟩
  ·obtain⟨e,n,ne,nf,d⟩:=I.pin p hp
   exact⟨(hs.2 p.1 ne).trans e,n,ne,nf,d⟩
 ·have hfn:X.fn x=true:=by
   rcases hf with z|z
   ·exact z
   ·rw[z]at hk;cases hk
  obtain⟨c,hc⟩:=I.ok.has x (.inl hk);obtain⟨w',z⟩:=I.cell x c hc;refine wpAny_storeName_cell I.ok.kind hk hc z (fun h' hc' hs=>?_);obtain⟨oc,hoc,hocd⟩:=id z;refine h {s with heap:=h'} ⟨I.ok,I.os,I.bare,⟨fun b o e n hb hx=>?_,fun b o e n hb hx=>?_,I.base.free,fun b o e hx=>?_,I.base.tups,I.base.frzs,I.base.tbls⟩,⟨m,hn.sameBut hs (cz (cne x c hc)),fun j y v' e1 e2 e3=>?_⟩,fun y c' e=>?_,I.free,I.freeC,fun p hp=>?_,tracked ⟨oc,hoc,I.freeC x c hc⟩ hs,by simpa using I.len⟩ ⟨c,hs,.inr hc⟩
  ·exact(hs.2 b (aE (bf (ax e) (I.ok.cab x c hfn hc)))).trans (I.base.keep b o e n hb hx)
  ·obtain⟨sl,e1⟩:=I.base.slot b o e n hb hx
   exact⟨sl,(hs.2 b (aE (bf (ax e) (I.ok.cab x c hfn hc)))).trans e1⟩
  ·obtain⟨o',e1⟩:=I.base.there b o e hx
   exact⟨o',(hs.2 b (aE (bf (ax e) (I.ok.cab x c hfn hc)))).trans e1⟩
  ·by_cases hj:j=i
   ·subst hj
    rw[hi]at e1;cases e1;rw[zL hiσ]at e2;cases e2;exact⟨u,r,.inr ⟨.inl hk,c,hc,hc'⟩⟩
   ·rw[Bu (cz hj)]at e2
    obtain⟨u',r',q⟩:=hl j y v' e1 e2 e3;refine⟨u',r',?_⟩;rcases q with q|⟨k,c',e,z'⟩
    ·exact .inl q
    ·refine .inr ⟨k,c',e,z'.sameBut hs ?_⟩
     rintro rfl;exact hj (vQ hN e1 (I.ok.inj _ _ _ e hc▸hi))
  ·by_cases hcc:c'=c
   ·subst hcc;exact⟨_,hc'⟩
   ·obtain⟨w2,z2⟩:=I.cell y c' e
    exact⟨w2,z2.sameBut hs hcc⟩
  ·obtain⟨e,n,ne,nf,d⟩:=I.pin p hp
   refine⟨(hs.2 p.1 ?_).trans e,n,ne,nf,d⟩;intro q;rw[q,hoc]at e;have q':oc=p.2:=bh e;exact d w' (by rw[<-q'];exact hocd)
theorem vq{M:Model}{A:Around}{E:Value->Shared->Prop}{i:Nat}{x:Str}{v:V}{u:Value}{Q:Unit->Shared->Prop}(I:Inv X pins σ H s)(hN:X.N.Nodup)(hi:X.N[i]? =some x)(hx:Loc X.env.scope x)(r:RelV v u)
  (h:∀s',Inv X pins (σ.set i (some v)) H s'->Q () s')(hf:X.fn x=true\/X.env.scope.names.lookup x=some .local:=by first |exact .inl rfl|exact .inr rfl|assumption):wpAny M A (storeName X.env x u) Q E s:=
 zV I hN hi hx r (fun s' I' _=>h s' I') hf
theorem Inv.call'{s':Shared}{ch:List Addr}(I:Inv X pins σ H s)(ho:s'.os=s.os)(u:Un (frs X.stack) ch H H' s.heap s'.heap)(hok:HOk X.prog X.w H' s'.heap)(hg:kY s'.gens)
  (hch:∀b∈ch,(b∈X.ex\/X.s₀.heap.objs.size<=b)/\b≠X.env.locals/\(∀x c,X.env.cells.lookup x=some c->c≠b)/\∀p∈X.pn++pins,p.1≠b):Inv X pins σ H' s':=by
 obtain⟨h',g',d',t',o'⟩:=s';have e:o'=s.os:=ho;subst e;exact I.call (g':=g') (t':=t') (d':=d') u hok hg hch
end
noncomputable abbrev XK:=Value->Option Addr->Hp->Prop
noncomputable abbrev St:=List (Option V)
noncomputable abbrev VK:=V->Hp->Prop
noncomputable abbrev TE:=St->Hp->VK->Prop
noncomputable abbrev TT:=St->Hp->(Bool->Hp->Prop)->Prop
noncomputable abbrev TA:=St->Hp->(List V->Hp->Prop)->Prop
structure Ends where
 nx:St->Hp->Prop
 rt:VK
 bk:St->Hp->Prop:=fun _ _=>False
 ct:St->Hp->Prop:=fun _ _=>False
noncomputable abbrev TS:=Ends->St->Hp->Prop
noncomputable def EP(X:Cx)(pins:List (Addr×Obj))(σ:St)(Q:VK)(u:Value)(s':Shared):Prop:=∃v H',Inv X pins σ H' s'/\RelV v u/\Q v H'
noncomputable def TP(X:Cx)(pins:List (Addr×Obj))(σ:St)(Q:Bool->Hp->Prop)(b:Bool)(s':Shared):Prop:=∃H',Inv X pins σ H' s'/\Q b H'
noncomputable def AP(X:Cx)(pins:List (Addr×Obj))(σ:St)(Q:List V->Hp->Prop)(us:List Value)(s':Shared):Prop:=∃vs H',Inv X pins σ H' s'/\bJ vs us/\Q vs H'
noncomputable def SP(X:Cx)(pins:List (Addr×Obj))(D:Ends)(f:Flow)(s':Shared):Prop:=
 match f with
 |.next=>∃σ' H',Inv X pins σ' H' s'/\D.nx σ' H'
 |.brk=>∃σ' H',Inv X pins σ' H' s'/\D.bk σ' H'
 |.cont=>∃σ' H',Inv X pins σ' H' s'/\D.ct σ' H'
 |.ret u=>∃v σ' H',Inv X pins σ' H' s'/\RelV v u/\D.rt v H'
noncomputable def PE(X:Cx)(e:Expr)(t:TE):Prop:=
 ∀(pins:List (Addr×Obj))(s:Shared)(σ:St)(H:Hp)(Q:VK),Inv X pins σ H s->t σ H Q->wpAny (model X.prog X.w) X.A (eval e X.env) (EP X pins σ Q) X.xe s
noncomputable def PT(X:Cx)(e:Expr)(t:TT):Prop:=
 ∀(pins:List (Addr×Obj))(s:Shared)(σ:St)(H:Hp)(Q:Bool->Hp->Prop),Inv X pins σ H s->t σ H Q->wpAny (model X.prog X.w) X.A (isTrue e X.env (eval e X.env)) (TP X pins σ Q) X.xe s
noncomputable def PW(X:Cx)(e:Expr)(t:TT):Prop:=
 ∀(whole:Sem Value)(pins:List (Addr×Obj))(s:Shared)(σ:St)(H:Hp)(Q:Bool->Hp->Prop),Inv X pins σ H s->t σ H Q->wpAny (model X.prog X.w) X.A (isTrue e X.env whole) (TP X pins σ Q) X.xe s
theorem PW.pt{X:Cx}{e:Expr}{t:TT}(h:PW X e t):PT X e t:=h _
noncomputable def PA(X:Cx)(es:List Expr)(t:TA):Prop:=
 ∀(pos:Pos)(pins:List (Addr×Obj))(s:Shared)(σ:St)(H:Hp)(Q:List V->Hp->Prop),Inv X pins σ H s->t σ H Q->wpAny (model X.prog X.w) X.A (spliced (backTo pos (bC es X.env))) (AP X pins σ Q) X.xe s
noncomputable def PS(X:Cx)(st:Stmt)(t:TS):Prop:=
 ∀(pins:List (Addr×Obj))(s:Shared)(σ:St)(H:Hp)(D:Ends),Inv X pins σ H s->t D σ H->wpAny (model X.prog X.w) X.A (exec st X.env) (SP X pins D) X.xe s
noncomputable def PSs(X:Cx)(st:List Stmt)(t:TS):Prop:=
 ∀(pins:List (Addr×Obj))(s:Shared)(σ:St)(H:Hp)(D:Ends),Inv X pins σ H s->t D σ H->wpAny (model X.prog X.w) X.A (execs st X.env) (SP X pins D) X.xe s
theorem thn{α:Type}{t:Sem α}{Q Q':α->Shared->Prop}{M:Model}{A:Around}{E:Value->Shared->Prop}{s:Shared}(h:wpAny M A t Q E s)(hQ:∀a s,Q a s->Q' a s):wpAny M A t Q' E s:=dm h hQ fun _ _ x=>x
section
variable {X:Cx}
noncomputable def mG(i:Nat):TE:=fun σ H Q=>∃v,σ[i]? =some (some v)/\Q v H
noncomputable def tC(v:V):TE:=fun _ H Q=>Q v H
theorem pe_var{i:Nat}{x:Str}{pos:Pos}(hN:X.N[i]? =some x)(hv:Vis X.env.scope x)(hd:(x==("__debug__":Str))=false:=by decide) (hcd:(x==("__classdict__":Str))=false:=by decide):PE X (.Name x pos) (mG i):=by
 intro pins s σ H Q I h;obtain⟨v,e,h⟩:=h;obtain⟨m,hn,hl⟩:=I.loc;obtain⟨u,r,l⟩:=hl i x v hN e hv;have fin:EP X pins σ Q u s:=⟨v,H,I,r,h⟩;rcases l with⟨hk,hm⟩ |⟨hk,c,hc,hcell⟩
 ·exact wpAny_Name (wpAny_loadName_local I.ok.kind hk hn hm fin) hd
 ·rcases hk with hk|hk
  ·exact wpAny_Name (wpAny_loadName_cell I.ok.kind hk hc hcell fin) hd
  ·exact wpAny_Name (wpAny_loadName_free I.ok.kind hk hc hcell fin hcd) hd
theorem Dc{i j pos}:PE X (.Constant (.int i) j pos) (tC (.int i)):=fun _ _ _ H _ I h=>wpAny_Constant_int ⟨.int i,H,I.tok _,⟨_,rfl⟩,h⟩
theorem pe_bl{b j pos}:PE X (.Constant (.bool b) j pos) (tC (.bl b)):=fun _ _ _ H _ I h=>Constant_bool ⟨.bl b,H,I,rfl,h⟩
theorem pe_non{j pos}:PE X (.Constant .none j pos) (tC .non):=fun _ _ _ H _ I h=>Constant_none ⟨.non,H,I,rfl,h⟩
theorem pe_str{x j pos}:PE X (.Constant (.str x) j pos) (tC (.str x)):=fun _ _ _ H _ I h=>Calls.Constant_str ⟨.str x,H,I.tok _,⟨_,rfl⟩,h⟩
noncomputable def Gl(X:Cx)(x:Str):Prop:=X.env.kindOf x=some .globalImplicit
theorem pW{E:Value->Shared->Prop}{pins:List (Addr×Obj)}{s:Shared}{σ:St}{H:Hp}{x:Str}{u:Value}{pos:Pos}{Q:Value->Shared->Prop}(I:Inv X pins σ H s)(hg:Gl X x)(hm:X.mg x=some u)(h:Q u s)
  (hd:(x==("__debug__":Str))=false:=by decide):wpAny (model X.prog X.w) X.A (eval (.Name x pos) X.env) Q E s:=
 u0 I.ok.kind hg (Calls.loadGlobal_global (by rw[I.ok.glob];exact I.mod.glob.keeps I.bk) hm h) hd
theorem iy{E:Value->Shared->Prop}{pins:List (Addr×Obj)}{s:Shared}{σ:St}{H:Hp}{x:Str}{u:Value}{pos:Pos}{Q:Value->Shared->Prop}(I:Inv X pins σ H s)(hg:Gl X x)(hm:X.mg x=none)(hv:dc x=some u)(h:Q u s)
  (hn:x≠"__name__":=by decide) (hd:(x==("__debug__":Str))=false:=by decide):wpAny (model X.prog X.w) X.A (eval (.Name x pos) X.env) Q E s:=by
 obtain⟨mb,h1,h2⟩:=I.mod.blt;exact u0 I.ok.kind hg (Calls.loadGlobal_builtin (by rw[I.ok.glob];exact I.mod.glob.keeps I.bk) hm (by rw[I.ok.blt];exact h1.keeps I.bk) ((h2 x hn).trans hv) h) hd
theorem pe_glob{x:Str}{v:V}{u:Value}{pos:Pos}(hg:Gl X x)(hm:X.mg x=some u)(r:RelV v u)(hd:(x==("__debug__":Str))=false:=by decide):PE X (.Name x pos) (tC v):=
 fun _ _ _ H _ I h=>pW I hg hm ⟨v,H,I,r,h⟩ hd
theorem pe_bltn{x:Str}{v:V}{u:Value}{pos:Pos}(hg:Gl X x)(hm:X.mg x=none)(hv:dc x=some u)(r:RelV v u)(hn:x≠"__name__":=by decide) (hd:(x==("__debug__":Str))=false:=by decide):PE X (.Name x pos) (tC v):=
 fun _ _ _ H _ I h=>iy I hg hm hv ⟨v,H,I,r,h⟩ hn hd
variable {a b:Expr}{ta tb:TE}{pos:Pos}
noncomputable def PC(X:Cx)(op:CmpOp)(a b:Expr)(t:TE):Prop:=
 ∀(pins:List (Addr×Obj))(s:Shared)(σ:St)(H:Hp)(Q:VK),Inv X pins σ H s->t σ H Q->
  wpAny (model X.prog X.w) X.A (eval a X.env) (fun v s₁=>wpAny (model X.prog X.w) X.A (eval b X.env) (fun u s₂=>wpAny (model X.prog X.w) X.A (ck op v u) (EP X pins σ Q) X.xe s₂) X.xe s₁) X.xe s
noncomputable def tB(t:TE):TT:=fun σ H Q=>t σ H fun x H1=>∃c,x=.bl c/\Q c H1
theorem Di{op:CmpOp}{t:TE}(h:PC X op a b t)(h1:k9 op b=false:=by first |exact nobehind _ (by decide) (by decide) |rfl):PE X (.Compare a [op] [b] pos) t:=fun pins s σ H Q I hw=>wpAny_Compare1 (h pins s σ H Q I hw) h1
theorem CT{op:CmpOp}{t:TE}(h:PC X op a b t)(h1:k9 op b=false:=by first |exact nobehind _ (by decide) (by decide) |rfl):PT X (.Compare a [op] [b] pos) (tB t):=by
 intro pins s σ H Q I hw;refine wpAny_isTrue_Compare1 (thn (h pins s σ H _ I hw) fun v s1 h1=>thn h1 fun u s2 h2=>thn h2 fun c s3 ⟨x,H1,I1,r1,q1⟩=>?_) h1;obtain⟨d,rfl,q⟩:=q1;cases r1;exact cB ⟨H1,I1,q⟩
variable {tA tB':TT}{rest:List Expr}
noncomputable def tAnd(t u:TT):TT:=fun σ H Q=>t σ H fun c H1=>if c=true then u σ H1 Q else Q false H1
noncomputable def tOr(t u:TT):TT:=fun σ H Q=>t σ H fun c H1=>if c=true then Q true H1 else u σ H1 Q
noncomputable def tNot(t:TT):TT:=fun σ H Q=>t σ H fun c H1=>Q (!c) H1
theorem pw_and1(ha:PT X a tA):PW X (.BoolOp .And [a] pos) tA:=by
 intro wh pins s σ H Q I h;refine isTrue_and (thn (ha pins s σ H Q I h) fun c s1 e=>?_);cases c with
 |true=>exact isTrue_and_nil e
 |false=>exact e
theorem pw_or1(ha:PT X a tA):PW X (.BoolOp .Or [a] pos) tA:=by
 intro wh pins s σ H Q I h;refine isTrue_or (thn (ha pins s σ H Q I h) fun c s1 e=>?_);cases c with
 |false=>exact isTrue_or_nil e
 |true=>exact e
theorem CN(ha:PT X a tA)(hb:PW X (.BoolOp .And (b::rest) pos) tB'):PW X (.BoolOp .And (a::b::rest) pos) (tAnd tA tB'):=by
 intro wh pins s σ H Q I h;refine isTrue_and (thn (ha pins s σ H _ I h) fun c s1 ⟨H1,I1,q1⟩=>?_);cases c with
 |true=>exact hb wh pins s1 σ H1 Q I1 q1
 |false=>exact⟨H1,I1,q1⟩
theorem pw_or(ha:PT X a tA)(hb:PW X (.BoolOp .Or (b::rest) pos) tB'):PW X (.BoolOp .Or (a::b::rest) pos) (tOr tA tB'):=by
 intro wh pins s σ H Q I h;refine isTrue_or (thn (ha pins s σ H _ I h) fun c s1 ⟨H1,I1,q1⟩=>?_);cases c with
 |true=>exact⟨H1,I1,q1⟩
 |false=>exact hb wh pins s1 σ H1 Q I1 q1
theorem pt_not(ha:PT X a tA):PT X (.UnaryOp .Not a pos) (tNot tA):=by
 intro pins s σ H Q I h;exact isTrue_not (ha pins s σ H (fun c H1=>Q (!c) H1) I h)
noncomputable def BX(ta tb:TE):TE:=fun σ H Q=>ta σ H fun x H1=>∃c,x=.bl c/\if c=true then tb σ H1 Q else Q (.bl false) H1
noncomputable def tOrV(ta tb:TE):TE:=fun σ H Q=>ta σ H fun x H1=>∃c,x=.bl c/\if c=true then Q (.bl true) H1 else tb σ H1 Q
noncomputable def BP(ta:TE):TE:=fun σ H Q=>ta σ H fun x H1=>∃c,x=.bl c/\Q (.bl (!c)) H1
theorem C9{op}{t:TE}(h:PE X a t):PE X (.BoolOp op [a] pos) t:=fun pins s σ H Q I hw=>BoolOp_one (h pins s σ H Q I hw)
theorem Dp(ha:PE X a ta)(hb:PE X (.BoolOp .And (b::rest) pos) tb):PE X (.BoolOp .And (a::b::rest) pos) (BX ta tb):=by
 intro pins s σ H Q I h;refine BoolOp_and (thn (ha pins s σ H _ I h) fun v s1 ⟨x,H1,I1,r1,q1⟩=>?_);obtain⟨c,rfl,q1⟩:=q1;cases r1;refine cB ?_;cases c with
 |true=>exact hb pins s1 σ H1 Q I1 q1
 |false=>exact⟨.bl false,H1,I1,rfl,q1⟩
theorem pe_or(ha:PE X a ta)(hb:PE X (.BoolOp .Or (b::rest) pos) tb):PE X (.BoolOp .Or (a::b::rest) pos) (tOrV ta tb):=by
 intro pins s σ H Q I h;refine BoolOp_or (thn (ha pins s σ H _ I h) fun v s1 ⟨x,H1,I1,r1,q1⟩=>?_);obtain⟨c,rfl,q1⟩:=q1;cases r1;refine cB ?_;cases c with
 |false=>exact hb pins s1 σ H1 Q I1 q1
 |true=>exact⟨.bl true,H1,I1,rfl,q1⟩
theorem pe_not(ha:PE X a ta):PE X (.UnaryOp .Not a pos) (BP ta):=by
 intro pins s σ H Q I h;refine UnaryOp_ (thn (ha pins s σ H _ I h) fun v s1 ⟨x,H1,I1,r1,q1⟩=>?_);obtain⟨c,rfl,q1⟩:=q1;cases r1;exact not_of (cB ⟨.bl (!c),H1,I1,rfl,q1⟩)
noncomputable def tIf(t:TT)(ta tb:TE):TE:=fun σ H Q=>t σ H fun c H1=>if c=true then ta σ H1 Q else tb σ H1 Q
theorem Dd{c:Expr}(hc:PT X c tA)(ha:PE X a ta)(hb:PE X b tb):PE X (.IfExp c a b pos) (tIf tA ta tb):=by
 intro pins s σ H Q I h;refine wpAny_IfExp (thn (hc pins s σ H _ I h) fun d s1 ⟨H1,I1,q1⟩=>?_);cases d with
 |true=>exact ha pins s1 σ H1 Q I1 q1
 |false=>exact hb pins s1 σ H1 Q I1 q1
end
noncomputable def SqL(K:aa)(H:Hp)(a:Addr)(xs:List V):Prop:=
 Rd H a (.lst xs)\/
  ∃(o:Obj)(its:Array Value)(n:Nat),K.lookup a=some o/\o.cls=.type "list"/\o.dict=none/\o.data=.seq its n/\its.size<=sizeLine/\bJ xs its.toList
noncomputable def SqT(K:aa)(H:Hp)(a:Addr)(xs:List V):Prop:=
 Rd H a (.tup xs)\/
  ∃(o:Obj)(its:Array Value)(n:Nat),K.lookup a=some o/\o.cls=.type "tuple"/\o.data=.seq its n/\its.size<=sizeLine/\bJ xs its.toList
noncomputable def absV:Value->Option V
 |.none=>some .non
 |.bool b=>some (.bl b)
 |.int i _=>some (.int i)
 |.str x _=>some (.str x)
 |.bytes b _=>some (.byt b)
 |.float b _=>some (.flt b)
 |.ref a=>some (.ref a)
 |.type n=>some (.ty n)
 |_=>none
theorem RelV.abs{x:V}{u:Value}(r:RelV x u):absV u=some x:=by
 cases x with
 |non=>cases r;rfl
 |bl _=>cases r;rfl
 |int _=>obtain⟨t,rfl⟩:=r;rfl
 |str _=>obtain⟨t,rfl⟩:=r;rfl
 |byt _=>obtain⟨t,rfl⟩:=r;rfl
 |flt _=>obtain⟨t,rfl⟩:=r;rfl
 |ref _=>cases r;rfl
 |ty _=>cases r;rfl
theorem RelV.inj{x y:V}{u:Value}(r:RelV x u)(q:RelV y u):x=y:=bh (r.abs.symm.trans q.abs)
theorem bJ.inj{xs ys:List V}{us:List Value}(h:bJ xs us):bJ ys us->xs=ys:=by
 induction h generalizing ys with
 |nil=>intro k;cases k;rfl
 |cons r k ih=>
  intro w;cases w with
  |cons r' w'=>rw[r.inj r',ih w']
section
variable {X:Cx}{pins:List (Addr×Obj)}{σ:St}{H:Hp}{s:Shared}{a:Addr}{xs ys:List V}
theorem SqL.of{K:aa}(h:H a=some (.lst xs)):SqL K H a xs:=.inl (.inl h)
theorem SqT.of{K:aa}(h:H a=some (.tup xs)):SqT K H a xs:=.inl (.inl h)
theorem Inv.list(I:Inv X pins σ H s)(h:SqL X.K H a xs):∃its:List Value,bJ xs its/\PlainL s.heap a its.toArray/\xs.length<=sizeLine:=by
 rcases h with h|⟨o,its,n,hk,hc,hd,hs,hz,r⟩
 ·obtain⟨z,its,n,r,e⟩:=h.ok I.hok
  exact⟨its,r,⟨_,n,e,rfl,rfl,rfl⟩,z⟩
 ·refine⟨its.toList,r,⟨o,n,I.kIn a o hk,hc,hd,by simpa using hs⟩,?_⟩
  have e:=r.length;simp only[bR]at e;omega
theorem Inv.tuple(I:Inv X pins σ H s)(h:SqT X.K H a xs):∃its:List Value,bJ xs its/\IsTup s.heap a its.toArray/\xs.length<=sizeLine:=by
 rcases h with h|⟨o,its,n,hk,hc,hs,hz,r⟩
 ·obtain⟨z,its,r,p⟩:=h.ok I.hok
  exact⟨its,r,p,z⟩
 ·refine⟨its.toList,r,⟨o,I.kIn a o hk,hc,n,by simpa using hs⟩,?_⟩
  have e:=r.length;simp only[bR]at e;omega
theorem Inv.mU(I:Inv X pins σ H s)(h:SqL X.K H a xs)(h':SqL X.K H a ys):xs=ys:=by
 obtain⟨its,r,⟨o,n,e,_,_,d⟩,_⟩:=I.list h;obtain⟨its',r',⟨o',n',e',_,_,d'⟩,_⟩:=I.list h';rw[e]at e';cases e';rw[d]at d';injection d' with d1 _
 have :its=its':=by simpa using congrArg Array.toList d1
 subst this;exact r.inj r'
theorem Inv.sj(I:Inv X pins σ H s)(h:SqT X.K H a xs)(h':SqT X.K H a ys):xs=ys:=by
 obtain⟨its,r,⟨o,e,_,n,d⟩,_⟩:=I.tuple h;obtain⟨its',r',⟨o',e',_,n',d'⟩,_⟩:=I.tuple h';rw[e]at e';cases e';rw[d]at d';injection d' with d1 _
 have :its=its':=by simpa using congrArg Array.toList d1
 subst this;exact r.inj r'
end
section
variable {X:Cx}{st:Stmt}{rest:List Stmt}{t u:TS}{e:Expr}{te:TE}{pos:Pos}
noncomputable def vn:TS:=fun D σ H=>D.nx σ H
noncomputable def tSeq(t u:TS):TS:=fun D σ H=>t {D with nx:=u D} σ H
theorem pss_nil:PSs X [] vn:=fun _ _ σ H _ I h=>yx ⟨σ,H,I,h⟩
theorem CV(h1:PS X st t)(h2:PSs X rest u):PSs X (st::rest) (tSeq t u):=by
 intro pins s σ H D I h;refine wpAny_execs_cons (thn (h1 pins s σ H {D with nx:=u D} I h) fun f s1 q=>?_);cases f with
 |next =>
  obtain⟨σ',H',I',q⟩:=q;exact h2 pins s1 σ' H' D I' q
 |ret v=>exact q
 |brk=>exact q
 |cont=>exact q
noncomputable def BW:TS:=fun D σ H=>D.bk σ H
noncomputable def tCont:TS:=fun D σ H=>D.ct σ H
theorem ps_pass:PS X (.Pass pos) vn:=fun _ _ σ H _ I h=>wpAny_Pass ⟨σ,H,I,h⟩
theorem CZ:PS X (.Break pos) BW:=fun _ _ σ H _ I h=>wpAny_Break ⟨σ,H,I,h⟩
theorem vD:PS X (.Continue pos) tCont:=fun _ _ σ H _ I h=>wpAny_Continue ⟨σ,H,I,h⟩
theorem Inv.quiet{pins:List (Addr×Obj)}{σ:St}{H:Hp}{s:Shared}(I:Inv X pins σ H s):interactive X.env=false:=by simp[interactive,I.ok.kind]
noncomputable def BR(te:TE):TS:=fun D σ H=>te σ H fun _ H1=>D.nx σ H1
theorem ps_expr(he:PE X e te)(hs:mx e none pos.line X.env=pure false:=by rfl):PS X (.Expr e pos) (BR te):=by
 intro pins s σ H D I h;exact wpAny_Expr_any (thn (he pins s σ H _ I h) fun v s1 ⟨x,H1,I1,r1,q1⟩=>⟨σ,H1,I1,q1⟩) I.quiet hs
noncomputable def tRet(te:TE):TS:=fun D σ H=>te σ H D.rt
theorem ps_ret(he:PE X e te):PS X (.Return (some e) pos) (tRet te):=by
 intro pins s σ H D I h;exact wpAny_Return_some (thn (he pins s σ H _ I h) fun v s1 ⟨x,H1,I1,r1,q1⟩=>⟨x,σ,H1,I1,r1,q1⟩)
noncomputable def BN:TS:=fun D _ H=>D.rt .non H
theorem ps_retN:PS X (.Return none pos) BN:=fun _ _ σ H _ I h=>wpAny_Return_none ⟨.non,σ,H,I,rfl,h⟩
noncomputable def tIfS(c:TT)(t u:TS):TS:=fun D σ H=>c σ H fun b H1=>if b=true then t D σ H1 else u D σ H1
theorem ps_if{c:Expr}{a b:List Stmt}{tc:TT}(hc:PT X c tc)(ha:PSs X a t)(hb:PSs X b u):PS X (.If c a b pos) (tIfS tc t u):=by
 intro pins s σ H D I h;refine wpAny_If (thn (hc pins s σ H _ I h) fun d s1 ⟨H1,I1,q1⟩=>?_);cases d with
 |true=>exact ha pins s1 σ H1 D I1 q1
 |false=>exact hb pins s1 σ H1 D I1 q1
end
noncomputable abbrev TG:=V->St->Hp->(St->Hp->Prop)->Prop
noncomputable abbrev TGs:=List V->St->Hp->(St->Hp->Prop)->Prop
noncomputable def PG(X:Cx)(target:Expr)(t:TG):Prop:=
 ∀(pins:List (Addr×Obj))(s:Shared)(σ:St)(H:Hp)(v:V)(u:Value)(Q:St->Hp->Prop),Inv X pins σ H s->RelV v u->t v σ H Q->
  wpAny (model X.prog X.w) X.A (assign target X.env u) (fun _ s'=>∃σ' H',Inv X pins σ' H' s'/\Q σ' H') X.xe s
noncomputable def PGs(X:Cx)(ts:List Expr)(t:TGs):Prop:=
 ∀(pins:List (Addr×Obj))(s:Shared)(σ:St)(H:Hp)(vs:List V)(us:List Value)(Q:St->Hp->Prop),Inv X pins σ H s->bJ vs us->t vs σ H Q->
  wpAny (model X.prog X.w) X.A (assignInOrder ((dD ts X.env).map (·.2)) us) (fun _ s'=>∃σ' H',Inv X pins σ' H' s'/\Q σ' H') X.xe s
noncomputable abbrev TSet:=V->V->V->Hp->(Hp->Prop)->Prop
noncomputable def PSet(X:Cx)(t:TSet):Prop:=
 ∀(pins:List (Addr×Obj))(s:Shared)(σ:St)(H:Hp)(o i v:V)(ov iv u:Value)(Q:Hp->Prop),Inv X pins σ H s->RelV o ov->RelV i iv->RelV v u->t o i v H Q->
  wpAny (model X.prog X.w) X.A (setItem ov iv u) (fun _ s'=>∃H',Inv X pins σ H' s'/\Q H') X.xe s
section
variable {X:Cx}{pos:Pos}
noncomputable def mX(i:Nat):TG:=fun v σ H Q=>Q (σ.set i (some v)) H
theorem yV{i:Nat}{x:Str}(hN:X.N.Nodup)(hi:X.N[i]? =some x)(hx:Loc X.env.scope x)(hf:X.fn x=true\/X.env.scope.names.lookup x=some .local:=by first |exact .inl rfl|exact .inr rfl|assumption):PG X (.Name x pos) (mX i):=by
 intro pins s σ H v u Q I r h;exact wpAny_assign_Name (vq I hN hi hx r (fun s' I'=>⟨_,H,I',h⟩) hf)
noncomputable def gNil:TGs:=fun vs σ H Q=>vs=[]/\Q σ H
noncomputable def we(t:TG)(u:TGs):TGs:=fun vs σ H Q=>∃v r,vs=v::r/\t v σ H fun σ' H'=>u r σ' H' Q
theorem pgs_nil:PGs X [] gNil:=by
 intro pins s σ H vs us Q I r h;obtain⟨e,h⟩:=h;subst e;cases r;exact assignInOrder_nil ⟨σ,H,I,h⟩
theorem C7{e:Expr}{es:List Expr}{t:TG}{u:TGs}(h1:PG X e t)(h2:PGs X es u)
  (hs:(dD (e::es) X.env).map (·.2)=assign e X.env::(dD es X.env).map (·.2):=by rfl):PGs X (e::es) (we t u):=by
 intro pins s σ H vs us Q I r h;obtain⟨v,vr,e1,h⟩:=h;subst e1;cases r with
 |cons r rr=>
  rw[hs];refine assignInOrder_cons (thn (h1 pins s σ H _ _ _ I r h) fun _ s1 ⟨σ1,H1,I1,q1⟩=>?_);exact h2 pins s1 σ1 H1 _ _ Q I1 rr q1
noncomputable def gTup(K:aa)(n:Nat)(t:TGs):TG:=fun v σ H Q=>∃a xs,v=.ref a/\SqT K H a xs/\xs.length=n/\t xs σ H Q
theorem pg_tup{es:List Expr}{k:Nat}{t:TGs}{n:Nat}(hc:X.calm=true)(h:PGs X es t)
  (hn:(dD es X.env).length=n:=by rfl) (hst:(dD es X.env).findIdx? (·.1)=none:=by rfl):PG X (.Tuple es k pos) (gTup X.K n t):=by
 intro pins s σ H v u Q I r hw;obtain⟨a,xs,e1,hq,hl,hw⟩:=hw;subst e1;cases r;obtain⟨its,rv,ht,hz⟩:=I.tuple hq;refine assign_Tuple_tuple (I.ok.hd hc) ht (by simp[hn,<-hl,rv.length]) hst fun h' hx=>?_;have I1:Inv X pins σ H {s with heap:=h'}:=I.kept (t':=s.toks) fun b o e=>hx b o (aE (ax e)) e;exact h pins _ σ H xs _ Q I1 (by simpa using rv) hw
noncomputable def gSub(to ti:TE)(t:TSet):TG:=fun v σ H Q=>to σ H fun o H1=>ti σ H1 fun i H2=>t o i v H2 fun H3=>Q σ H3
theorem pg_sub{o i:Expr}{to ti:TE}{t:TSet}(ho:PE X o to)(hi:PE X i ti)(hs:PSet X t)
  (ha:∀v,assign (.Subscript o i pos) X.env v=(do
   let ov<-holding [v] (eval o X.env)
   let iv<-holding [v,ov] (eval i X.env)
   standAt pos
   holding [v,ov,iv] (setItem ov iv v)
   release [v,ov,iv] []):=by intro _;rfl):PG X (.Subscript o i pos) (gSub to ti t):=by
 intro pins s σ H v u Q I r h;rw[ha];refine af (b7 (thn (ho pins s σ H _ I h) fun ov s1 ⟨x,H1,I1,r1,q1⟩=>?_));refine af (b7 (thn (hi pins s1 σ H1 _ I1 q1) fun iv s2 ⟨y,H2,I2,r2,q2⟩=>?_));refine af (iV (af (b7 (thn (hs pins s2 σ H2 x y v ov iv u _ I2 r1 r2 r q2) fun _ s3 ⟨H3,I3,q3⟩=>?_))));exact wpAny_release ⟨σ,H3,I3,q3⟩
noncomputable def zT(te:TE)(g:TG):TS:=fun D σ H=>te σ H fun x H1=>g x σ H1 D.nx
theorem ps_asg{tg e:Expr}{te:TE}{g:TG}(he:PE X e te)(hg:PG X tg g)(hs:swapsWithSole [tg] e pos.line X.env=pure false:=by rfl) (hw:swappedStores [tg] e X.env=pure none:=by rfl)
  (h1:(dD [tg] X.env).map (·.2)=[assign tg X.env]:=by rfl):PS X (.Assign [tg] e pos) (zT te g):=by
 intro pins s σ H D I h;refine wpAny_Assign_stores (thn (he pins s σ H _ I h) fun v s1 ⟨x,H1,I1,r1,q1⟩=>?_) hs hw;rw[h1];exact thn (hg pins s1 σ H1 x v _ I1 r1 q1) fun _ s2 q=>q
theorem ps_set{i:Nat}{x:Str}{e:Expr}{te:TE}{pos':Pos}(hN:X.N.Nodup)(hi:X.N[i]? =some x)(hx:Loc X.env.scope x)(he:PE X e te)(hs:mx e (some (.Name x pos')) pos.line X.env=pure false:=by rfl) (hf:X.fn x=true\/X.env.scope.names.lookup x=some .local:=by first |exact .inl rfl|exact .inr rfl|assumption):
  PS X (.Assign [.Name x pos'] e pos) (zT te (mX i)):=by
 intro pins s σ H D I h;refine wpAny_Assign_Name (thn (he pins s σ H _ I h) fun v s1 ⟨y,H1,I1,r1,q1⟩=>?_) hs;exact vq I1 hN hi hx r1 (fun s2 I2=>⟨_,H1,I2,q1⟩) hf
end
section
variable {X:Cx}{pos:Pos}
noncomputable def BK(c:TT)(tb:TS):TS:=fun D σ H=>∃W:Nat->St->Hp->Prop,(∃m,W m σ H)/\∀m σ H,W m σ H->
 c σ H fun b H1=>if b=true then ∃N:St->Hp->Prop,(∀σ' H',N σ' H'->∃m',m'<m/\W m' σ' H')/\tb {D with nx:=N,ct:=N,bk:=D.nx} σ H1 else D.nx σ H1
theorem CW{c:Expr}{body:List Stmt}{tc:TT}{tb:TS}(hp:PassesOwn (model X.prog X.w) X.A X.env X.xe)(hc:PT X c tc)(hb:PSs X body tb):PS X (.While c body [] pos) (BK tc tb):=by
 intro pins s σ H D I h;obtain⟨W,⟨m0,w0⟩,turn⟩:=h;refine wpAny_While (codeAny_whileLoop (fun n s'=>∃σ' H',Inv X pins σ' H' s'/\W n σ' H') ?_ m0 ⟨σ,H,I,w0⟩);rintro n s1 ⟨σ1,H1,I1,w1⟩;refine eU hp (thn (hc pins s1 σ1 H1 _ I1 (turn n σ1 H1 w1)) fun b s2 ⟨H2,I2,q2⟩=>?_);cases b with
 |true=>
  obtain⟨N,hN,q2⟩:=q2;rw[if_pos rfl];refine eU hp (thn (hb pins s2 σ1 H2 _ I2 q2) fun f s3 q3=>?_);cases f with
  |next =>
   obtain⟨σ3,H3,I3,n3⟩:=q3;obtain⟨m',hm,w3⟩:=hN σ3 H3 n3;exact⟨m',hm,σ3,H3,I3,w3⟩
  |cont=>
   obtain⟨σ3,H3,I3,n3⟩:=q3;obtain⟨m',hm,w3⟩:=hN σ3 H3 n3;exact⟨m',hm,σ3,H3,I3,w3⟩
  |brk=>exact q3
  |ret v=>exact q3
 |false=>
  rw[if_neg bp];exact yx ⟨σ1,H2,I2,q2⟩
end
structure It where
 go:Nat->Hp->Prop
 yld:Nat->Hp->V->Hp->Prop
 stop:Nat->Hp->Prop
noncomputable def mr(X:Cx)(pins:List (Addr×Obj))(H:Hp)(b:Addr):Prop:=
 H b=none/\b≠X.env.locals/\b∉X.fs/\(b∈X.ex\/X.s₀.heap.objs.size<=b)/\(∀x c,X.env.cells.lookup x=some c->c≠b)/\∀p∈X.pn++pins,p.1≠b
theorem Inv.pC{X:Cx}{pins:List (Addr×Obj)}{σ:St}{H H':Hp}{s:Shared}{b:Addr}(I:Inv X pins σ H s)(hb:s.heap.objs.size<=b)(hn:H' b=none):mr X pins H' b:=by
 refine⟨hn,cG (bf I.lt hb),I.nofs hb,.inr (aU I.sz hb),fun x c e z=>?_,fun p hp z=>?_⟩
 ·obtain⟨v,q⟩:=I.cell x c e
  exact absurd (bf q.lt (by rw[z];exact hb)) (dt _)
 ·exact absurd (bf (ax (I.pin p hp).1) (by rw[z];exact hb)) (dt _)
structure Turn(P:Program)(w:World)(K:aa)(tg:Expr)(J:It)(fp:List Addr)(it:Addr)(tn:Nat->Heap->Prop):Prop where
 mem:it∈fp
 obj:∀i h,tn i h->∀b∈fp,∃o,h.get? b=some o/\∀v,o.data≠.cell v
 keep:∀i h h',tn i h->(∀b∈fp,∀o,h.get? b=some o->h'.get? b=some o)->tn i h'
 item:∀(X:Cx),X.prog=P->X.w=w->X.K=K->X.calm=true->∀(i:Nat)(pins:List (Addr×Obj))(s:Shared)(σ:St)(H:Hp)(E:Value->Shared->Prop),Inv X pins σ H s->(∀b∈fp,mr X pins H b)->tn i s.heap->J.go i H->
  wpAny (model P w) X.A (pyNext (.ref it)) (fun r s1=>∃u,r=some u/\
   wpAny (model P w) X.A (nJ tg (.ref it) u) (fun _ s2=>∃x H',Inv X pins σ H' s2/\RelV x u/\J.yld i H x H'/\tn (i+1) s2.heap/\∀b∈fp,H' b=none) E s1) E s
 done:∀(X:Cx),X.prog=P->X.w=w->X.K=K->X.calm=true->∀(i:Nat)(pins:List (Addr×Obj))(s:Shared)(σ:St)(H:Hp)(E:Value->Shared->Prop),Inv X pins σ H s->(∀b∈fp,mr X pins H b)->tn i s.heap->J.stop i H->
  wpAny (model P w) X.A (pyNext (.ref it)) (fun r s1=>r=none/\Inv X pins σ H s1) E s
 self:∀(A:Around)(i:Nat)(s:Shared)(Q:Value->Shared->Prop)(E:Value->Shared->Prop),tn i s.heap->Q (.ref it) s->wpAny (model P w) A (pyIter (.ref it)) Q E s
noncomputable abbrev TI:=St->Hp->(It->Hp->Prop)->Prop
noncomputable def PIE(X:Cx)(pins:List (Addr×Obj))(σ:St)(tg:Expr)(R:It->Hp->Prop)(itv:Value)(s2:Shared):Prop:=
 ∃(it:Addr)(fp:List Addr)(tn:Nat->Heap->Prop)(J:It)(H':Hp),itv=.ref it/\Inv X pins σ H' s2/\Turn X.prog X.w X.K tg J fp it tn/\tn 0 s2.heap/\(∀b∈fp,mr X pins H' b)/\R J H'
noncomputable def PI(X:Cx)(tg iter:Expr)(wi:TI):Prop:=
 ∀(pins:List (Addr×Obj))(s:Shared)(σ:St)(H:Hp)(R:It->Hp->Prop),Inv X pins σ H s->wi σ H R->
  wpAny (model X.prog X.w) X.A (eval iter X.env) (fun v s1=>wpAny (model X.prog X.w) X.A (pyIter v) (PIE X pins σ tg R) X.xe s1) X.xe s
theorem sT{M:Model}{A:Around}{E:Value->Shared->Prop}{s:Shared}{tg:Expr}{it:Addr}{u:Value}{o:Obj}{n:String}{vs:Array Value}{Q:Unit->Shared->Prop}(ho:s.heap.get? it=some o)(hc:o.cls=.type n)(hd:o.data=.fields vs)
  (hn:["enumerate","zip","dict_itemiterator","dict_reverseitemiterator","odict_iterator","itertools.zip_longest","itertools.pairwise"].contains n=false)(hQ:Q () s):wpAny M A (nJ tg (.ref it) u) Q E s:=by
 unfold nJ;cases tg<;>first
  |exact aj hQ
  | (cases u<;>first
    |exact aj hQ
    | (refine af (wpAny_load ho ?_)
       rw[hc,hd];show wpAny M A (if(["enumerate","zip","dict_itemiterator","dict_reverseitemiterator","odict_iterator","itertools.zip_longest","itertools.pairwise"].contains n&&vs[0]? ==some (rawInt _))=true then _ else _) Q E s;rw[if_neg (by intro h;rw[hn,eY]at h;cases h)];exact aj hQ))
noncomputable def Itl(K:aa)(a:Addr):It:=
 ⟨fun i H=>∃xs x,SqL K H a xs/\xs[i]? =some x,fun i H x H'=>H'=H/\∀xs,SqL K H a xs->xs[i]? =some x,fun i H=>∃xs,SqL K H a xs/\xs.length<=i⟩
noncomputable def Itt(K:aa)(a:Addr):It:=
 ⟨fun i H=>∃xs x,SqT K H a xs/\xs[i]? =some x,fun i H x H'=>H'=H/\∀xs,SqT K H a xs->xs[i]? =some x,fun i H=>∃xs,SqT K H a xs/\xs.length<=i⟩
noncomputable def Itr(lo:Int)(n:Nat):It:=⟨fun i _=>i<n,fun i H x H'=>H'=H/\x=.int (lo+i),fun i _=>n<=i⟩
theorem si{P:Program}{w:World}{K:aa}{tg:Expr}(a it:Addr):Turn P w K tg (Itl K a) [it] it (fun i h=>h.IsListIter it a i) where
 mem:=by simp
 obj:=fun i h st b hb=>by
  have e:b=it:=by simpa using hb
  subst e;obtain⟨o,e,c,d⟩:=st;exact⟨o,e,fun v z=>by rw[d]at z;cases z⟩
 keep:=fun i h h' st k=>st.at fun o e=>k it (by simp) o e
 item:=by
  intro X hP hw hK hc i pins s σ H E I hf st hg;subst hP hw hK;obtain⟨xs,x,hq,hx⟩:=hg;obtain⟨its,rv,p,hz⟩:=I.list hq;obtain⟨u,hu,ru⟩:=rv.get hx;obtain⟨f0,f1,f2,f3,f4,f5⟩:=hf it (by simp);refine wpAny_pyNext_list_item st p.isList (x:=u) (by simpa using hu) fun h' st' sb=>?_;have I1:Inv X pins σ H {s with heap:=h'}:=I.turned (t':=s.toks) (fun b o hb e=>(sb.2 b hb).trans e) f0 f1 f3 f4 f5;obtain⟨o,e,c,d⟩:=id st';exact⟨u,rfl,sT (s:={s with heap:=h'}) e c d (by decide) ⟨x,H,I1,ru,⟨rfl,fun ys hy=>by rw[I.mU hy hq];exact hx⟩,st',fun b hb=>(hf b hb).1⟩⟩
 done:=by
  intro X hP hw hK hc i pins s σ H E I hf st hg;subst hP hw hK;obtain⟨xs,hq,hx⟩:=hg;obtain⟨its,rv,p,hz⟩:=I.list hq;obtain⟨f0,f1,f2,f3,f4,f5⟩:=hf it (by simp);have hl:=rv.length;exact wpAny_pyNext_list_end (I.ok.hd hc) st p.isList (by simp;omega) fun h' eb=>⟨rfl,I.turned (t':=s.toks) (fun b o hb e=>eb b o hb e) f0 f1 f3 f4 f5⟩
 self:=fun _ _ _ _ _ st h=>wpAny_pyIter_listiter st h
theorem qd{P:Program}{w:World}{K:aa}{tg:Expr}(a it:Addr):Turn P w K tg (Itt K a) [it] it (fun i h=>h.IsTupleIter it a i) where
 mem:=by simp
 obj:=fun i h st b hb=>by
  have e:b=it:=by simpa using hb
  subst e;obtain⟨o,e,c,d⟩:=st;exact⟨o,e,fun v z=>by rw[d]at z;cases z⟩
 keep:=fun i h h' st k=>st.at fun o e=>k it (by simp) o e
 item:=by
  intro X hP hw hK hc i pins s σ H E I hf st hg;subst hP hw hK;obtain⟨xs,x,hq,hx⟩:=hg;obtain⟨its,rv,p,hz⟩:=I.tuple hq;obtain⟨u,hu,ru⟩:=rv.get hx;obtain⟨f0,f1,f2,f3,f4,f5⟩:=hf it (by simp);refine wpAny_pyNext_tuple_item st (show s.heap.IsTuple a its.toArray from p) (x:=u) (by simpa using hu) fun h' st' sb=>?_;have I1:Inv X pins σ H {s with heap:=h'}:=I.turned (t':=s.toks) (fun b o hb e=>(sb.2 b hb).trans e) f0 f1 f3 f4 f5;obtain⟨o,e,c,d⟩:=id st';exact⟨u,rfl,sT (s:={s with heap:=h'}) e c d (by decide) ⟨x,H,I1,ru,⟨rfl,fun ys hy=>by rw[I.sj hy hq];exact hx⟩,st',fun b hb=>(hf b hb).1⟩⟩
 done:=by
  intro X hP hw hK hc i pins s σ H E I hf st hg;subst hP hw hK;obtain⟨xs,hq,hx⟩:=hg;obtain⟨its,rv,p,hz⟩:=I.tuple hq;obtain⟨f0,f1,f2,f3,f4,f5⟩:=hf it (by simp);have hl:=rv.length;exact wpAny_pyNext_tuple_end (I.ok.hd hc) st (show s.heap.IsTuple a its.toArray from p) (by simp;omega) fun h' eb=>⟨rfl,I.turned (t':=s.toks) (fun b o hb e=>eb b o hb e) f0 f1 f3 f4 f5⟩
 self:=fun _ _ _ _ _ st h=>wpAny_pyIter_tupleiter st h
theorem xp{P:Program}{w:World}{K:aa}{tg:Expr}(it:Addr)(lo:Int)(n:Nat):Turn P w K tg (Itr lo n) [it] it (fun i h=>IsRangeIter h it (lo+(i:Nat)*1) ((n:Int)-(i:Nat)) 1) where
 mem:=by simp
 obj:=fun i h st b hb=>by
  have e:b=it:=by simpa using hb
  subst e;exact⟨_,st,fun v z=>by
   have z':Data.fields _=Data.cell v:=z;cases z'⟩
 keep:=fun i h h' st k=>k it (by simp) _ st
 item:=by
  intro X hP hw hK hc i pins s σ H E I hf st hg;subst hP hw hK;obtain⟨f0,f1,f2,f3,f4,f5⟩:=hf it (by simp);have W:=Walks.range (prog:=X.prog) (w:=X.w) (I.ok.hd hc) it lo 1 n;refine W.item i s _ _ hg st fun v h' tk hv st' kk=>?_;obtain⟨t,rfl⟩:=hv;have I1:Inv X pins σ H {s with heap:=h',toks:=tk}:=I.turned (fun b o hb e=>kk b o (by simpa using hb) e) f0 f1 f3 f4 f5;refine⟨_,rfl,sT (s:={s with heap:=h',toks:=tk}) (n:="range_iterator") st' rfl rfl (by decide) ⟨.int (lo+i),H,I1,⟨t,?_⟩,⟨rfl,rfl⟩,st',fun b hb=>(hf b hb).1⟩⟩;rw[Int.mul_one]
 done:=by
  intro X hP hw hK hc i pins s σ H E I hf st hg;subst hP hw hK;obtain⟨f0,f1,f2,f3,f4,f5⟩:=hf it (by simp);exact wpAny_pyNext_range_end (I.ok.hd hc) st (by have :n<=i:=hg;omega) fun h' eb=>⟨rfl,I.turned (t':=s.toks) (fun b o hb e=>eb b o hb e) f0 f1 f3 f4 f5⟩
 self:=fun _ _ _ _ _ st h=>wpAny_pyIter_rangeiter st h
section
variable {X:Cx}{tg:Expr}
noncomputable def DQ(K:aa)(tl:TE):TI:=fun σ H R=>tl σ H fun x H1=>∃a,x=.ref a/\(∃xs,SqL K H1 a xs)/\R (Itl K a) H1
noncomputable def iTup(K:aa)(tl:TE):TI:=fun σ H R=>tl σ H fun x H1=>∃a,x=.ref a/\(∃xs,SqT K H1 a xs)/\R (Itt K a) H1
theorem pi_list{l:Expr}{tl:TE}(hl:PE X l tl):PI X tg l (DQ X.K tl):=by
 intro pins s σ H R I h;refine thn (hl pins s σ H _ I h) fun v s1 ⟨x,H1,I1,r1,q1⟩=>?_;obtain⟨a,e,⟨xs,hq⟩,q⟩:=q1;subst e;cases r1;obtain⟨its,rv,p,hz⟩:=I1.list hq;refine gW p.isList ?_;refine⟨s1.heap.objs.size,[s1.heap.objs.size],_,_,H1,rfl,I1.kept (t':=s1.toks) fun b o e=>ae _ e,si a _,⟨_,aC _ rfl,rfl,rfl⟩,fun b hb=>?_,q⟩;have e:b=s1.heap.objs.size:=by simpa using hb
 subst e;exact I1.pC (ar _) (I1.hok.fresh (ar _))
theorem pi_tup{l:Expr}{tl:TE}(hl:PE X l tl):PI X tg l (iTup X.K tl):=by
 intro pins s σ H R I h;refine thn (hl pins s σ H _ I h) fun v s1 ⟨x,H1,I1,r1,q1⟩=>?_;obtain⟨a,e,⟨xs,hq⟩,q⟩:=q1;subst e;cases r1;obtain⟨its,rv,p,hz⟩:=I1.tuple hq;refine wpAny_pyIter_tuple (show s1.heap.IsTuple a its.toArray from p) ?_;refine⟨s1.heap.objs.size,[s1.heap.objs.size],_,_,H1,rfl,I1.kept (t':=s1.toks) fun b o e=>ae _ e,qd a _,⟨_,aC _ rfl,rfl,rfl⟩,fun b hb=>?_,q⟩;have e:b=s1.heap.objs.size:=by simpa using hb
 subst e;exact I1.pC (ar _) (I1.hok.fresh (ar _))
theorem vB{pins:List (Addr×Obj)}{σ:St}{H:Hp}{s:Shared}{R:It->Hp->Prop}{E:Value->Shared->Prop}{lo hi:Int}{t u v:Tok}{tk:Nat}(I:Inv X pins σ H s)(h1: -(2^62)<=lo)(h2:lo<2^62)(h3: -(2^62)<=hi)(h4:hi<2^62)
  (q:R (Itr lo (hi-lo).toNat) H):wpAny (model X.prog X.w) X.A (pyIter (.ref s.heap.objs.size)) (PIE X pins σ tg R) E {s with heap:=s.heap.push {cls:=.type "range",data:=.fields #[.int lo t,.int hi u,.int 1 v]},toks:=tk}:=by
 refine wpAny_pyIter_range (IsRange.new ..) (small_one h1 h2 h3 h4) ?_;have I1:Inv X pins σ H {s with heap:=s.heap.push {cls:=.type "range",data:=.fields #[.int lo t,.int hi u,.int 1 v]},toks:=tk}:=I.kept fun b o e=>ae _ e;refine⟨(s.heap.push {cls:=.type "range",data:=.fields #[.int lo t,.int hi u,.int 1 v]}).objs.size,[(s.heap.push {cls:=.type "range",data:=.fields #[.int lo t,.int hi u,.int 1 v]}).objs.size],_,_,H,rfl,
  I1.kept (t':=tk) fun b o e=>ae _ e,xp _ lo (hi-lo).toNat,?_,fun b hb=>?_,q⟩
 ·have e1:lo+((0:Nat):Int)*1=lo:=by simp
  have e2:(((hi-lo).toNat:Nat):Int)-((0:Nat):Int)=Builtin.Range.rangeSize lo hi 1:=by rw[rangeSize_one];split <;>omega
  show IsRangeIter _ _ (lo+((0:Nat):Int)*1) ((((hi-lo).toNat:Nat):Int)-((0:Nat):Int)) 1;rw[e1,e2];exact aC _ rfl
 ·have e:b=(s.heap.push {cls:=.type "range",data:=.fields #[.int lo t,.int hi u,.int 1 v]}).objs.size:=by simpa using hb
  subst e;exact I1.pC (ar _) (I1.hok.fresh (ar _))
noncomputable def DP(ta:TA):TI:=fun σ H R=>ta σ H fun vs H1=>∃j:Int,vs=[.int j]∧-(2^62)<=j/\j<2^62/\R (Itr 0 j.toNat) H1
noncomputable def DO(ta:TA):TI:=fun σ H R=>ta σ H fun vs H1=>∃i j:Int,vs=[.int i,.int j]/\(-(2^62)<=i/\i<2^62∧-(2^62)<=j/\j<2^62)/\R (Itr i (j-i).toNat) H1
theorem Ah{a:Expr}{ta:TA}{p pos:Pos}(hg:Gl X "range")(hm:X.mg "range"=none)(ha:PA X [a] ta)(hs:bC [a] X.env=[(false,eval a X.env)]:=by rfl):PI X tg (.Call (.Name "range" p) [a] [] pos) (DP ta):=by
 intro pins s σ H R I h;refine Call_ (iy I hg hm boot_range (bT (thn (ha pos pins s σ H _ I h) fun us s1 ⟨vs,H1,I1,r1,q1⟩=>?_) hs rfl));obtain⟨j,e,q1,q2,q⟩:=q1;subst e;cases r1 with
 |cons r rr=>
  cases rr;obtain⟨t,rfl⟩:=r;exact call_range_1 (vB I1 (by omega) (by omega) q1 q2 (by simpa using q))
theorem Ag{a b:Expr}{ta:TA}{p pos:Pos}(hg:Gl X "range")(hm:X.mg "range"=none)(ha:PA X [a,b] ta)(hs:bC [a,b] X.env=[(false,eval a X.env),(false,eval b X.env)]:=by rfl) (hs2:bC [b] X.env=[(false,eval b X.env)]:=by rfl):
  PI X tg (.Call (.Name "range" p) [a,b] [] pos) (DO ta):=by
 intro pins s σ H R I h;refine Call_ (iy I hg hm boot_range (bT (thn (ha pos pins s σ H _ I h) fun us s1 ⟨vs,H1,I1,r1,q1⟩=>?_) (by rw[hs,hs2]) (by rw[hs2];rfl)));obtain⟨i,j,e,⟨q1,q2,q3,q4⟩,q⟩:=q1;subst e;cases r1 with
 |cons r rr=>
  cases rr with
  |cons r' rr=>
   cases rr;obtain⟨t,rfl⟩:=r;obtain⟨t',rfl⟩:=r';exact call_range_2 (vB I1 q1 q2 q3 q4 q)
noncomputable def tFor(wi:TI)(g:TG)(tb:TS):TS:=fun D σ H=>wi σ H fun J H1=>∃W:Nat->Nat->St->Hp->Prop,(∃m,W 0 m σ H1)/\∀i m σ H,W i m σ H->
 (J.stop i H/\D.nx σ H)\/(J.go i H/\∃N:St->Hp->Prop,(∀σ' H',N σ' H'->∃m',m'<m/\W (i+1) m' σ' H')/\∀x H',J.yld i H x H'->g x σ H' fun σ2 H2=>tb {D with nx:=N,ct:=N,bk:=D.nx} σ2 H2)
noncomputable def gK(fp:List Addr)(h:Heap):List (Addr×Obj):=fp.filterMap fun b=>(h.get? b).map fun o=>(b,o)
theorem gi{fp:List Addr}{h:Heap}{b:Addr}{o:Obj}(hb:b∈fp)(e:h.get? b=some o):(b,o)∈gK fp h:=List.mem_filterMap.mpr ⟨b,hb,by rw[e];rfl⟩
theorem nW{fp:List Addr}{h:Heap}{p:Addr×Obj}(hp:p∈gK fp h):p.1∈fp/\h.get? p.1=some p.2:=by
 obtain⟨b,hb,e⟩:=List.mem_filterMap.mp hp;cases q:h.get? b with
 |none=>rw[q]at e;cases e
 |some o=>
  rw[q]at e;have e':(b,o)=p:=bh e;subst e';exact⟨hb,q⟩
theorem Inv.pinned{pins:List (Addr×Obj)}{σ:St}{H:Hp}{s:Shared}{fp:List Addr}(I:Inv X pins σ H s)(hf:∀b∈fp,mr X pins H b)(ho:∀b∈fp,∃o,s.heap.get? b=some o/\∀v,o.data≠.cell v):Inv X (pins++gK fp s.heap) σ H s:=
 I.ub fun p hp=>(aw.mp hp).elim (fun z=>I.pin p (aW _ z)) fun z=>by
  obtain⟨hb,e⟩:=nW z;obtain⟨f0,f1,f2,_⟩:=hf p.1 hb;obtain⟨o,e',d⟩:=ho p.1 hb;rw[e]at e';cases e';exact⟨e,f0,f1,f2,d⟩
theorem Inv.fK{pins pl:List (Addr×Obj)}{σ:St}{H:Hp}{s:Shared}(I:Inv X (pins++pl) σ H s):Inv X pins σ H s:=I.ub fun p hp=>I.pin p (aW _ (mD _ hp))
theorem ps_for{iter:Expr}{body:List Stmt}{wi:TI}{g:TG}{tb:TS}{pos:Pos}(hp:PassesOwn (model X.prog X.w) X.A X.env X.xe)(hc:X.calm=true)(hi:PI X tg iter wi)(hg:PG X tg g)(hb:PSs X body tb)
  (hs:∀x,gZ iter X.env x=pure x:=by intro _;rfl):PS X (.For tg iter body [] pos) (tFor wi g tb):=by
 intro pins s σ H D I h;refine wpAny_For (thn (hi pins s σ H _ I h) fun v s1 h1=>thn h1 fun itv s2 h2=>?_) hs;obtain⟨it,fp,tn,J,H2,e,I2,T,st2,f2,W,⟨m0,w0⟩,turn⟩:=h2;subst e
 --what stays true of the iterator's objects through the loop
 have stat:∀{H':Hp},(∀b∈fp,H' b=none)->∀b∈fp,mr X pins H' b:=fun hn b hb=>⟨hn b hb,(f2 b hb).2⟩;refine codeAny_forLoop_any (fun n s'=>∃i σ' H',Inv X pins σ' H' s'/\tn i s'.heap/\(∀b∈fp,H' b=none)/\W i n σ' H') ?_ m0 ⟨0,σ,H2,I2,st2,fun b hb=>(f2 b hb).1,w0⟩;rintro n s3 ⟨i,σ3,H3,I3,st3,fr3,w3⟩;rcases turn i n σ3 H3 w3 with⟨stop,qn⟩ |⟨go,N,hN,step⟩
 ·refine eU hp (thn (T.done X rfl rfl rfl hc i pins s3 σ3 H3 X.xe I3 (stat fr3) st3 stop) fun r s4 ⟨hr,I4⟩=>?_)
  subst hr;exact yx ⟨σ3,H3,I4,qn⟩
 ·refine eU hp (thn (T.item X rfl rfl rfl hc i pins s3 σ3 H3 X.xe I3 (stat fr3) st3 go) fun r s4 ⟨u,hr,h4⟩=>?_)
  subst hr;refine eU hp (thn h4 fun _ s5 ⟨x,H5,I5,r5,y5,st5,fr5⟩=>?_);have I5':=I5.pinned (stat fr5) (T.obj _ _ st5);refine eU hp (thn (hg _ s5 σ3 H5 x u _ I5' r5 (step x H5 y5)) fun _ s6 ⟨σ6,H6,I6,q6⟩=>?_);refine eU hp (thn (hb _ s6 σ6 H6 _ I6 q6) fun f s7 q7=>?_);have again:∀{σ7:St}{H7:Hp},Inv X (pins++gK fp s5.heap) σ7 H7 s7->N σ7 H7->∃m,m<n/\∃i σ' H',Inv X pins σ' H' s7/\tn i s7.heap/\(∀b∈fp,H' b=none)/\W i m σ' H':=fun{σ7 H7} I7 n7=>by
   obtain⟨m',hm,w7⟩:=hN σ7 H7 n7;refine⟨m',hm,i+1,σ7,H7,I7.fK,T.keep _ _ _ st5 fun b hb o e=>(I7.pin (b,o) (aW _ (aW _ (gi hb e)))).1,fun b hb=>?_,w7⟩;obtain⟨o,e,d⟩:=T.obj _ _ st5 b hb;exact(I7.pin (b,o) (aW _ (aW _ (gi hb e)))).2.1
  cases f with
  |next =>obtain⟨σ7,H7,I7,n7⟩:=q7;exact again I7 n7
  |cont=>obtain⟨σ7,H7,I7,n7⟩:=q7;exact again I7 n7
  |brk=>obtain⟨σ7,H7,I7,q7⟩:=q7;exact⟨σ7,H7,I7.fK,q7⟩
  |ret v=>obtain⟨x7,σ7,H7,I7,r7,q7⟩:=q7;exact⟨x7,σ7,H7,I7.fK,r7,q7⟩
end
noncomputable abbrev R2:=V->V->Hp->VK->Prop
noncomputable def OpR(X:Cx)(f:Value->Value->Sem Value)(r:R2):Prop:=
 ∀(pins:List (Addr×Obj))(s:Shared)(σ:St)(H:Hp)(x y:V)(v u:Value)(Q:VK),Inv X pins σ H s->RelV x v->RelV y u->r x y H Q->
  wpAny (model X.prog X.w) X.A (f v u) (EP X pins σ Q) X.xe s
noncomputable def UnR(X:Cx)(f:Value->Sem Value)(r:V->Hp->VK->Prop):Prop:=
 ∀(pins:List (Addr×Obj))(s:Shared)(σ:St)(H:Hp)(x:V)(v:Value)(Q:VK),Inv X pins σ H s->RelV x v->r x H Q->
  wpAny (model X.prog X.w) X.A (f v) (EP X pins σ Q) X.xe s
noncomputable def eD(X:Cx)(f:Value)(r:List V->Hp->VK->Prop):Prop:=
 ∀(pins:List (Addr×Obj))(s:Shared)(σ:St)(H:Hp)(xs:List V)(us:List Value)(Q:VK),Inv X pins σ H s->bJ xs us->r xs H Q->
  wpAny (model X.prog X.w) X.A (call f us) (EP X pins σ Q) X.xe s
noncomputable def TruR(X:Cx)(r:V->Hp->(Bool->Hp->Prop)->Prop):Prop:=
 ∀(pins:List (Addr×Obj))(s:Shared)(σ:St)(H:Hp)(x:V)(v:Value)(Q:Bool->Hp->Prop),Inv X pins σ H s->RelV x v->r x H Q->
  wpAny (model X.prog X.w) X.A (truthy v) (TP X pins σ Q) X.xe s
noncomputable def tOp(r:R2)(ta tb:TE):TE:=fun σ H Q=>ta σ H fun x H1=>tb σ H1 fun y H2=>r x y H2 Q
noncomputable def tUn(r:V->Hp->VK->Prop)(ta:TE):TE:=fun σ H Q=>ta σ H fun x H1=>r x H1 Q
noncomputable def rI(C:Int->Int->Prop)(g:Int->Int->V):R2:=fun x y H Q=>∃i j,x=.int i/\y=.int j/\C i j/\Q (g i j) H
noncomputable def rI0(g:Int->Int->V):R2:=fun x y H Q=>∃i j,x=.int i/\y=.int j/\Q (g i j) H
noncomputable def rU(g:Int->V):V->Hp->VK->Prop:=fun x H Q=>∃i,x=.int i/\Q (g i) H
section
variable {X:Cx}{a b c:Expr}{ta tb tc:TE}{pos:Pos}
theorem binT(ha:PE X a ta)(hb:PE X b tb){pins:List (Addr×Obj)}{s:Shared}{σ:St}{H:Hp}{R:V->V->Hp->Prop}(I:Inv X pins σ H s)
  (h:ta σ H fun x H1=>tb σ H1 fun y H2=>R x y H2){Q:Value->Shared->Prop}{f:Value->Value->Sem Value}
  (hf:∀v u s2 x y H2,Inv X pins σ H2 s2->RelV x v->RelV y u->R x y H2->wpAny (model X.prog X.w) X.A (f v u) Q X.xe s2):
  wpAny (model X.prog X.w) X.A (eval a X.env) (fun v s₁=>wpAny (model X.prog X.w) X.A (eval b X.env) (fun u s₂=>wpAny (model X.prog X.w) X.A (f v u) Q X.xe s₂) X.xe s₁) X.xe s:=by
 refine thn (ha pins s σ H _ I h) fun v s1 ⟨x,H1,I1,r1,q1⟩=>?_;refine thn (hb pins s1 σ H1 _ I1 q1) fun u s2 ⟨y,H2,I2,r2,q2⟩=>?_;exact hf v u s2 x y H2 I2 r1 r2 q2
theorem pe_op{op:Operator}{r:R2}(ho:OpR X (cY op) r)(ha:PE X a ta)(hb:PE X b tb):PE X (.BinOp a op b pos) (tOp r ta tb):=by
 intro pins s σ H Q I h;exact wpAny_BinOp (binT ha hb I h fun v u s2 x y H2 I2 rx ry q=>ho pins s2 σ H2 x y v u Q I2 rx ry q)
theorem pe_un{op:UnaryOp}{r:V->Hp->VK->Prop}(ho:UnR X (unaryOp op) r)(ha:PE X a ta):PE X (.UnaryOp op a pos) (tUn r ta):=by
 intro pins s σ H Q I h;exact UnaryOp_ (thn (ha pins s σ H _ I h) fun v s1 ⟨x,H1,I1,r1,q1⟩=>ho pins s1 σ H1 x v Q I1 r1 q1)
theorem opI{f:Value->Value->Sem Value}{C:Int->Int->Prop}{g:Int->Int->Int}
  (rule:∀(i j:Int)(t u:Tok)(s:Shared)(Q:Value->Shared->Prop)(E:Value->Shared->Prop),C i j->Q (.int (g i j) s.toks) {s with toks:=s.toks+1}->wpAny (model X.prog X.w) X.A (f (.int i t) (.int j u)) Q E s):
  OpR X f (rI C fun i j=>.int (g i j)):=by
 intro pins s σ H x y v u Q I rx ry h;obtain⟨i,j,rfl,rfl,hc,q⟩:=h;obtain⟨t,rfl⟩:=rx;obtain⟨t',rfl⟩:=ry;exact rule i j t t' s _ _ hc ⟨.int (g i j),H,I.tok _,⟨_,rfl⟩,q⟩
theorem opI0{f:Value->Value->Sem Value}{g:Int->Int->Int}
  (rule:∀(i j:Int)(t u:Tok)(s:Shared)(Q:Value->Shared->Prop)(E:Value->Shared->Prop),Q (.int (g i j) s.toks) {s with toks:=s.toks+1}->wpAny (model X.prog X.w) X.A (f (.int i t) (.int j u)) Q E s):
  OpR X f (rI0 fun i j=>.int (g i j)):=by
 intro pins s σ H x y v u Q I rx ry h;obtain⟨i,j,rfl,rfl,q⟩:=h;obtain⟨t,rfl⟩:=rx;obtain⟨t',rfl⟩:=ry;exact rule i j t t' s _ _ ⟨.int (g i j),H,I.tok _,⟨_,rfl⟩,q⟩
theorem opB0{f:Value->Value->Sem Value}{g:Int->Int->Bool}
  (rule:∀(i j:Int)(t u:Tok)(s:Shared)(Q:Value->Shared->Prop)(E:Value->Shared->Prop),Q (.bool (g i j)) s->wpAny (model X.prog X.w) X.A (f (.int i t) (.int j u)) Q E s):
  OpR X f (rI0 fun i j=>.bl (g i j)):=by
 intro pins s σ H x y v u Q I rx ry h;obtain⟨i,j,rfl,rfl,q⟩:=h;obtain⟨t,rfl⟩:=rx;obtain⟨t',rfl⟩:=ry;exact rule i j t t' s _ _ ⟨.bl (g i j),H,I,rfl,q⟩
noncomputable def CDiv(i j:Int):Prop:=0<j/\j<1073741824
noncomputable def Ex(i j:Int):Prop:=0<=j/\j<=1000000/\i.natAbs<2^64
noncomputable def yw(i j:Int):Prop:=(-(2^64)<i/\i<2^64)\/(-(2^64)<j/\j<2^64)
theorem yw.ok{i j:Int}(h:yw i j):IntMulOk i j:=by
 rcases h with⟨h1,h2⟩ |⟨h1,h2⟩
 ·exact .of_left (intBits_le_64 h1 h2)
 ·exact .of_right (intBits_le_64 h1 h2)
theorem xo(k:Nat):(0:Int)<=2^k:=by
 rw[two_pow_cast];exact Int.natCast_nonneg _
theorem op_add:OpR X (cY .Add) (rI0 fun i j=>.int (i+j)):=opI0 fun _ _ _ _ _ _ _ q=>add_int q
theorem op_sub:OpR X (cY .Sub) (rI0 fun i j=>.int (i-j)):=opI0 fun _ _ _ _ _ _ _ q=>sub_int q
theorem op_mul:OpR X (cY .Mult) (rI yw fun i j=>.int (i*j)):=opI fun _ _ _ _ _ _ _ hc q=>mul_int q hc.ok
theorem op_fdiv:OpR X (cY .FloorDiv) (rI CDiv fun i j=>.int (i/j)):=opI fun i j _ _ _ _ _ hc q=>by
 have h1:(0:Int)<j:=hc.1;have h2:j<1073741824:=hc.2;exact floordiv_int (by omega) (by rw[jt i (by omega)];exact q) (.inl (PyProof.noPylong_small (by omega)))
theorem op_mod:OpR X (cY .Mod) (rI (fun _ j=>0<j) fun i j=>.int (i%j)):=opI fun i j _ _ _ _ _ hc q=>by
 have h1:(0:Int)<j:=hc;exact mod_int' (by omega) (by rw[Int.fmod_eq_emod_of_nonneg i (by omega)];exact q)
theorem op_pow:OpR X (cY .Pow) (rI Ex fun i j=>.int (i^j.toNat)):=opI fun _ _ _ _ _ _ _ hc q=>pow_int_small hc.1 hc.2.1 hc.2.2 q
theorem op_shl:OpR X (cY .LShift) (rI Ex fun i j=>.int (i*2^j.toNat)):=opI fun _ _ _ _ _ _ _ hc q=>lshift_int_small hc.1 hc.2.1 hc.2.2 q
theorem op_shr:OpR X (cY .RShift) (rI (fun _ j=>0<=j) fun i j=>.int (i/2^j.toNat)):=opI fun i j _ _ _ _ _ hc q=>
 rshift_int hc (by rw[jt i (xo _)];exact q)
theorem op_and:OpR X (cY .BitAnd) (rI0 fun i j=>.int (Builtin.bitAnd i j)):=opI0 fun _ _ _ _ _ _ _ q=>and_int q
theorem op_xor:OpR X (cY .BitXor) (rI0 fun i j=>.int (Builtin.bitXor i j)):=opI0 fun _ _ _ _ _ _ _ q=>xor_int q
theorem unI{f:Value->Sem Value}{g:Int->Int}
  (rule:∀(i:Int)(t:Tok)(s:Shared)(Q:Value->Shared->Prop)(E:Value->Shared->Prop),Q (.int (g i) s.toks) {s with toks:=s.toks+1}->wpAny (model X.prog X.w) X.A (f (.int i t)) Q E s):
  UnR X f (rU fun i=>.int (g i)):=by
 intro pins s σ H x v Q I rx h;obtain⟨i,rfl,q⟩:=h;obtain⟨t,rfl⟩:=rx;exact rule i t s _ _ ⟨.int (g i),H,I.tok _,⟨_,rfl⟩,q⟩
theorem BD:UnR X (unaryOp .USub) (rU fun i=>.int (-i)):=unI fun _ _ _ _ _ q=>neg_int q
end
section
variable {X:Cx}{a b c:Expr}{ta tb tc:TE}{pos:Pos}
theorem n9{pins:List (Addr×Obj)}{σ:St}{H:Hp}{s:Shared}{Q:VK}{k k':Bool}(I:Inv X pins σ H s)(q:Q (.bl k) H)(e:k=k'):EP X pins σ Q (.bool k') s:=by
 subst e;exact⟨.bl k,H,I,rfl,q⟩
theorem op_lt:OpR X (ck .Lt) (rI0 fun i j=>.bl (decide (i<j))):=opB0 fun _ _ _ _ _ _ _ q=>lt_int q
theorem op_le:OpR X (ck .LtE) (rI0 fun i j=>.bl (decide (i<=j))):=opB0 fun _ _ _ _ _ _ _ q=>le_int q
theorem op_gt:OpR X (ck .Gt) (rI0 fun i j=>.bl (decide (j<i))):=opB0 fun _ _ _ _ _ _ _ q=>gt_int q
theorem op_ge:OpR X (ck .GtE) (rI0 fun i j=>.bl (decide (j<=i))):=opB0 fun _ _ _ _ _ _ _ q=>ge_int q
theorem Ar:OpR X (ck .In) (fun x y H Q=>∃i j,x=.str i/\y=.str j/\Q (.bl (!(fm j i 0 j.length 1).isEmpty)) H):=by
 intro pins s σ H x y v u Q I rx ry h;obtain⟨i,j,rfl,rfl,q⟩:=h;obtain⟨t,rfl⟩:=rx;obtain⟨t',rfl⟩:=ry;exact in_str (n9 I q rfl)
theorem op_isN:OpR X (ck .Is) (fun x y H Q=>y=.non/\Q (.bl (decide (x=.non))) H):=by
 intro pins s σ H x y v u Q I rx ry h;obtain⟨rfl,q⟩:=h;cases ry;refine is_none_gen (n9 I q ?_);cases x<;>first
  | (cases rx;rfl)
  | (obtain⟨t,rfl⟩:=rx;rfl)
theorem op_notN:OpR X (ck .IsNot) (fun x y H Q=>y=.non/\Q (.bl (!decide (x=.non))) H):=by
 intro pins s σ H x y v u Q I rx ry h;obtain⟨rfl,q⟩:=h;cases ry;refine isnot_none_gen (n9 I q ?_);cases x<;>first
  | (cases rx;rfl)
  | (obtain⟨t,rfl⟩:=rx;rfl)
theorem OpR.or{f:Value->Value->Sem Value}{r r':R2}(h:OpR X f r)(h':OpR X f r'):OpR X f (fun x y H Q=>r x y H Q\/r' x y H Q):=by
 intro pins s σ H x y v u Q I rx ry q;rcases q with q|q
 ·exact h pins s σ H x y v u Q I rx ry q
 ·exact h' pins s σ H x y v u Q I rx ry q
theorem yW{op:CmpOp}{r:R2}(ho:OpR X (ck op) r)(ha:PE X a ta)(hb:PE X b tb)(hm:k9 op b=false):PE X (.Compare a [op] [b] pos) (tOp r ta tb):=by
 intro pins s σ H Q I h;exact wpAny_Compare1 (binT ha hb I h fun v u s2 x y H2 I2 rx ry q=>ho pins s2 σ H2 x y v u Q I2 rx ry q) hm
noncomputable def ow(t:TE):TT:=fun σ H Q=>t σ H fun x H'=>∃k,x=.bl k/\Q k H'
theorem yQ{op:CmpOp}{r:R2}(ho:OpR X (ck op) r)(ha:PE X a ta)(hb:PE X b tb)(hm:k9 op b=false):PT X (.Compare a [op] [b] pos) (ow (tOp r ta tb)):=by
 intro pins s σ H Q I h;refine wpAny_isTrue_Compare1 (thn (ha pins s σ H _ I h) fun v s1 ⟨x,H1,I1,r1,q1⟩=>thn (hb pins s1 σ H1 _ I1 q1) fun u s2 ⟨y,H2,I2,r2,q2⟩=>
  thn (ho pins s2 σ H2 x y v u _ I2 r1 r2 q2) fun c s3 ⟨z,H3,I3,r3,k,e,q3⟩=>?_) hm
 subst e;cases r3;exact cB ⟨H3,I3,q3⟩
noncomputable def qf(r r':R2)(ta tb tc:TE):TE:=fun σ H Q=>ta σ H fun x H1=>tb σ H1 fun y H2=>r x y H2 fun z H3=>∃k,z=.bl k/\
 (if k=true then tc σ H3 fun w' H4=>r' y w' H4 Q else Q (.bl false) H3)
theorem Dj{op op':CmpOp}{r r':R2}(ho:OpR X (ck op) r)(ho':OpR X (ck op') r')(ha:PE X a ta)(hb:PE X b tb)(hc:PE X c tc)
  (hm:lastMarks [op,op'] [b,c]=false:=by with_unfolding_all rfl):PE X (.Compare a [op,op'] [b,c] pos) (qf r r' ta tb tc):=by
 intro pins s σ H Q I h;refine Compare_chain (thn (ha pins s σ H _ I h) fun v s1 ⟨x,H1,I1,r1,q1⟩=>chain_link (thn (hb pins s1 σ H1 _ I1 q1) fun u s2 ⟨y,H2,I2,r2,q2⟩=>
  thn (ho pins s2 σ H2 x y v u _ I2 r1 r2 q2) fun d s3 ⟨z,H3,I3,r3,k,e,q3⟩=>?_)) hm
 subst e;cases r3;refine cB ?_;cases k with
 |false=>exact ite_ff ⟨.bl false,H3,I3,rfl,q3⟩
 |true=>exact ite_tt (chain_last (thn (hc pins s3 σ H3 _ I3 q3) fun w' s4 ⟨z',H4,I4,r4,q4⟩=>ho' pins s4 σ H4 y z' u w' Q I4 r2 r4 q4))
theorem CU{op op':CmpOp}{r r':R2}(ho:OpR X (ck op) r)(ho':OpR X (ck op') r')(ha:PE X a ta)(hb:PE X b tb)(hc:PE X c tc)
  (hm:lastMarks [op,op'] [b,c]=false:=by with_unfolding_all rfl):PT X (.Compare a [op,op'] [b,c] pos) (ow (qf r r' ta tb tc)):=by
 intro pins s σ H Q I h;refine isTrue_chain (thn (ha pins s σ H _ I h) fun v s1 ⟨x,H1,I1,r1,q1⟩=>test_link (thn (hb pins s1 σ H1 _ I1 q1) fun u s2 ⟨y,H2,I2,r2,q2⟩=>
  thn (ho pins s2 σ H2 x y v u _ I2 r1 r2 q2) fun d s3 ⟨z,H3,I3,r3,k,e,q3⟩=>?_)) hm
 subst e;cases r3;refine cB ?_;cases k with
 |false=>
  obtain⟨k',e',q'⟩:=q3;cases e';exact ite_ff ⟨H3,I3,q'⟩
 |true=>
  refine ite_tt (test_last (thn (hc pins s3 σ H3 _ I3 q3) fun w' s4 ⟨z',H4,I4,r4,q4⟩=>thn (ho' pins s4 σ H4 y z' u w' _ I4 r2 r4 q4) fun d' s5 ⟨z2,H5,I5,r5,k2,e2,q5⟩=>?_));subst e2;cases r5;exact cB ⟨H5,I5,q5⟩
noncomputable def TruV(K:aa)(x:V)(H:Hp)(k:Bool):Prop:=
 match x with
 |.non=>k=false
 |.bl b=>k=b
 |.int i=>k=(i != 0)
 |.str y=>y.length<=sizeLine/\k=((y.length:Int) != 0)
 |.byt y=>y.size<=sizeLine/\k=((y.size:Int) != 0)
 |.ref p=>(∃xs,SqL K H p xs/\k= !xs.isEmpty)\/(∃xs,SqT K H p xs/\k= !xs.isEmpty)\/∃kvs,H p=some (.dK kvs)/\k= !kvs.isEmpty
 |_=>False
theorem x4{κ:Type}{kvs:List (κ×V)}{vs:List (κ×Value)}(r:KV kvs vs):(!vs.isEmpty)= !kvs.isEmpty:=by
 cases r<;>rfl
theorem qH{xs:List V}{its:List Value}(r:bJ xs its):(!its.toArray.isEmpty)= !xs.isEmpty:=by
 cases r<;>simp
theorem l7:(sizeLine:Nat)<2^63:=by rw[pH];decide
theorem tru_ok:TruR X (fun x H Q=>∃k,TruV X.K x H k/\Q k H):=by
 intro pins s σ H x v Q I rx h;obtain⟨k,e,q⟩:=h;have hl:=l7;have hs:sizeLine=16777216:=pH;cases x with
 |non=>
  cases rx;have e':k=false:=e;subst e';exact truthy_none ⟨H,I,q⟩
 |bl b=>
  cases rx;have e':k=b:=e;subst e';exact cB ⟨H,I,q⟩
 |int i=>
  obtain⟨t,rfl⟩:=rx;have e':k=(i != 0):=e;subst e';exact PySem.P.truthy_int ⟨H,I,q⟩
 |str y=>
  obtain⟨t,rfl⟩:=rx;obtain⟨hy,e'⟩:y.length<=sizeLine/\k=((y.length:Int) != 0):=e;subst e';exact PySem.P.truthy_str (by omega) ⟨H,I.tok _,q⟩
 |byt y=>
  obtain⟨t,rfl⟩:=rx;obtain⟨hy,e'⟩:y.size<=sizeLine/\k=((y.size:Int) != 0):=e;subst e';exact PySem.W.truthy_bytes (by omega) ⟨H,I.tok _,q⟩
 |ref p=>
  cases rx;have e':(∃xs,SqL X.K H p xs/\k= !xs.isEmpty)\/(∃xs,SqT X.K H p xs/\k= !xs.isEmpty)\/∃kvs,H p=some (.dK kvs)/\k= !kvs.isEmpty:=e;rcases e' with⟨xs,hx,e'⟩ |⟨xs,hx,e'⟩ |⟨kvs,hx,e'⟩
  ·subst e'
   obtain⟨its,r,pl,hz⟩:=I.list hx;have hlen:=r.length;exact wpAny_truthy_list pl.isList (by simp only[ay];omega) ⟨H,I.tok _,by rw[qH r];exact q⟩
  ·subst e'
   obtain⟨its,r,pl,hz⟩:=I.tuple hx;have hlen:=r.length;exact truthy_tuple pl (by simp only[ay];omega) ⟨H,I.tok _,by rw[qH r];exact q⟩
  ·subst e'
   obtain⟨hz,hS,vs,r,m⟩:kvs.length<=sizeLine/\(p==cL)=false/\∃vs,KV kvs vs/\s.heap.DictOf (bq X.prog X.w) p vs:=I.hok p _ hx;have hlen:kvs.length=vs.length:=nG r;exact wpAny_truthy_dict hS m (by omega) ⟨H,I.tok _,by rw[x4 r];exact q⟩
 |_=>exact(show False from e).elim
theorem jh(ha:PE X a ta)(he:∀whole,isTrue a X.env whole=(do let v<-whole;standAt a.pos;holding [v] (truthy v))):
  PT X a (fun σ H Q=>ta σ H fun x H'=>∃k,TruV X.K x H' k/\Q k H'):=by
 intro pins s σ H Q I h;exact isTrue_plain (thn (ha pins s σ H _ I h) fun v s1 ⟨x,H1,I1,r1,q1⟩=>tru_ok pins s1 σ H1 x v Q I1 r1 q1) (he _)
theorem xP:OpR X (cY .Add) (fun x y H Q=>∃i j,x=.str i/\y=.str j/\i.length+j.length<=sizeLine/\Q (.str (i++j)) H):=by
 intro pins s σ H x y v u Q I rx ry h;obtain⟨i,j,rfl,rfl,hz,q⟩:=h;obtain⟨t,rfl⟩:=rx;obtain⟨t',rfl⟩:=ry;exact add_str (fun t' tk=>⟨.str (i++j),H,I.tok _,⟨_,rfl⟩,q⟩) hz
theorem vals1{x:V}{us:List Value}(r:bJ [x] us):∃u,us=[u]/\RelV x u:=by
 cases r with
 |cons r1 r2=>cases r2;exact⟨_,rfl,r1⟩
theorem vals2{x y:V}{us:List Value}(r:bJ [x,y] us):∃u w',us=[u,w']/\RelV x u/\RelV y w':=by
 cases r with
 |cons r1 r2=>
  cases r2 with
  |cons r3 r4=>cases r4;exact⟨_,_,rfl,r1,r3⟩
theorem AS(hc:X.calm=true):eD X (.builtin "max") (fun xs H Q=>∃i j,xs=[.int i,.int j]/\Q (.int (if j>i then j else i)) H):=by
 intro pins s σ H xs us Q I r h;obtain⟨i,j,rfl,q⟩:=h;obtain⟨u,w',rfl,⟨t,rfl⟩,⟨t',rfl⟩⟩:=vals2 r;refine max_two_ints (I.ok.hd hc) fun h' tk k=>⟨_,H,I.kept k,?_,q⟩;by_cases hj:j>i
 ·rw[if_pos hj,if_pos hj];exact⟨_,rfl⟩
 ·rw[if_neg hj,if_neg hj];exact⟨_,rfl⟩
theorem AR(hc:X.calm=true):eD X (.builtin "min") (fun xs H Q=>∃i j,xs=[.int i,.int j]/\Q (.int (if j<i then j else i)) H):=by
 intro pins s σ H xs us Q I r h;obtain⟨i,j,rfl,q⟩:=h;obtain⟨u,w',rfl,⟨t,rfl⟩,⟨t',rfl⟩⟩:=vals2 r;refine min_two_ints (I.ok.hd hc) fun h' tk k=>⟨_,H,I.kept k,?_,q⟩;by_cases hj:j<i
 ·rw[if_pos hj,if_pos hj];exact⟨_,rfl⟩
 ·rw[if_neg hj,if_neg hj];exact⟨_,rfl⟩
theorem AV:eD X (.type "int") (fun xs H Q=>(∃i,xs=[.int i]/\Q (.int i) H)\/∃k,xs=[.bl k]/\Q (.int (if k then 1 else 0)) H):=by
 intro pins s σ H xs us Q I r h;rcases h with⟨i,rfl,q⟩ |⟨k,rfl,q⟩
 ·obtain⟨u,rfl,t,rfl⟩:=vals1 r
  exact call_int_int ⟨.int i,H,I,⟨_,rfl⟩,q⟩
 ·obtain⟨u,rfl,r1⟩:=vals1 r
  cases r1;exact call_int_bool ⟨.int (if k then 1 else 0),H,I.tok _,⟨_,rfl⟩,q⟩
end
structure ObjM(h:Heap)(x dx C:Addr)(mA:Str->Option Value):Prop where
 obj:h.get? x=some (rA C dx)
 ns:h.Ns1 dx mA
 ne:dx≠x
theorem Az{h:Heap}{dx:Addr}{mA:Str->Option Value}(n:h.Ns1 dx mA):∃od,h.get? dx=some od/\∀name,sd name od=some (mA name):=by
 obtain⟨o,es,ep,ho,hd,hk,_,hm⟩:=n;refine⟨o,ho,fun name=>?_⟩;have e:=hm name;unfold nsFind findBy at e;rw[<-Array.find?_toList]at e;unfold sd;rw[hd];dsimp only;split
 ·rename_i y q
  rw[q]at e;exact congrArg some e
 ·rename_i q
  rw[q]at e;have a:es.toList.any (·.refKey)=false:=by
   rw[List.any_eq_false];intro y hy;obtain⟨z,t,hkey⟩:=hk y (Bj.mp hy);simp[DictEntry.refKey,hkey]
  have a':¬es.toList.any (·.refKey)=true:=by rw[a];exact bp
  rw[if_neg a'];exact congrArg some e
theorem ObjM.look{h:Heap}{x dx C:Addr}{mA:Str->Option Value}(I:ObjM h x dx C mA):∃od,PySem.W.InstAt h x (rA C dx) C (some od)/\∀name,sd name od=some (mA name):=
 let⟨od,ho,hl⟩:=Az I.ns
 ⟨od,⟨I.obj,rfl,rfl,ho⟩,hl⟩
noncomputable def putF(f:Str)(v:V):List (Str×V)->List (Str×V)
 | []=>[(f,v)]
 | (g,x)::r=>if g=f then(g,v)::r else(g,x)::putF f v r
theorem k7.some_of{v:V}{o:Option Value}(r:k7 (some v) o):∃u,o=some u/\RelV v u:=by
 cases o with
 |none=>exact(show False from r).elim
 |some u=>exact⟨u,rfl,r⟩
section
variable {P:Program}{w:World}{H H':Hp}{h h':Heap}{a C dx:Addr}{fs fs':List (Str×V)}
theorem ins_get(hok:HOk P w H h)(e:H a=some (.ins C dx fs)):∃mA,ObjM h a dx C mA/\(∀f,k7 (fs.lookup f) (mA f))/\yz mA (fs.map (·.1))/\fs.length<=1000/\H dx=some (.own a):=by
 obtain⟨d,z,ne,ob,mA,n,r,q⟩:=(show cJ P w H h a (.ins C dx fs)from hok a _ e);exact⟨mA,⟨ob,n,ne⟩,r,q,z,d⟩
end
structure Cls(K:aa)(C:Addr):Prop where
 pg:EC K C Str.empty=true
 hd:PySem.W.hasDictIn K C=true
 po:PySem.W.plainOver K C=true
 sa:iI K (.ref C) "__setattr__"=some (some (.builtin "object.__setattr__"))
theorem Cls.get{K:aa}{C:Addr}(c:Cls K C)(f:Str):EC K C f=true:=c.pg
noncomputable def Eu(K:aa)(C:Addr)(f:Str):Prop:=iI K (.ref C) f=some none
structure Meth(K:aa)(C:Addr)(m:Str)(f:Addr):Prop where
 at_:iI K (.ref C) m=some (some (.ref f))
 fn:PySem.W.isFn K (.ref f)=true
 kp:b9 K (.ref f)=true
noncomputable def tFld(K:aa)(ta:TE)(f:Str):TE:=fun σ H Q=>ta σ H fun x H1=>∃a C dx fs v,x=.ref a/\H1 a=some (.ins C dx fs)/\Cls K C/\Eu K C f/\fs.lookup f=some v/\Q v H1
noncomputable def sFld(K:aa)(ta tv:TE)(f:Str):TS:=fun D σ H=>tv σ H fun y H1=>ta σ H1 fun x H2=>∃a C dx fs,x=.ref a/\H2 a=some (.ins C dx fs)/\Cls K C/\Eu K C f/\fs.length<1000/\
 D.nx σ (upd H2 a (.ins C dx (putF f y fs)))
section
variable {X:Cx}{pins:List (Addr×Obj)}{σ:St}{H:Hp}{s:Shared}{A:Around}{E:Value->Shared->Prop}{Q:Value->Shared->Prop}{c:Value}{b:Bool}
inductive j6 (K:aa) (H:Hp):V->Value->Prop where
 |non:j6 K H .non (.type "NoneType")
 |bl (x:Bool):j6 K H (.bl x) (.type "bool")
 |int (i:Int):j6 K H (.int i) (.type "int")
 |str (x:Str):j6 K H (.str x) (.type "str")
 |flt (x:UInt64):j6 K H (.flt x) (.type "float")
 |lst {a:Addr} {xs:List V} (e:H a=some (.lst xs)):j6 K H (.ref a) (.type "list")
 |frz {a:Addr} {o:Obj} {xs:List V} (e:H a=some (.frz o (.lst xs))):j6 K H (.ref a) (.type "list")
 |tup {a:Addr} {xs:List V} (e:H a=some (.tup xs)):j6 K H (.ref a) (.type "tuple")
 |dK {a:Addr} {kvs:List (Key×V)} (e:H a=some (.dK kvs)):j6 K H (.ref a) (.type "dict")
 |dT {a:Addr} {kvs:List (List Key×V)} (e:H a=some (.dT kvs)):j6 K H (.ref a) (.type "dict")
 |ins {a C dx:Addr} {fs:List (Str×V)} (e:H a=some (.ins C dx fs)) (cl:Cls K C) (ha:iI K (.ref C) "__class__"=some (some (.builtin "object.__class__")))
   (hn:PySem.W.specialIn K (.builtin "object.__class__") "__get__"=some (some (.builtin "getset_descriptor.__get__"))) (htk:PySem.W.takesIn K (.builtin "object.__class__")=some true)
   (hm:PySem.W.mroIn K C (.type "object")=some true):j6 K H (.ref a) (.ref C)
theorem sQ{x:V}{u t:Value}(I:Inv X pins σ H s)(rx:RelV x u)(ty:j6 X.K H x t)(e:fY X.K t c=some b)(h:∀tk,Q (.bool b) {s with toks:=tk}):
  wpAny (model X.prog X.w) A (call (.builtin "isinstance") [u,c]) Q E s:=by
 cases ty with
 |non=>cases(show u=bN from rx);exact cy PySem.W.kitx_none I.kIn True.intro e (fun z=>nomatch z) h
 |bl y=>cases(show u=uW y from rx);exact cy PySem.W.kitx_bool I.kIn True.intro e (fun z=>nomatch z) h
 |int i=>obtain⟨t,q⟩:=(show ∃t,u=w8 i t from rx);cases q;exact cy PySem.W.kitx_int I.kIn True.intro e (fun z=>nomatch z) h
 |str y=>obtain⟨t,q⟩:=(show ∃t,u=iX y t from rx);cases q;exact cy PySem.W.kitx_str I.kIn True.intro e (fun z=>nomatch z) h
 |flt y=>obtain⟨t,q⟩:=(show ∃t,u=Value.float y t from rx);cases q;exact cy PySem.W.kitx_float I.kIn True.intro e (fun z=>nomatch z) h
 | @lst a xs ea=>
  cases(show u=bI a from rx);obtain⟨_,_,n,_,h1⟩:=(show cJ X.prog X.w H s.heap a (.lst xs)from I.hok a _ ea);exact cy Bm I.kIn ⟨_,h1,rfl⟩ e (fun z=>nomatch z) h
 | @frz a ob xs ea=>
  cases(show u=bI a from rx);obtain⟨_,_,_,n,_,h1⟩:=(show cJ X.prog X.w H s.heap a (.frz ob (.lst xs))from I.hok a _ ea);exact cy Bm I.kIn ⟨_,h1,rfl⟩ e (fun z=>nomatch z) h
 | @tup a xs ea=>
  cases(show u=bI a from rx);obtain⟨_,_,_,p⟩:=(show cJ X.prog X.w H s.heap a (.tup xs)from I.hok a _ ea);obtain⟨o,h1,h2,_⟩:=p;exact cy PySem.W.kitx_tuple I.kIn ⟨o,h1,h2⟩ e (fun z=>nomatch z) h
 | @dK a kvs ea=>
  cases(show u=bI a from rx);obtain⟨_,_,vs,_,p⟩:=(show cJ X.prog X.w H s.heap a (.dK kvs)from I.hok a _ ea);obtain⟨o,es,ep,h1,h2,_⟩:=p;exact cy Bn I.kIn ⟨o,h1,h2.1⟩ e (fun z=>nomatch z) h
 | @dT a kvs ea=>
  cases(show u=bI a from rx);obtain⟨_,_,xs,_,o,es,ep,h1,h2,_⟩:=(show cJ X.prog X.w H s.heap a (.dT kvs)from I.hok a _ ea);exact cy Bn I.kIn ⟨o,h1,h2.1⟩ e (fun z=>nomatch z) h
 | @ins a C dx fs ea cl ha hn htk hm=>
  cases(show u=bI a from rx);obtain⟨mA,O,_⟩:=ins_get I.hok ea;obtain⟨od,J,_⟩:=O.look;exact cy (PySem.W.kitx_own (cl.get _) cl.hd ha hn htk hm) I.kIn J e (fun z=>nomatch z) h
end
structure jc(k:Nat)(A:Around):Prop where
 hd:A.handled=none
 dp:A.depth+3*k+5<recursionLimit
 un:A.units+16*k+200<cLine
theorem jc.mono{j k:Nat}{A:Around}(r:jc k A)(h:j<=k):jc j A:=⟨r.hd,by have :=r.dp;omega,by have :=r.un;omega⟩
theorem jc.deeper{k:Nat}{A:Around}(r:jc (k+1) A)(env:Env):jc k (A.deeper env):=
 ⟨r.hd,by have :=r.dp;show A.depth+1+3*k+5<_;omega,by have :=r.un;show A.units+3+16*k+200<_;omega⟩
theorem jc.depth{k:Nat}{A:Around}(r:jc k A):A.depth<recursionLimit:=by have :=r.dp;omega
theorem jc.units{k:Nat}{A:Around}(r:jc k A):A.units+64<cLine:=by have :=r.un;omega
noncomputable def lZ:TA:=fun _ H Q=>Q [] H
noncomputable def gz(ta:TE)(tr:TA):TA:=fun σ H Q=>ta σ H fun x H1=>tr σ H1 fun xs H2=>Q (x::xs) H2
section
variable {X:Cx}{e:Expr}{es:List Expr}{te:TE}{t:TA}{pos:Pos}
theorem jA:PA X [] lZ:=fun _ _ _ _ H Q I h=>pM ⟨[],H,I,.nil,h⟩
theorem fg(ha:PE X e te)(hr:PA X es t)(hs:bC (e::es) X.env=(false,eval e X.env)::bC es X.env:=by rfl):PA X (e::es) (gz te t):=by
 intro pos pins s σ H Q I h;rw[hs];show wpAny _ _ (spliced ((false,eval e X.env)::backTo pos (bC es X.env))) _ _ s;refine eA (thn (ha pins s σ H _ I h) fun u s1 ⟨x,H1,I1,r1,q1⟩=>?_);exact thn (hr pos pins s1 σ H1 _ I1 q1) fun us s2 ⟨xs,H2,I2,r2,q2⟩=>⟨x::xs,H2,I2,.cons r1 r2,q2⟩
noncomputable def tTup(t:TA):TE:=fun σ H Q=>t σ H fun xs H1=>xs.length<=sizeLine/\∀p,H1 p=none->Q (.ref p) (upd H1 p (.tup xs))
noncomputable def tLst(t:TA):TE:=fun σ H Q=>t σ H fun xs H1=>xs.length<=sizeLine/\∀p,H1 p=none->Q (.ref p) (upd H1 p (.lst xs))
theorem pe_tup{x1}(h:PA X es t):PE X (.Tuple es x1 pos) (tTup t):=by
 intro pins s σ H Q I hq;refine wpAny_Tuple_spliced (thn (h pos pins s σ H _ I hq) fun us s1 ⟨xs,H1,I1,r,z,q⟩=>⟨by rw[<-r.length];exact z,?_⟩);have hf:H1 s1.heap.objs.size=none:=I1.hok.fresh (ar _);refine⟨.ref s1.heap.objs.size,upd H1 s1.heap.objs.size (.tup xs),I1.laid (t':=s1.toks) (fun b u e=>ae _ e) (ar _) ?_,rfl,q _ hf⟩;exact⟨z,us,r,⟨_,aC _ rfl,rfl,_,rfl⟩⟩
theorem pe_lst(h:PA X es t):PE X (.List es pos) (tLst t):=by
 intro pins s σ H Q I hq;refine wpAny_List_spliced (thn (h pos pins s σ H _ I hq) fun us s1 ⟨xs,H1,I1,r,z,q⟩=>⟨by rw[<-r.length];exact z,?_⟩);have hf:H1 s1.heap.objs.size=none:=I1.hok.fresh (ar _);refine⟨.ref s1.heap.objs.size,upd H1 s1.heap.objs.size (.lst xs),I1.laid (t':=s1.toks) (fun b u e=>ae _ e) (ar _) ?_,rfl,q _ hf⟩;exact⟨z,us,0,r,aC _ rfl⟩
end
noncomputable abbrev Sp:=List V->Hp->VK->XK->Prop
noncomputable abbrev CXT:=List Env->Hp->Shared->XK->Value->Shared->Prop
structure Env0(P:Program)(w:World)(K:aa)(mg:Str->Option Value)(base:Heap)(A:Around)(outer:List Env)(s:Shared)(H:Hp):Prop where
 frames:A.frames=some outer
 mod:Mod K mg base
 bs:∀b o,base.get? b=some o->s.heap.get? b=some o/\H b=none
 bsz:base.objs.size<=s.heap.objs.size
 uA:s.heap.FunFrames base outer
 frf:∀b∈frs outer,H b=none
 hok:HOk P w H s.heap
 bare:kY s.gens
noncomputable def CE(outer:List Env)(P:Program)(w:World)(H:Hp)(s:Shared)(Q:VK)(u:Value)(s':Shared):Prop:=
 ∃v H',s'.os=s.os/\kY s'.gens/\Un (frs outer) [] H H' s.heap s'.heap/\HOk P w H' s'.heap/\RelV v u/\Q v H'
noncomputable def CR(CX:CXT)(outer:List Env)(P:Program)(w:World)(H:Hp)(s:Shared)(Q:VK)(E:XK)(r:Result)(s':Shared):Prop:=
 match r with
 |.ok (.ret u)=>CE outer P w H s Q u s'
 |.ok _=>False
 |.error e=>CX outer H s E e s'
structure iG(P:Program)(w:World)(K:aa)(mg:Str->Option Value)(base:Heap)(CX:CXT)(k:Nat)(f:Addr)(fd:fI)(ps:List Str)(sp:Sp):Prop where
 len:∀vs H Q E,sp vs H Q E->vs.length=ps.length
 run:∀(A:Around)(outer:List Env)(s:Shared)(H:Hp)(args:Args)(us:List Value)(vs:List V)(Q:VK)(E:XK),jc k A->Env0 P w K mg base A outer s H->BindsTo s fd args (ps.zip us)->bJ vs us->sp vs H Q E->
  jH (model P w) A (.call (.ref f) args) (CR CX outer P w H s Q E) s
section
variable {X:Cx}{pins:List (Addr×Obj)}{σ:St}{H:Hp}{s s':Shared}
theorem Inv.env0(I:Inv X pins σ H s):Env0 X.prog X.w X.K X.mg X.base X.A X.stack s H:=
 ⟨I.ok.frames,I.ok.mod,I.bs,aU I.ok.bsz I.sz,I.stack,I.tP,I.hok,I.bare⟩
theorem Inv.after{Q:VK}{u:Value}(I:Inv X pins σ H s)(h:CE X.stack X.prog X.w H s Q u s'):EP X pins σ Q u s':=by
 obtain⟨v,H',os,bare,un,hok,r,q⟩:=h;obtain⟨hh,g,d,t,os'⟩:=s';obtain rfl:os'=s.os:=os;exact⟨v,H',I.call (h':=hh) (g':=g) (d':=d) (t':=t) (ch:=[]) un hok bare (fun b z=>absurd z (by simp)),r,q⟩
end
noncomputable def vo(sp:Sp)(dvs:List V)(E:XK)(t:TA):TE:=fun σ H Q=>t σ H fun vs H1=>sp (vs++dvs) H1 Q E
noncomputable def tMeth(C:Addr)(m:Str)(sp:Sp)(dvs:List V)(E:XK)(ta:TE)(t:TA):TE:=fun σ H Q=>ta σ H fun x H1=>∃a dx fs,x=.ref a/\H1 a=some (.ins C dx fs)/\fs.lookup m=none/\
 t σ H1 fun vs H2=>sp (x::(vs++dvs)) H2 Q E
noncomputable def tMake(C:Addr)(sp:Sp)(dvs:List V)(E:XK)(t:TA):TE:=fun σ H Q=>t σ H fun vs H1=>∀x dx,H1 x=none->H1 dx=none->dx≠x->
 sp (.ref x::(vs++dvs)) (upd (upd H1 dx (.own x)) x (.ins C dx [])) (fun v H2=>v=.non/\Q (.ref x) H2) E
noncomputable def Binds(K:aa)(fd:fI)(ps:List Str)(ds:List Value):Prop:=
 ∀(s:Shared)(us:List Value),K.In s.heap->(us++ds).length=ps.length->BindsTo s fd ⟨us,[]⟩ (ps.zip (us++ds))
theorem Binds.all{K:aa}{fd:fI}{ps:List Str}(h:∀us:List Value,us.length=ps.length->bindArgs fd ⟨us,[]⟩=pure (ps.zip us)):Binds K fd ps []:=fun s us _ hl=>by
 rw[cE]at hl⊢;exact .of_eq (h us hl)
section
variable {X:Cx}{CX:CXT}{k:Nat}{f C:Addr}{fd:fI}{ps:List Str}{sp:Sp}{dvs:List V}{ds:List Value}{E:XK}{x m:Str}{p pos apos:Pos}{e o:Expr}{es:List Expr}{ta:TE}{t:TA}
structure Mk(K:aa)(C f:Addr):Prop where
 makes:PySem.W.makesIn K C=true
 init:iI K (.ref C) "__init__"=some (some (.ref f))
 fn:PySem.W.isFn K (.ref f)=true
 kp:b9 K (.ref C)=true
end
structure uQ(N P:List Str)(sc:Scope):Prop where
 kind:sc.kind=.function
 co:sc.isCoroutine=false
 gen:sc.isGenerator=false
 nd:N.Nodup
 pre:N.take P.length=P
 par:∀x∈P,sc.names.lookup x=some .local\/sc.names.lookup x=some .cell
 nofree:∀y∈sc.names,y.2≠.free
theorem tD{kindOf:Str->Option cZ}{x:Str}:∀{binds:List (Str×Value)}{m:Str->Option Value},(∀v,(x,v)∉binds)->bindL kindOf binds m x=m x
 | [],_,_=>rfl
 | (n,v)::r,m,h=>by
  unfold bindL;rw[tD fun w hw=>h w (aF _ hw)];split
  ·have :x≠n:=by rintro rfl;exact h v au
   simp[this]
  ·rfl
theorem tF{kindOf:Str->Option cZ}{x:Str}:∀{binds:List (Str×Value)}{m:Str->Option Value},(∀v,(x,v)∉binds)->bindC kindOf binds m x=m x
 | [],_,_=>rfl
 | (n,v)::r,m,h=>by
  unfold bindC;rw[tF fun w hw=>h w (aF _ hw)];split
  ·rfl
  ·have :x≠n:=by rintro rfl;exact h v au
   simp[this]
theorem tE{kindOf:Str->Option cZ}{x:Str}{v:Value}:∀{P:List Str}{vs:List Value}{i:Nat}{m:Str->Option Value},P.Nodup->P[i]? =some x->vs[i]? =some v->kindOf x=some .local->
  bindL kindOf (P.zip vs) m x=some v
 | [],_,_,_,_,h,_,_=>by simp at h
 |_::_,[],_,_,_,_,h,_=>by simp at h
 |p::P,w::vs,0,m,nd,h1,h2,hk=>by
  simp at h1 h2;subst h1;subst h2;show bindL kindOf ((p,w)::P.zip vs) m p=_;unfold bindL;rw[tD fun v hv=>(cb.mp nd).1 (tH hv).1,if_pos hk];simp
 |p::P,w::vs,i+1,m,nd,h1,h2,hk=>by
  show bindL kindOf ((p,w)::P.zip vs) m x=_;unfold bindL;exact tE (i:=i) (cb.mp nd).2 (by simpa using h1) (by simpa using h2) hk
theorem tG{kindOf:Str->Option cZ}{x:Str}{v:Value}:∀{P:List Str}{vs:List Value}{i:Nat}{m:Str->Option Value},P.Nodup->P[i]? =some x->vs[i]? =some v->kindOf x≠some .local->
  bindC kindOf (P.zip vs) m x=some v
 | [],_,_,_,_,h,_,_=>by simp at h
 |_::_,[],_,_,_,_,h,_=>by simp at h
 |p::P,w::vs,0,m,nd,h1,h2,hk=>by
  simp at h1 h2;subst h1;subst h2;show bindC kindOf ((p,w)::P.zip vs) m p=_;unfold bindC;rw[tF fun v hv=>(cb.mp nd).1 (tH hv).1,if_neg hk];simp
 |p::P,w::vs,i+1,m,nd,h1,h2,hk=>by
  show bindC kindOf ((p,w)::P.zip vs) m x=_;unfold bindC;exact tG (i:=i) (cb.mp nd).2 (by simpa using h1) (by simpa using h2) hk
noncomputable def start(N:List Str)(vs:List V):St:=vs.map some++aO (N.length-vs.length) none
noncomputable def uE(CX:CXT)(P:Program)(w:World)(K:aa)(mg:Str->Option Value)(base:Heap)(N:List Str)(qual:Str)(scope:Scope)(f:Addr)(cd:Value)(A:Around)(outer:List Env)(s:Shared)(H:Hp)(E:XK):Cx where
 prog:=P
 w:=w
 K:=K
 mg:=mg
 base:=base
 A:=A.deeper (envOfC qual scope s.heap.objs.size f cd)
 N:=N
 s₀:=s
 H₀:=H
 env:=envOfC qual scope s.heap.objs.size f cd
 outer:=outer
 stack:=envOfC qual scope s.heap.objs.size f cd::outer
 ex:=[]
 calm:=true
 fn:=fun _=>true
 pn:=[]
 xe:=fun e s'=>wpAny (model P w) (A.deeper (envOfC qual scope s.heap.objs.size f cd)) (leaving (envOfC qual scope s.heap.objs.size f cd) e) (fun _ s''=>CX outer H s E e s'') (fun e' s''=>CX outer H s E e' s'') s'
theorem wB{sc:Scope}{n:Nat}{x:Str}(h:sc.names.lookup x=some .cell):∃c,(bZ n sc.names []).lookup x=some c:=by
 have q:=wY sc.names n [] (.inl h);exact dF.mp q
theorem AF{CX:CXT}{P:Program}{w:World}{K:aa}{mg:Str->Option Value}{base:Heap}{N ps:List Str}{qual:Str}{scope:Scope}{f:Addr}{cd:Value}{A:Around}{outer:List Env}{s s1:Shared}{H:Hp}{E:XK}{us:List Value}{vs:List V}
  (S:uQ N ps scope)(hd:A.handled=none)(e0:Env0 P w K mg base A outer s H)(hl:vs.length=ps.length)(r:bJ vs us)
  (x:InCallC s s.heap.objs.size (bindL (envOfC qual scope s.heap.objs.size f cd).kindOf (ps.zip us) fun _=>none) (bZ (s.heap.objs.size+1) scope.names []) (bindC (envOfC qual scope s.heap.objs.size f cd).kindOf (ps.zip us) fun _=>none) s1):
  Inv (uE CX P w K mg base N qual scope f cd A outer s H E) [] (start N vs) H s1:=by
 have hpl:ps.length<=N.length:=by have :=congrArg jK S.pre;rw[bb]at this;omega
 obtain⟨h1,tk,rfl,hk⟩:=x.done;have noA:∀b:Addr,b∉(uE CX P w K mg base N qual scope f cd A outer s H E).ex:=fun b z=>absurd (show b∈([]:List Addr)from z) (by simp);refine⟨⟨e0.mod,S.kind,rfl,rfl,ar _,fun y z c h1 h2=>?_,fun y hy=>?_,fun y c _ h=>?_,fun _=>hd,Around.frames_deeper e0.frames,.inr ⟨rfl,rfl⟩,fun b z=>absurd z (noA b),e0.bs,e0.bsz,fun b _ _=>noA b,fun b z=>absurd z (noA b),e0.uA,e0.frf⟩,
  rfl,e0.bare,Un.kept hk,⟨_,x.toInCall.ns,fun i y v h1 h2 h3=>?_⟩,fun y c h=>⟨_,x.cell y c h⟩,e0.hok.fresh (ar _),fun y c h=>?_,fun p hp=>absurd (show p∈([]:List (Addr×Obj))from hp) (by simp),e0.hok.kept hk,?_⟩
 ·exact name_of_addr x.apart (bw h1) (bw h2)
 ·have hy:scope.names.lookup y=some .cell\/scope.names.lookup y=some .free:=hy
  rcases hy with hy|hy
  ·exact wB hy
  ·exact absurd rfl (S.nofree _ (bw hy))
 ·exact gF (x.above y c (bw h))
 ·have hi:i<vs.length:=by
   unfold start at h2;by_cases hi:i<vs.length
   ·exact hi
   ·rw[cP (by simpa using hi)]at h2
    rw[List.getElem?_replicate]at h2;split at h2<;>cases h2
  have ha:vs[i]? =some v:=by
   unfold start at h2;rw[fw (by simpa using hi),aZ]at h2;cases e:vs[i]? with
   |none=>rw[e]at h2;cases h2
   |some a=>rw[e]at h2;cases h2;rfl
  obtain⟨u,hu,rv⟩:=r.get ha;have hp:ps[i]? =some y:=by
   rw[<-S.pre,xj (by omega)];exact h1
  have ndP:ps.Nodup:=by rw[<-S.pre];exact S.nd.sublist (p8 _ _)
  refine⟨u,rv,?_⟩;rcases S.par y (aS hp)with k|k
  ·exact .inl ⟨k,tE ndP hp hu k⟩
  ·obtain⟨c,e⟩:=wB (n:=s.heap.objs.size+1) k
   refine .inr ⟨.inl k,c,e,?_⟩;have q:=x.cell y c e;rw[tG ndP hp hu (by show scope.names.lookup y≠_;rw[k];decide)]at q;exact q
 ·exact e0.hok.fresh (gF (x.above y c (bw h)))
 ·unfold start
  show _=N.length;rw[aG,ag,eP];omega
theorem fn_of{CX:CXT}{P:Program}{w:World}{K:aa}{mg:Str->Option Value}{base:Heap}{k:Nat}{f:Addr}{name qual:Str}{params:Arguments}{body:List Stmt}{scope:Scope}{dV kV doc pm cdv ct oc:Value}{an od:Option Addr}
  {osl:Array (Option Value)}{N ps:List Str}{sp:Sp}(lk:K.lookup f=some ⟨oc,od,.func (aL name qual params body scope dV kV doc pm an cdv ct),osl⟩)(hcd:dO K cdv qual=true)(S:uQ N ps scope)
  (len:∀vs H Q E,sp vs H Q E->vs.length=ps.length)
  (hbody:∀(A:Around)(outer:List Env)(s:Shared)(H:Hp)(vs:List V)(Q:VK)(E:XK),jc k (A.deeper (envOfC qual scope s.heap.objs.size f cdv))->sp vs H Q E->
   ∃t,PSs (uE CX P w K mg base N qual scope f cdv A outer s H E) body t/\t {nx:=fun _ H'=>Q .non H',rt:=Q} (start N vs) H):
  iG P w K mg base CX (k+1) f (aL name qual params body scope dV kV doc pm an cdv ct) ps sp:=by
 refine⟨len,fun A outer s H args us vs Q E hr e0 hb r hsp=>?_⟩;have hl:=len _ _ _ _ hsp;have KX:K.In s.heap:=e0.mod.kin.keeps fun b o e=>(e0.bs b o e).1;have lim:s.heap.NoLimit:=e0.mod.nolimit.keeps fun b o e=>(e0.bs b o e).1;have hkind:∀y∈ps.zip us,scope.names.lookup y.1=some .local\/(scope.names.lookup y.1=some .cell/\((bZ (s.heap.objs.size+1) scope.names []).lookup y.1).isSome=true):=fun⟨n,v⟩ hy=>by
  rcases S.par n (tH hy).1 with q|q
  ·exact .inl q
  ·exact .inr ⟨q,wY _ _ _ (.inl q)⟩
 refine codeAny_call_function hr.depth (KX _ _ lk) rfl S.co S.gen rfl (PySem.W.codeRec_of KX hcd) (hb _ _ _ _ ?_);refine wpAny_newFunctionEnv_cells S.kind hkind fun env he s1 x=>?_;subst he;refine⟨lim.keeps x.toInCall.keep,codeAny_func ?_⟩;obtain⟨t,ht,hq⟩:=hbody A outer s H vs Q E (hr.deeper _) hsp;have I:Inv (uE CX P w K mg base N qual scope f cdv A outer s H E) [] (start N vs) H s1:=AF S hr.hd e0 hl r x;refine dm (ht [] s1 (start N vs) H _ I hq) (fun fl s' hs=>?_) fun e s' hs=>hs;have fin:∀{σ':St}{H':Hp}{v:V}{u:Value},Inv (uE CX P w K mg base N qual scope f cdv A outer s H E) [] σ' H' s'->RelV v u->Q v H'->CE outer P w H s Q u s':=
  fun{σ' H' v u} J rv q=>⟨v,H',J.os,J.bare,J.base,J.hok,rv,q⟩
 cases fl with
 |ret u=>
  obtain⟨v,σ',H',J,rv,q⟩:=hs;exact fin J rv q
 |next =>
  obtain⟨σ',H',J,q⟩:=hs;exact fin (v:=V.non) (u:=bN) J rfl q
 |brk=>
  obtain⟨_,_,_,q⟩:=hs;exact jd q
 |cont=>
  obtain⟨_,_,_,q⟩:=hs;exact jd q
section
variable {X:Cx}{x:Str}{p pos:Pos}{e:Expr}{es:List Expr}{t:TA}{id T:String}{r:List V->Hp->VK->Prop}
noncomputable def tCB(r:List V->Hp->VK->Prop)(t:TA):TE:=fun σ H Q=>t σ H fun vs H1=>r vs H1 Q
theorem Dl(hc:eD X (.builtin id) r)(hg:Gl X x)(hm:X.mg x=none)(hv:dc x=some (.builtin id))(ha:PA X (e::es) t)(hn:x≠"__name__":=by decide) (hdb:(x==("__debug__":Str))=false:=by decide)
  (he:bC (e::es) X.env=(false,eval e X.env)::bC es X.env:=by rfl) (hpl:(backTo pos (bC es X.env)).any (·.1)=false:=by rfl):PE X (.Call (.Name x p) (e::es) [] pos) (tCB r t):=by
 intro pins s σ H Q I h;refine gD (iy I hg hm hv ?_ hn hdb);exact mB (thn (ha pos pins s σ H _ I h) fun us s1 ⟨vs,H1,I1,r1,q1⟩=>hc pins s1 σ H1 vs us Q I1 r1 q1) he hpl
theorem Aj(hc:eD X (.type T) r)(hg:Gl X x)(hm:X.mg x=none)(hv:dc x=some (.type T))(ha:PA X (e::es) t)(hn:x≠"__name__":=by decide) (hdb:(x==("__debug__":Str))=false:=by decide)
  (he:bC (e::es) X.env=(false,eval e X.env)::bC es X.env:=by rfl) (hpl:(backTo pos (bC es X.env)).any (·.1)=false:=by rfl):PE X (.Call (.Name x p) (e::es) [] pos) (tCB r t):=by
 intro pins s σ H Q I h;refine gD (iy I hg hm hv ?_ hn hdb);exact bT (thn (ha pos pins s σ H _ I h) fun us s1 ⟨vs,H1,I1,r1,q1⟩=>hc pins s1 σ H1 vs us Q I1 r1 q1) he hpl
end
end L2
namespace HT
open PySem PyProof.Rows
section
open PySem.SeqAt
open PySem.AutoSeq1 (wpAny_loadPart')
open PySem.MeetsSeq PySem.MeetsSeq2 PySem.MeetsSeq3
end
section
variable {prog:Program}{w:World}{A:Around}{E:Value->Shared->Prop}{s:Shared}
theorem cat_tup{t b:Addr}{vs ws:List Value}{Q:Value->Shared->Prop}(ht:IsTup s.heap t vs.toArray)(hb:IsTup s.heap b ws.toArray)(hv:vs≠[])
  (h1:ws=[]->Q (.ref t) s)(h2:ws≠[]->Q (.ref s.heap.objs.size) {s with heap:=s.heap.push {cls:=.type "tuple",data:=.seq (vs++ws).toArray}})
  (hsz:vs.length+ws.length<=sizeLine):wpAny (model prog w) A (cY .Add (.ref t) (.ref b)) Q E s:=by
 obtain⟨⟨cls,dd,data,sl⟩,ho,hc,n,hd⟩:=id ht;obtain⟨⟨cls2,dd2,data2,sl2⟩,ho2,hc2,n2,hd2⟩:=id hb;simp only at hc hd hc2 hd2;subst hc hd hc2 hd2;have e:vs.toArray++ws.toArray=(vs++ws).toArray:=by simp
 by_cases hw:ws=[]
 ·exact concat_meets ⟨_,ho,rfl⟩ ⟨_,ho2,rfl⟩ wW Ez kc jI (js _ _)
   (tuple_addW1 t b vs.toArray ws.toArray n n2 dd dd2 sl sl2 (by simpa using hv) (by simp[hw])) ⟨ho,ho2,h1 hw⟩
 ·refine concat_meets ⟨_,ho,rfl⟩ ⟨_,ho2,rfl⟩ wW Ez kc jI (js _ _)
   (tuple_addW2 t b vs.toArray ws.toArray n n2 dd dd2 sl sl2 (by simpa using hv) (by simpa using hw) (by rw[ay,ay];exact hsz)) ⟨ho,ho2,?_⟩
  rw[e];exact h2 hw
noncomputable def sIx(n d:Nat):Option Int->Nat
 |none=>d
 |some v=>if v<0 then(v+(n:Int)).toNat else min v.toNat n
theorem mK(n d:Nat):sIx n d none=d:=rfl
theorem pP(n d k:Nat):sIx n d (some (k:Int))=min k n:=by
 show(if(k:Int)<0 then((k:Int)+(n:Int)).toNat else min (k:Int).toNat n)=min k n;rw[if_neg (by omega),dh]
theorem Ck(n d:Nat)(hd:d<=n)(o:Option Int):sIx n d o<=n:=by
 cases o with
 |none=>exact hd
 |some v=>
  show(if v<0 then(v+(n:Int)).toNat else min v.toNat n)<=n;by_cases hv:v<0
  ·rw[if_pos hv];omega
  ·rw[if_neg hv];exact hG _ _
theorem clip_eq(v:Int)(n d:Nat):(if v<0 then max (v+(n:Int)) 0 else min v (n:Int))=((sIx n d (some v):Nat):Int):=by
 show(if v<0 then max (v+(n:Int)) 0 else min v (n:Int))=(((if v<0 then(v+(n:Int)).toNat else min v.toNat n):Nat):Int);by_cases hv:v<0
 ·simp only[if_pos hv];omega
 ·simp only[if_neg hv];omega
end
end HT
namespace L2
open PySem PySem.Spec PyProof.Rows
noncomputable abbrev TO:=St->Hp->(Option Int->Hp->Prop)->Prop
noncomputable def PO(X:Cx)(e:Option Expr)(t:TO):Prop:=
 ∀(pins:List (Addr×Obj))(s:Shared)(σ:St)(H:Hp)(Q:Option Int->Hp->Prop),Inv X pins σ H s->t σ H Q->
  wpAny (model X.prog X.w) X.A (evalPart e X.env) (fun u s'=>∃o H',Inv X pins σ H' s'/\IsPart u o/\Q o H') X.xe s
noncomputable def tO:TO:=fun _ H Q=>Q none H
noncomputable def BO(t:TE):TO:=fun σ H Q=>t σ H fun x H1=>∃i,x=.int i/\Q (some i) H1
section
variable {X:Cx}{e:Expr}{te:TE}{lo hi:Option Expr}{tl th:TO}{pos p2:Pos}
theorem po_none:PO X none tO:=by
 intro pins s σ H Q I h;rw[EA];exact aj ⟨none,H,I,.none,h⟩
theorem po_some(h:PE X e te):PO X (some e) (BO te):=by
 intro pins s σ H Q I hw;rw[evalPart_some];refine thn (h pins s σ H _ I hw) fun u s1 ⟨x,H1,I1,r1,q1⟩=>?_;obtain⟨i,rfl,q⟩:=q1;obtain⟨t,rfl⟩:=r1;exact⟨some i,H1,I1,.int i t,q⟩
noncomputable def SlR(X:Cx)(r:V->Option Int->Option Int->Hp->VK->Prop):Prop:=
 ∀(pins:List (Addr×Obj))(s:Shared)(σ:St)(H:Hp)(x:V)(v vl vu:Value)(lo hi:Option Int)(sl:Addr)(Q:VK),Inv X pins σ H s->RelV x v->s.heap.IsSliceOf sl vl vu .none->IsPart vl lo->IsPart vu hi->r x lo hi H Q->
  ∃T id,A4 (.type T) "__getitem__"=pure (some (.builtin id))/\s.TypeIs v T/\wpAny (model X.prog X.w) X.A (zH v (.ref sl)) (EP X pins σ Q) X.xe s
theorem SlR.or{r r':V->Option Int->Option Int->Hp->VK->Prop}(h:SlR X r)(h':SlR X r'):SlR X (fun x lo hi H Q=>r x lo hi H Q\/r' x lo hi H Q):=by
 intro pins s σ H x v vl vu lo hi sl Q I rx hs pl pu q;rcases q with q|q
 ·exact h pins s σ H x v vl vu lo hi sl Q I rx hs pl pu q
 ·exact h' pins s σ H x v vl vu lo hi sl Q I rx hs pl pu q
noncomputable def tSl(r:V->Option Int->Option Int->Hp->VK->Prop)(te:TE)(tl th:TO):TE:=fun σ H Q=>te σ H fun x H1=>tl σ H1 fun l H2=>th σ H2 fun u H3=>r x l u H3 Q
theorem C8{r:V->Option Int->Option Int->Hp->VK->Prop}(hr:SlR X r)(he:PE X e te)(hl:PO X lo tl)(hu:PO X hi th):PE X (.Subscript e (.Slice lo hi none p2) pos) (tSl r te tl th):=by
 intro pins s σ H Q I h;refine Ba (thn (he pins s σ H _ I h) fun v s1 ⟨x,H1,I1,r1,q1⟩=>?_);refine wpAny_Slice (thn (hl pins s1 σ H1 _ I1 q1) fun vl s2 ⟨l,H2,I2,pl,q2⟩=>thn (hu pins s2 σ H2 _ I2 q2) fun vu s3 ⟨u,H3,I3,pu,q3⟩=>?_);rw[EA];refine aj ?_;have I4:Inv X pins σ H3 {s3 with heap:=s3.heap.push {cls:=.type "slice",data:=.fields #[vl,vu,.none]}}:=I3.kept (t':=s3.toks) fun b ob q=>ae _ q;obtain⟨T,id,hT,ht,hg⟩:=hr pins {s3 with heap:=s3.heap.push {cls:=.type "slice",data:=.fields #[vl,vu,.none]}} σ H3 x v vl vu l u s3.heap.objs.size Q I4 r1 (tK ..) pl pu q3;show wpAny (model X.prog X.w) X.A (rH e (.Slice lo hi none p2) v (.ref s3.heap.objs.size)) (EP X pins σ Q) X.xe {s3 with heap:=s3.heap.push {cls:=.type "slice",data:=.fields #[vl,vu,.none]}};exact tail_any (ops:=[.ref s3.heap.objs.size,v]) ht hT hg (by with_unfolding_all rfl)
noncomputable def qN(xs:List V)(lo hi:Option Int):List V:=(xs.drop (HT.sIx xs.length 0 lo)).take (HT.sIx xs.length xs.length hi-HT.sIx xs.length 0 lo)
theorem wt(xs:List V)(lo hi:Option Int):(qN xs lo hi).length<=xs.length:=by
 unfold qN;rw[bb,gS];omega
noncomputable def rSlT(K:aa):V->Option Int->Option Int->Hp->VK->Prop:=fun x lo hi H Q=>∃a xs,x=.ref a/\SqT K H a xs/\
 ¬(HT.sIx xs.length 0 lo=0/\HT.sIx xs.length xs.length hi=xs.length)/\∀p,H p=none->Q (.ref p) (upd H p (.tup (qN xs lo hi)))
noncomputable def yM(K:aa):R2:=fun x y H Q=>∃a b xs ys,x=.ref a/\y=.ref b/\SqT K H a xs/\SqT K H b ys/\xs≠[]/\xs.length+ys.length<=sizeLine/\
 (ys=[]->Q (.ref a) H)/\(ys≠[]->∀p,H p=none->Q (.ref p) (upd H p (.tup (xs++ys))))
theorem bJ.uq{xs:List V}{us:List Value}(r:bJ xs us):us=[]↔xs=[]:=by
 cases r with
 |nil=>simp
 |cons _ _=>simp
theorem op_catT:OpR X (cY .Add) (yM X.K):=by
 intro pins s σ H x y v u Q I rx ry h;obtain⟨a,b,xs,ys,rfl,rfl,ha,hb,hx,hz,q1,q2⟩:=h;cases rx;cases ry;obtain⟨its,r1,p1,_⟩:=I.tuple ha;obtain⟨its2,r2,p2,_⟩:=I.tuple hb;refine HT.cat_tup p1 p2 (fun z=>hx (r1.uq.mp z)) (fun z=>⟨.ref a,H,I,rfl,q1 (r2.uq.mp z)⟩) (fun z=>?_) (by rw[<-r1.length,<-r2.length];exact hz);refine⟨.ref s.heap.objs.size,_,I.laid (t':=s.toks) (o:=.tup (xs++ys)) (fun b ob q=>ae _ q) (ar _) ?_,rfl,q2 (fun w=>z (r2.uq.mpr w)) _ (I.hok.fresh (ar _))⟩;exact⟨by rw[aG];exact hz,_,r1.append r2,IsTup.new _ _⟩
end
noncomputable def ixN(n:Nat)(i:Int):Option Nat:=if 0<=i then(if i<n then some i.toNat else none)else if -(n:Int)<=i then some (i+n).toNat else none
noncomputable def atI{α:Type}(xs:List α)(i:Int):Option α:=(ixN xs.length i).bind fun j=>xs[j]?
theorem zd{n:Nat}{i:Int}{j:Nat}(h:ixN n i=some j):seqIndex? i n=some j/\j<n∧-(n:Int)<=i/\i<n:=by
 unfold ixN at h;by_cases h0:0<=i
 ·rw[if_pos h0]at h
  by_cases h1:i<n
  ·rw[if_pos h1]at h
   have e:i.toNat=j:=bh h;exact⟨by rw[seqIndex_of h0 h1,e],by omega,by omega,h1⟩
  ·rw[if_neg h1]at h;cases h
 ·rw[if_neg h0]at h
  by_cases h1: -(n:Int)<=i
  ·rw[if_pos h1]at h
   have e:(i+n).toNat=j:=bh h;exact⟨by rw[seqIndex_neg (by omega) h1,e],by omega,h1,by omega⟩
  ·rw[if_neg h1]at h;cases h
theorem uM{α:Type}{xs:List α}{i:Int}{v:α}(h:atI xs i=some v):∃j,seqIndex? i xs.length=some j/\xs[j]? =some v/\j<xs.length∧-(xs.length:Int)<=i/\i<xs.length:=by
 unfold atI at h;cases e:ixN xs.length i with
 |none=>rw[e]at h;cases h
 |some j=>
  rw[e]at h;obtain⟨h1,h2,h3,h4⟩:=zd e;exact⟨j,h1,h,h2,h3,h4⟩
theorem gV{α:Type}{xs:List α}{j:Nat}{v:α}(h:xs[j]? =some v):atI xs (j:Int)=some v:=by
 have hj:j<xs.length:=(bE.mp h).1;have e:ixN xs.length (j:Int)=some j:=by
  unfold ixN;rw[if_pos (by omega),if_pos (by omega)];simp
 unfold atI;rw[e];exact h
theorem En{α:Type}(xs:List α)(v:α):atI (xs++[v]) (-1)=some v:=by
 have hl:(xs++[v]).length=xs.length+1:=by simp
 have e:ixN (xs++[v]).length (-1)=some xs.length:=by
  unfold ixN;rw[hl,if_neg (by decide),if_pos (by omega)];congr 1;omega
 unfold atI;rw[e];show(xs++[v])[xs.length]? =some v;simp
noncomputable def zF(b:Expr):Prop:=∀o i,subscripted b false o i=operate [o,i] (zH o i)
noncomputable def IxR(X:Cx)(r:R2):Prop:=
 ∀(value slice:Expr)(pins:List (Addr×Obj))(s:Shared)(σ:St)(H:Hp)(x y:V)(v u:Value)(Q:VK),Inv X pins σ H s->RelV x v->RelV y u->r x y H Q->
  subscripted slice false v u=operate [v,u] (zH v u)->wpAny (model X.prog X.w) X.A (rH value slice v u) (EP X pins σ Q) X.xe s
noncomputable def MtR(X:Cx)(id:String)(r:V->List V->Hp->VK->Prop):Prop:=
 ∀(pins:List (Addr×Obj))(s:Shared)(σ:St)(H:Hp)(x:V)(xs:List V)(v:Value)(us:List Value)(Q:VK),Inv X pins σ H s->RelV x v->bJ xs us->r x xs H Q->
  wpAny (model X.prog X.w) X.A (call (.builtin id) (v::us)) (EP X pins σ Q) X.xe s
section
variable {X:Cx}{a b:Expr}{ta tb:TE}{pos:Pos}
theorem IxR.or{r r':R2}(h:IxR X r)(h':IxR X r'):IxR X (fun x y H Q=>r x y H Q\/r' x y H Q):=by
 intro value slice pins s σ H x y v u Q I rx ry q hs;rcases q with q|q
 ·exact h value slice pins s σ H x y v u Q I rx ry q hs
 ·exact h' value slice pins s σ H x y v u Q I rx ry q hs
theorem MtR.or{id:String}{r r':V->List V->Hp->VK->Prop}(h:MtR X id r)(h':MtR X id r'):MtR X id (fun x xs H Q=>r x xs H Q\/r' x xs H Q):=by
 intro pins s σ H x xs v us Q I rx rs q;rcases q with q|q
 ·exact h pins s σ H x xs v us Q I rx rs q
 ·exact h' pins s σ H x xs v us Q I rx rs q
theorem pe_ix{r:R2}(hr:IxR X r)(ha:PE X a ta)(hb:PE X b tb)(hs:zF b):PE X (.Subscript a b pos) (tOp r ta tb):=by
 intro pins s σ H Q I h;exact Ba (binT ha hb I h fun v u s2 x y H2 I2 rx ry q=>hr a b pins s2 σ H2 x y v u Q I2 rx ry q (hs _ _))
noncomputable def rIxL(K:aa):R2:=fun x y H Q=>∃p xs i v,x=.ref p/\y=.int i/\SqL K H p xs/\atI xs i=some v/\Q v H
noncomputable def rIxT(K:aa):R2:=fun x y H Q=>∃p xs i v,x=.ref p/\y=.int i/\SqT K H p xs/\atI xs i=some v/\Q v H
noncomputable def rIxS:R2:=fun x y H Q=>∃z i c,x=.str z/\y=.int i/\z.length<=sizeLine/\atI z.cps.toList i=some c/\Q (.str ⟨#[c]⟩) H
theorem ix_list:IxR X (rIxL X.K):=by
 intro value slice pins s σ H x y v u Q I rx ry h hs;obtain⟨p,xs,i,z,rfl,rfl,hq,he,q⟩:=h;cases rx;obtain⟨t,rfl⟩:=ry;obtain⟨its,r,pl,hz⟩:=I.list hq;obtain⟨j,h1,h2,h3,h4,h5⟩:=uM he;obtain⟨w,ew,rw'⟩:=r.get h2;have hl:=r.length;have hn:=l7;have fin:EP X pins σ Q w s:=⟨z,H,I,rw',q⟩;by_cases h0:0<=i
 ·have hj:i.toNat=j:=by
   rw[seqIndex_of h0 h5]at h1;exact bh h1
  exact item_listR pl.isList h0 (by omega) (by rw[hj];simpa using ew) fin hs
 ·have hj:(i+(its.toArray.size:Int)).toNat=j:=by
   rw[seqIndex_neg (by omega) h4]at h1;rw[ay,<-hl];exact bh h1
  exact subscriptTail_builtinR (x:=w) pl.isList.typeIs uT.lookup
   (wpAny_getItem_list_neg (Q:=fun r s'=>r=w/\EP X pins σ Q r s') pl.isList (by omega) (by rw[ay]<;>omega) (by omega) (by rw[hj];simpa using ew) ⟨rfl,fin⟩) hs
theorem ix_tup:IxR X (rIxT X.K):=by
 intro value slice pins s σ H x y v u Q I rx ry h hs;obtain⟨p,xs,i,z,rfl,rfl,hq,he,q⟩:=h;cases rx;obtain⟨t,rfl⟩:=ry;obtain⟨its,r,pl,hz⟩:=I.tuple hq;obtain⟨j,h1,h2,h3,h4,h5⟩:=uM he;obtain⟨w,ew,rw'⟩:=r.get h2;have hl:=r.length;have hn:=l7;have fin:EP X pins σ Q w s:=⟨z,H,I,rw',q⟩;exact subscriptTail_builtinR (x:=w) pl.typeIs slot_tuple_getitem.lookup
  (getItem_tuple (j:=j) (Q:=fun r s'=>r=w/\EP X pins σ Q r s') pl (by omega) (by omega) (by rw[ay,<-hl];exact h1) (by simpa using ew) ⟨rfl,fin⟩) hs
theorem ix_str:IxR X rIxS:=by
 intro value slice pins s σ H x y v u Q I rx ry h hs;obtain⟨z,i,c,rfl,rfl,hz,he,q⟩:=h;obtain⟨t,rfl⟩:=rx;obtain⟨t',rfl⟩:=ry;obtain⟨j,h1,h2,h3,h4,h5⟩:=uM he;have hl:z.cps.toList.length=z.length:=by simp[wX]
 rw[hl]at h1 h4 h5;have hn:=l7;exact tail_any (typeIs_str s z t) slot_str_getitem.lookup (getItem_str (c:=c) (by
  have e1:decide (i< -(2^63:Int))=false:=decide_eq_false (by omega);have e2:decide (i≥ 2^63)=false:=decide_eq_false (by omega);rw[e1,e2,xl]) (by rw[h1];simpa using h2) ⟨.str ⟨#[c]⟩,H,I.tok _,⟨_,rfl⟩,q⟩) hs
noncomputable def rIx(K:aa):R2:=fun x y H Q=>rIxL K x y H Q\/rIxT K x y H Q\/rIxS x y H Q
theorem ix_seq:IxR X (rIx X.K):=ix_list.or (ix_tup.or ix_str)
theorem xS(its:List Value)(n j:Nat)(u:Value):bW (·.setIfInBounds j u) {cls:=.type "list",data:=.seq its.toArray n}={cls:=.type "list",data:=.seq (its.set j u).toArray n}:=by
 simp[bW]
theorem Inv.lst{pins:List (Addr×Obj)}{σ:St}{H:Hp}{s:Shared}{p:Addr}{xs:List V}(I:Inv X pins σ H s)(h:H p=some (.lst xs)):
  ∃(its:List Value)(n:Nat),bJ xs its/\s.heap.get? p=some {cls:=.type "list",data:=.seq its.toArray n}/\xs.length<=sizeLine:=by
 obtain⟨z,its,n,r,e⟩:=I.hok p _ h;exact⟨its,n,r,e,z⟩
theorem Inv.lstUpd{pins:List (Addr×Obj)}{σ:St}{H:Hp}{s:Shared}{p:Addr}{xs ys:List V}{its its':List Value}{n n':Nat}{f:Obj->Obj}(I:Inv X pins σ H s)(h:H p=some (.lst xs))
  (ho:s.heap.get? p=some {cls:=.type "list",data:=.seq its.toArray n}) (hf:f {cls:=.type "list",data:=.seq its.toArray n}={cls:=.type "list",data:=.seq its'.toArray n'}) (r:bJ ys its') (hz:ys.length<=sizeLine) (t:Nat):
  Inv X pins σ (upd H p (.lst ys)) {s with heap:=s.heap.update p f,toks:=t}:=by
 have e:(s.heap.update p f).get? p=some {cls:=.type "list",data:=.seq its'.toArray n'}:=by
  rw[cU f ho (by rw[hf]<;>rfl),hf]
 refine I.write (x:=p) (e:=p) (by rw[h];trivial) (.inl rfl) (fun b u hb q=>(bx _ _ (cz hb)).trans q) ⟨_,e⟩ ?_;exact⟨hz,its',n',r,e⟩
noncomputable def rSetL:V->V->V->Hp->(Hp->Prop)->Prop:=fun o i v H Q=>∃p xs k j,o=.ref p/\i=.int k/\H p=some (.lst xs)/\ixN xs.length k=some j/\Q (upd H p (.lst (xs.set j v)))
theorem set_list:PSet X rSetL:=by
 intro pins s σ H o i v ov iv u Q I ro ri rv h;obtain⟨p,xs,k,j,rfl,rfl,hp,hj,q⟩:=h;cases ro;obtain⟨t,rfl⟩:=ri;obtain⟨its,n,r,ho,hz⟩:=I.lst hp;obtain⟨h1,h2,h3,h4⟩:=zd hj;have hl:=r.length;have hn:=l7;have I':Inv X pins σ (upd H p (.lst (xs.set j v))) {s with heap:=s.heap.update p (bW (·.setIfInBounds j u))}:=
  I.lstUpd hp ho (xS its n j u) (r.set rv j) (by rw[List.length_set];exact hz) s.toks
 by_cases h0:0<=k
 ·have hk:k.toNat=j:=by
   rw[seqIndex_of h0 h4]at h1;exact bh h1
  exact PySem.W.ki_setAt ho h0 (by omega) (by rw[ay,<-hl];exact h4) (by rw[hk];exact⟨_,I',q⟩)
 ·have hk:(k+(its.toArray.size:Int)).toNat=j:=by
   rw[seqIndex_neg (by omega) h3]at h1;rw[ay,<-hl];exact bh h1
  exact PySem.W.ki_setBack ho (by omega) (by rw[ay,<-hl];exact h3) (by omega) (by rw[hk];exact⟨_,I',q⟩)
theorem tV(lo hi:Option Int)(n:Nat):(fF lo hi none n).1=((HT.sIx n 0 lo:Nat):Int)/\(fF lo hi none n).2.1=((HT.sIx n n hi:Nat):Int)/\(fF lo hi none n).2.2=1:=by
 refine⟨?_,?_,rfl⟩
 ·cases lo with
  |none=>simp[fF,HT.sIx]
  |some i=>
   simp only[fF,HT.sIx,p7,show(1:Int)>0 by decide,if_true];by_cases h:i<0
   ·simp only[h,if_true]<;>omega
   ·simp only[h,if_false]<;>omega
 ·cases hi with
  |none=>simp[fF,HT.sIx]
  |some i=>
   simp only[fF,HT.sIx,p7,show(1:Int)>0 by decide,if_true];by_cases h:i<0
   ·simp only[h,if_true]<;>omega
   ·simp only[h,if_false]<;>omega
theorem rO(its:List Value)(lo hi:Option Int):slicePick its.toArray lo hi none=((its.drop (HT.sIx its.length 0 lo)).take (HT.sIx its.length its.length hi-HT.sIx its.length 0 lo)).toArray:=by
 obtain⟨h1,h2,h3⟩:=tV lo hi its.toArray.size;unfold slicePick;rw[h1,h2,h3];simp only[sliceRange_one,pick_run,ay]<;>rfl
noncomputable def rSlL(K:aa):V->Option Int->Option Int->Hp->VK->Prop:=fun x lo hi H Q=>∃a xs,x=.ref a/\SqL K H a xs/\∀p,H p=none->Q (.ref p) (upd H p (.lst (qN xs lo hi)))
theorem sl_list:SlR X (rSlL X.K):=by
 intro pins s σ H x v vl vu lo hi sl Q I rx hs pl pu h;obtain⟨a,xs,rfl,hx,q⟩:=h;cases rx;obtain⟨its,r,ht,hz⟩:=I.list hx;have hlen:=r.length;refine⟨"list",_,uT.lookup,ht.isList.typeIs,?_⟩;refine Ey ht.isList hs pl pu .none (by simp) ?_ (by rw[ay]<;>omega);rw[rO,<-hlen];refine⟨.ref s.heap.objs.size,_,I.laid (t':=s.toks) (o:=.lst (qN xs lo hi)) (fun b ob q=>ae _ q) (ar _) ?_,rfl,q _ (I.hok.fresh (ar _))⟩;exact⟨aU (wt xs lo hi) hz,_,0,(r.drop (HT.sIx xs.length 0 lo)).take (HT.sIx xs.length xs.length hi-HT.sIx xs.length 0 lo),aC _ rfl⟩
noncomputable def mY:V->Bool
 |.non=>true
 |.bl _=>true
 |.int _=>true
 |.str _=>true
 |_=>false
noncomputable def eqV:V->V->Bool
 |.non,.non=>true
 |.bl a,.bl b=>a==b
 |.bl a,.int b=>(if a then 1 else 0)==b
 |.int a,.bl b=>a==(if b then 1 else 0)
 |.int a,.int b=>a==b
 |.str a,.str b=>a==b
 |_,_=>false
theorem eO{A:Around}{s:Shared}{y x:V}{u v:Value}(ry:RelV y u)(rx:RelV x v)(fy:mY y=true)(fx:mY x=true):SeqAt.EqAt A s u v (eqV y x):=by
 cases y with
 |non=>
  cases ry;cases x with
  |non=>cases rx;exact SeqAt.EqAt.same _
  |bl b=>cases rx;exact SeqAt.EqAt.none_bool b
  |int b=>obtain⟨t,rfl⟩:=rx;exact SeqAt.EqAt.none_int b t
  |str b=>obtain⟨t,rfl⟩:=rx;exact SeqAt.EqAt.none_str b t
  |_=>exact absurd (show false=true from fx) bp
 |bl a=>
  cases ry;cases x with
  |non=>cases rx;exact SeqAt.EqAt.bool_none a
  |bl b=>cases rx;exact SeqAt.EqAt.bool_bool a b
  |int b=>obtain⟨t,rfl⟩:=rx;exact SeqAt.EqAt.bool_int a b t
  |str b=>obtain⟨t,rfl⟩:=rx;exact SeqAt.EqAt.bool_str a b t
  |_=>exact absurd (show false=true from fx) bp
 |int a=>
  obtain⟨t',rfl⟩:=ry;cases x with
  |non=>cases rx;exact SeqAt.EqAt.int_none a t'
  |bl b=>cases rx;exact SeqAt.EqAt.int_bool a t' b
  |int b=>obtain⟨t,rfl⟩:=rx;exact xf a t' b t
  |str b=>obtain⟨t,rfl⟩:=rx;exact xc a t' b t
  |_=>exact absurd (show false=true from fx) bp
 |str a=>
  obtain⟨t',rfl⟩:=ry;cases x with
  |non=>cases rx;exact SeqAt.EqAt.str_none a t'
  |bl b=>cases rx;exact SeqAt.EqAt.str_bool a t' b
  |int b=>obtain⟨t,rfl⟩:=rx;exact w9 a t' b t
  |str b=>obtain⟨t,rfl⟩:=rx;exact SeqAt.EqAt.str_str a t' b t
  |_=>exact absurd (show false=true from fx) bp
 |_=>exact absurd (show false=true from fy) bp
noncomputable def eqU(x:V)(u:Value):Bool:=match u with
 |.none=>eqV .non x
 |.bool b=>eqV (.bl b) x
 |.int i _=>eqV (.int i) x
 |.str z _=>eqV (.str z) x
 |_=>false
theorem DZ{x y:V}{u:Value}(r:RelV y u)(f:mY y=true):eqU x u=eqV y x:=by
 cases y with
 |non=>cases r;rfl
 |bl b=>cases r;rfl
 |int i=>obtain⟨t,rfl⟩:=r;rfl
 |str z=>obtain⟨t,rfl⟩:=r;rfl
 |_=>exact absurd (show false=true from f) bp
theorem nB{x:V}:∀{xs:List V}{us:List Value},bJ xs us->xs.all mY=true->us.any (eqU x)=xs.any fun y=>eqV y x
 |_,_,.nil,_=>rfl
 |y::xs,u::us,.cons r t,f=>by
  rw[ot,aP]at f;rw[jZ,jZ,DZ r f.1,nB t f.2]
theorem ko{A:Around}{s:Shared}{x:V}{v:Value}(rx:RelV x v)(fx:mY x=true):∀{xs:List V}{us:List Value},bJ xs us->xs.all mY=true->∀u∈us,SeqAt.EqAt A s u v (eqU x u)
 |_,_,.nil,_=>fun u hu=>by cases hu
 |y::xs,u::us,.cons r t,f=>fun u' hu=>by
  rw[ot,aP]at f;rcases aK.mp hu with rfl|hu
  ·rw[DZ r f.1];exact eO r rx f.1 fx
  ·exact ko rx fx t f.2 u' hu
noncomputable def inV(x:V)(xs:List V):Bool:=xs.any fun y=>eqV y x
noncomputable def rIn(K:aa)(neg:Bool):R2:=fun x y H Q=>∃p xs,y=.ref p/\(SqL K H p xs\/SqT K H p xs)/\mY x=true/\xs.all mY=true/\Q (.bl (if neg then !inV x xs else inV x xs)) H
theorem As:OpR X (ck .In) (rIn X.K false):=by
 intro pins s σ H x y v u Q I rx ry h;obtain⟨p,xs,rfl,hq,fx,fs,q⟩:=h;cases ry;rcases hq with hq|hq
 ·obtain⟨its,r,pl,hz⟩:=I.list hq
  refine SeqAt.in_listAt (eqU x) pl.isList (fun w hw=>ko rx fx r fs w (by simpa using hw)) ⟨.bl _,H,I,rfl,?_⟩;rw[show its.toArray.any (eqU x)=its.any (eqU x) by simp,nB r fs];exact q
 ·obtain⟨its,r,pl,hz⟩:=I.tuple hq
  refine SeqAt.in_tupleAt (eqU x) pl (fun w hw=>ko rx fx r fs w (by simpa using hw)) ⟨.bl _,H,I,rfl,?_⟩;rw[show its.toArray.any (eqU x)=its.any (eqU x) by simp,nB r fs];exact q
theorem uj:OpR X (ck .NotIn) (rIn X.K true):=by
 intro pins s σ H x y v u Q I rx ry h;obtain⟨p,xs,rfl,hq,fx,fs,q⟩:=h;cases ry;rcases hq with hq|hq
 ·obtain⟨its,r,pl,hz⟩:=I.list hq
  refine SeqAt.notIn_listAt (eqU x) pl.isList (fun w hw=>ko rx fx r fs w (by simpa using hw)) ⟨.bl _,H,I,rfl,?_⟩;rw[show its.toArray.any (eqU x)=its.any (eqU x) by simp,nB r fs];exact q
 ·obtain⟨its,r,pl,hz⟩:=I.tuple hq
  refine SeqAt.notIn_tupleAt (eqU x) pl (fun w hw=>ko rx fx r fs w (by simpa using hw)) ⟨.bl _,H,I,rfl,?_⟩;rw[show its.toArray.any (eqU x)=its.any (eqU x) by simp,nB r fs];exact q
theorem ui:OpR X (ck .NotIn) (fun x y H Q=>∃i j,x=.str i/\y=.str j/\Q (.bl (!(!(fm j i 0 j.length 1).isEmpty))) H):=by
 intro pins s σ H x y v u Q I rx ry h;obtain⟨i,j,rfl,rfl,q⟩:=h;obtain⟨t,rfl⟩:=rx;obtain⟨t',rfl⟩:=ry;exact notIn_str ⟨.bl _,H,I,rfl,q⟩
theorem uH:eD X (.builtin "len") (fun xs H Q=>∃p ys,xs=[.ref p]/\(SqL X.K H p ys\/SqT X.K H p ys)/\Q (.int ys.length) H):=by
 intro pins s σ H xs us Q I r h;obtain⟨p,ys,rfl,hq,q⟩:=h;obtain⟨u,rfl,rx⟩:=vals1 r;cases rx;have hn:=l7;rcases hq with hq|hq
 ·obtain⟨its,r',pl,hz⟩:=I.list hq
  have hlen:=r'.length;exact Calls.call_len_list pl.isList (by simp only[ay]<;>omega) ⟨.int ys.length,H,I.tok _,⟨s.toks+1,by rw[ay,hlen]⟩,q⟩
 ·obtain⟨its,r',pl,hz⟩:=I.tuple hq
  have hlen:=r'.length;exact len_tuple pl (by simp only[ay]<;>omega) ⟨.int ys.length,H,I.tok _,⟨s.toks+1,by rw[ay,hlen]⟩,q⟩
theorem uG:eD X (.builtin "len") (fun xs H Q=>∃z,xs=[.str z]/\z.length<=sizeLine/\Q (.int z.length) H):=by
 intro pins s σ H xs us Q I r h;obtain⟨z,rfl,hz,q⟩:=h;obtain⟨u,rfl,t,rfl⟩:=vals1 r;have hn:=l7;exact len_str (by omega) ⟨.int z.length,H,I.tok _,⟨_,rfl⟩,q⟩
theorem eD.or{f:Value}{r r':List V->Hp->VK->Prop}(h:eD X f r)(h':eD X f r'):eD X f (fun xs H Q=>r xs H Q\/r' xs H Q):=by
 intro pins s σ H xs us Q I rs q;rcases q with q|q
 ·exact h pins s σ H xs us Q I rs q
 ·exact h' pins s σ H xs us Q I rs q
theorem uF:eD X (.type "list") (fun xs H Q=>∃p ys,xs=[.ref p]/\(SqL X.K H p ys\/SqT X.K H p ys)/\∀l,H l=none->Q (.ref l) (upd H l (.lst ys))):=by
 intro pins s σ H xs us Q I r h;obtain⟨p,ys,rfl,hq,q⟩:=h;obtain⟨u,rfl,rx⟩:=vals1 r;cases rx;have fin:∀(its:List Value),bJ ys its->ys.length<=sizeLine->∀(h':Heap)(c':Nat),(∀b o',s.heap.get? b=some o'->h'.get? b=some o')->
   h'.get? s.heap.objs.size=some {cls:=.type "list",dict:=none,data:=.seq its.toArray c',slots:= #[]}->EP X pins σ Q (.ref s.heap.objs.size) {s with heap:=h'}:=fun its r' hz h' c' kp e=>
  ⟨.ref s.heap.objs.size,_,I.laid (t':=s.toks) kp (ar _) (show cJ X.prog X.w _ h' _ (.lst ys)from⟨hz,its,c',r',e⟩),rfl,q _ (I.hok.fresh (ar _))⟩
 rcases hq with hq|hq
 ·obtain⟨its,r',pl,hz⟩:=I.list hq
  have hlen:=r'.length;obtain⟨o,ho,hc,n,hd⟩:=pl.isList;exact call_list_seq p (.inl rfl) ho hc hd (fun h' c' kp e=>fin its r' hz h' c' kp e) (by simp only[ay]<;>omega)
 ·obtain⟨its,r',pl,hz⟩:=I.tuple hq
  have hlen:=r'.length;obtain⟨o,ho,hc,n,hd⟩:=pl;exact call_list_seq p (.inr rfl) ho hc hd (fun h' c' kp e=>fin its r' hz h' c' kp e) (by simp only[ay]<;>omega)
theorem r6:eD X (.type "tuple") (fun xs H Q=>∃p ys,xs=[.ref p]/\((SqL X.K H p ys/\∀l,H l=none->Q (.ref l) (upd H l (.tup ys)))\/(SqT X.K H p ys/\Q (.ref p) H))):=by
 intro pins s σ H xs us Q I r h;obtain⟨p,ys,rfl,h⟩:=h;obtain⟨u,rfl,rx⟩:=vals1 r;cases rx;rcases h with⟨hq,q⟩ |⟨hq,q⟩
 ·obtain⟨its,r',pl,hz⟩:=I.list hq
  have hlen:=r'.length;refine call_tuple_list pl.isList (fun h' kp=>?_) (by simp only[ay]<;>omega);have I1:Inv X pins σ H {s with heap:=h'}:=I.kept (t':=s.toks) kp;have I2:Inv X pins σ (upd H h'.objs.size (.tup ys)) {s with heap:=h'.push {cls:=.type "tuple",data:=.seq its.toArray}}:=
   I1.laid (t':=s.toks) (fun b o e=>ae _ e) (ar _) (show cJ X.prog X.w _ _ _ (.tup ys)from⟨hz,its,r',IsTup.new _ _⟩)
  exact⟨.ref h'.objs.size,_,I2,rfl,q _ (I1.hok.fresh (ar _))⟩
 ·obtain⟨its,r',pl,hz⟩:=I.tuple hq
  exact call_tuple_same pl ⟨.ref p,H,I,rfl,q⟩
noncomputable def tyV(K:aa)(T:String)(x:V)(H:Hp):Prop:=match x with
 |.str _=>T="str"
 |.int _=>T="int"
 |.ref p=>(T="list"/\∃xs,SqL K H p xs)\/(T="tuple"/\∃o,K.lookup p=some o/\o.cls=.type "tuple"/\o.dict=none)\/
   (T="dict"/\((∃kvs,H p=some (.dK kvs))\/∃kvs,H p=some (.dT kvs)))\/(T="set"/\∃S n,H p=some (.set S n))
 |_=>False
theorem BE{pins:List (Addr×Obj)}{σ:St}{H:Hp}{s:Shared}{T:String}{x:V}{v:Value}(I:Inv X pins σ H s)(r:RelV x v)(ty:tyV X.K T x H):
  s.TypeIs v T/\∀a,v=.ref a->∃ob,s.heap.get? a=some ob/\ob.dict=none:=by
 cases x with
 |str z=>
  obtain⟨t,rfl⟩:=r;cases(show T="str" from ty);exact⟨typeIs_str s z t,fun _ e=>nomatch e⟩
 |int i=>
  obtain⟨t,rfl⟩:=r;cases(show T="int" from ty);exact⟨typeIs_int s i t,fun _ e=>nomatch e⟩
 |ref p=>
  cases r;rcases ty with⟨rfl,xs,hq⟩ |⟨rfl,o,hk,hc,hd⟩ |⟨rfl,hk⟩ |⟨rfl,S,n,hk⟩
  ·obtain⟨its,_,pl,_⟩:=I.list hq
   refine⟨pl.isList.typeIs,fun a e=>?_⟩;cases e;obtain⟨o,n,e,c,hd,_⟩:=pl;exact⟨o,e,hd⟩
  ·refine⟨⟨o,I.kIn p o hk,hc⟩,fun a e=>?_⟩
   cases e;exact⟨o,I.kIn _ o hk,hd⟩
  ·have z:∃o,s.heap.get? p=some o/\o.ExactDict:=by
    rcases hk with⟨kvs,hk⟩ |⟨kvs,hk⟩
    ·obtain⟨_,_,_,_,o,_,_,e,ex,_⟩:=I.hok p _ hk
     exact⟨o,e,ex⟩
    ·obtain⟨_,_,_,_,o,_,_,e,ex,_⟩:=I.hok p _ hk
     exact⟨o,e,ex⟩
   obtain⟨o,e,ex⟩:=z;refine⟨⟨o,e,ex.1⟩,fun a e2=>?_⟩;cases e2;exact⟨o,e,ex.2.1⟩
  ·obtain⟨o,_,_,_,e,ex,_⟩:=I.hok p _ hk
   refine⟨⟨o,e,ex.1⟩,fun a e2=>?_⟩;cases e2;exact⟨o,e,ex.2.1⟩
 |_=>exact jd ty
noncomputable def tBM0(K:aa)(T:String)(r:V->List V->Hp->VK->Prop)(to:TE):TE:=fun σ H Q=>to σ H fun x H1=>tyV K T x H1/\r x [] H1 Q
noncomputable def tBM(K:aa)(T:String)(r:V->List V->Hp->VK->Prop)(to:TE)(t:TA):TE:=fun σ H Q=>to σ H fun x H1=>tyV K T x H1/\t σ H1 fun xs H2=>r x xs H2 Q
variable {o e:Expr}{es:List Expr}{to:TE}{t:TA}{name:Str}{apos cpos:Pos}{T id:String}{r:V->List V->Hp->VK->Prop}
theorem Dm(pa:PlainAttrs T)(slot:Slot T name id)(hty:typeOf (.builtin id)=pure (.type "method_descriptor"))(hm:MtR X id r)(ho:PE X o to)
  (hbase:iW o name X.env (eval o X.env)=eval o X.env:=by rfl) (hline:(apos.endLine==cpos.line)=true:=by rfl):PE X (.Call (.Attribute o name apos) [] [] cpos) (tBM0 X.K T r to):=by
 intro pins s σ H Q I h;refine wpAny_Call_method0_late hbase hline (thn (ho pins s σ H _ I h) fun v s1 ⟨x,H1,I1,r1,ty,q1⟩=>?_);obtain⟨h1,h2⟩:=BE I1 r1 ty;exact⟨T,id,pa,slot,hty,h1,h2,eB rfl (Bk (hm pins s1 σ H1 x [] v [] Q I1 r1 .nil q1))⟩
theorem pe_bm(pa:PlainAttrs T)(slot:Slot T name id)(hty:typeOf (.builtin id)=pure (.type "method_descriptor"))(hm:MtR X id r)(ho:PE X o to)(ha:PA X (e::es) t)
  (hbase:iW o name X.env (eval o X.env)=eval o X.env:=by rfl)
  (hfew:((backTo cpos (bC (e::es) X.env)).all (fun x=> !x.1)&&(backToKw cpos (keywordEach [] X.env)).all (fun x=>x.1.isSome)
   &&decide ((e::es).length+([]:List Keyword).length+(if([]:List Keyword).isEmpty then 0 else 1)<30))=true:=by rfl)
  (hline:(apos.endLine==cpos.line)=true:=by rfl) (hs:bC (e::es) X.env=(false,eval e X.env)::bC es X.env:=by rfl) (hplain:(backTo cpos (bC es X.env)).any (·.1)=false:=by rfl):
  PE X (.Call (.Attribute o name apos) (e::es) [] cpos) (tBM X.K T r to t):=by
 intro pins s σ H Q I h;refine wpAny_Call_method_late hbase hfew hline rfl (thn (ho pins s σ H _ I h) fun v s1 ⟨x,H1,I1,r1,ty,q1⟩=>?_);obtain⟨h1,h2⟩:=BE I1 r1 ty;refine⟨T,id,pa,slot,hty,h1,h2,?_⟩;have hA:=ha cpos pins s1 σ H1 _ I1 q1;rw[hs]at hA⊢;refine eB (by show(false||(backTo cpos (bC es X.env)).any (·.1))=false;rw[hplain]<;>rfl) (mz ?_);exact thn hA fun us s2 ⟨vs,H2,I2,r2,q2⟩=>hm pins s2 σ H2 x vs v us Q I2 r1 r2 q2
end
noncomputable def MtM(X:Cx)(id:String)(r:V->List V->Hp->VK->Prop):Prop:=
 ∀(pins:List (Addr×Obj))(s:Shared)(σ:St)(H:Hp)(x:V)(xs:List V)(v:Value)(us:List Value)(Q:VK),Inv X pins σ H s->RelV x v->bJ xs us->r x xs H Q->
  wpAny (model X.prog X.w) X.A (call (.builtin id) (v::us)) (EP X pins σ Q) X.xe s
theorem bJ.one{x:V}{us:List Value}(h:bJ [x] us):∃u,us=[u]/\RelV x u:=by
 cases h with
 |cons r k=>cases k with
  |nil=>exact⟨_,rfl,r⟩
theorem bJ.two{x y:V}{us:List Value}(h:bJ [x,y] us):∃u v,us=[u,v]/\RelV x u/\RelV y v:=by
 cases h with
 |cons r k=>
  obtain⟨v,e,q⟩:=bJ.one k;exact⟨_,v,by rw[e],r,q⟩
theorem bJ.zero:∀{us:List Value},bJ [] us->us=[]
 |_,.nil=>rfl
theorem bJ.dropLast{xs:List V}{us:List Value}(h:bJ xs us):bJ xs.dropLast us.dropLast:=by
 induction h with
 |nil=>exact .nil
 |cons r t ih=>
  cases t with
  |nil=>exact .nil
  |cons q t'=>exact .cons r ih
theorem bJ.eraseIdx:∀{xs:List V}{us:List Value}(i:Nat),bJ xs us->bJ (xs.eraseIdx i) (us.eraseIdx i)
 |_,_,_,.nil=>.nil
 |_,_,0,.cons _ t=>t
 |_,_,i+1,.cons r t=>.cons r (bJ.eraseIdx i t)
theorem bJ.reverse{xs:List V}{us:List Value}(h:bJ xs us):bJ xs.reverse us.reverse:=by
 induction h with
 |nil=>exact .nil
 |cons r t ih=>rw[jJ,jJ];exact bJ.append ih (.cons r .nil)
theorem bJ.rep{xs:List V}{us:List Value}(h:bJ xs us):∀k:Nat,bJ (aO k xs).flatten (aO k us).flatten
 | 0=>.nil
 |k+1=>by
  rw[dU,dU,jL,jL];exact bJ.append h (bJ.rep h k)
theorem yb{α:Type}(l:List α):l.eraseIdx (l.length-1)=l.dropLast:=by
 induction l with
 |nil=>rfl
 |cons a r ih=>
  cases r with
  |nil=>rfl
  |cons b r=>
   have e:(a::b::r).length-1=((b::r).length-1)+1:=by
    have h1:(a::b::r).length=r.length+2:=rfl;have h2:(b::r).length=r.length+1:=rfl;omega
   rw[e,List.eraseIdx_cons_succ,ih];all_goals rfl
theorem sL{α:Type}:∀(l:List α)(i:Nat),(l.eraseIdx i).length<=l.length
 | [],_=>ar _
 |_::_,0=>eE _
 |_::r,i+1=>Nat.succ_le_succ (sL r i)
theorem foldl_rep(its:List Value):∀(k:Nat)(acc:List Value),
  List.foldl (fun x1 x2=>x1++x2) acc.toArray (aO k its.toArray)=(acc++(aO k its).flatten).toArray
 | 0,acc=>by simp
 |k+1,acc=>by
  have e:acc.toArray++its.toArray=(acc++its).toArray:=by simp
  have e2:(acc++its)++(aO k its).flatten=acc++(aO (k+1) its).flatten:=by
   rw[dU,jL,df]
  rw[<-e2,<-foldl_rep its k (acc++its),<-e,dU,lh]
section
variable {X:Cx}{pins:List (Addr×Obj)}{σ:St}{H:Hp}{s:Shared}{l b:Addr}{xs ys zs:List V}
theorem Inv.Ay{its its':List Value}{n:Nat}{f:Array Value->Array Value}{t':Nat}(I:Inv X pins σ H s)(hH:H l=some (.lst xs))
  (e:s.heap.get? l=some {cls:=.type "list",data:=.seq its.toArray n}) (hf:f its.toArray=its'.toArray) (hv:bJ ys its') (hz:ys.length<=sizeLine):
  Inv X pins σ (upd H l (.lst ys)) {s with heap:=s.heap.update l (bW f),toks:=t'}:=by
 have q:=Bc e f;rw[hf]at q;refine I.write (x:=l) (e:=l) (by rw[hH];exact trivial) (.inl rfl) (fun b' u hb hu=>(bx s.heap (bW f) (cz hb)).trans hu) ⟨_,q⟩ ?_;exact⟨hz,its',_,hv,q⟩
theorem Inv.lnew{its:List Value}{t':Nat}(I:Inv X pins σ H s)(hv:bJ ys its)(hz:ys.length<=sizeLine):
  Inv X pins σ (upd H s.heap.objs.size (.lst ys)) {s with heap:=s.heap.push {cls:=.type "list",data:=.seq its.toArray},toks:=t'}:=
 I.laid (fun _ _ q=>ae _ q) (ar _) ⟨hz,its,0,hv,aC _ rfl⟩
theorem Inv.fresh(I:Inv X pins σ H s):H s.heap.objs.size=none:=I.hok.fresh (ar _)
theorem Inv.qC(I:Inv X pins σ H s)(hH:H l=some (.lst xs)):xs.length<=sizeLine/\∃(its:List Value)(n:Nat),bJ xs its/\xs.length=its.length/\s.heap.get? l=some {cls:=.type "list",data:=.seq its.toArray n}:=by
 obtain⟨z,its,n,r,e⟩:=I.hok l _ hH;exact⟨z,its,n,r,r.length,e⟩
theorem vP{n:Nat}(h:n<=sizeLine):eS n=false:=by
 unfold eS;exact decide_eq_false (by omega)
end
section
variable {X:Cx}
noncomputable def yO:V->List V->Hp->VK->Prop:=fun x vs H Q=>∃l xs y,x=.ref l/\vs=[y]/\H l=some (.lst xs)/\xs.length<sizeLine/\Q .non (upd H l (.lst (xs++[y])))
theorem Ax:MtM X "list.append" yO:=by
 intro pins s σ H x vs v us Q I rx rv h;obtain⟨l,xs,y,rfl,rfl,hH,hz,q⟩:=h;cases rx;obtain⟨u,rfl,ru⟩:=rv.one;obtain⟨z,its,n,r,hl,e⟩:=I.qC hH;refine gE F.slot_list_append ⟨_,e,rfl⟩ F.entry_list_append (F.args_list_append_2 _ _) (PySem.list_append l its.toArray n u (by rw[ay];omega)) ⟨e,?_⟩;refine⟨.non,_,I.Ay (its':=its++[u]) hH e (by simp) (r.append (.cons ru .nil)) ?_,rfl,q⟩;rw[aG,bX];omega
noncomputable def yL:V->List V->Hp->VK->Prop:=fun x vs H Q=>∃l b xs zs,x=.ref l/\vs=[.ref b]/\H l=some (.lst xs)/\H b=some (.lst zs)/\xs.length+zs.length<=sizeLine/\Q .non (upd H l (.lst (xs++zs)))
theorem Aw:MtM X "list.extend" yL:=by
 intro pins s σ H x vs v us Q I rx rv h;obtain⟨l,b,xs,zs,rfl,rfl,hH,hB,hz,q⟩:=h;cases rx;obtain⟨u,rfl,ru⟩:=rv.one;cases ru;obtain⟨z,its,n,r,hl,e⟩:=I.qC hH;obtain⟨z2,its2,n2,r2,hl2,e2⟩:=I.qC hB;have hsz:its.toArray.size+its2.toArray.size<=sizeLine:=by rw[ay,ay];omega
 have hlong:¬(!its.toArray.isEmpty&&eS (its.toArray.size+its2.toArray.size))=true:=by
  rw[vP hsz,eZ];exact bp
 refine gE F.slot_list_extend ⟨_,e,rfl⟩ F.entry_list_extend (F.args_list_extend_2 _ _)
  (AutoSeq1.list_extend_list_list_0 l its.toArray n b its2.toArray n2 hlong (by rw[ay];omega) (by omega)) ⟨e,e2,?_⟩
 refine⟨.non,_,I.Ay (its':=its++its2) hH e (by simp) (r.append r2) ?_,rfl,q⟩;rw[aG];omega
noncomputable def rPop:V->List V->Hp->VK->Prop:=fun x vs H Q=>∃l xs y,x=.ref l/\vs=[]/\H l=some (.lst xs)/\xs[xs.length-1]? =some y/\Q y (upd H l (.lst xs.dropLast))
theorem mt_pop:MtM X "list.pop" rPop:=by
 intro pins s σ H x vs v us Q I rx rv h;obtain⟨l,xs,y,rfl,rfl,hH,hy,q⟩:=h;cases rx;have hus:=rv.zero;subst hus;obtain⟨z,its,n,r,hl,e⟩:=I.qC hH;obtain⟨u,hu,ru⟩:=r.get hy;have hy':its.toArray[its.toArray.size-1]? =some u:=by
  show its.toArray[its.length-1]? =some u;rw[<-gI,<-hl];exact hu
 refine gE F.slot_list_pop ⟨_,e,rfl⟩ F.entry_list_pop (F.args_list_pop_1 _) (MeetsSeq.list_pop_last l its.toArray n u hy' (by rw[ay];omega)) ⟨e,?_⟩;refine⟨y,_,I.Ay (its':=its.dropLast) hH e ?_ r.dropLast ?_,ru,q⟩
 ·show its.toArray.eraseIdxIfInBounds (its.toArray.size-1)=its.dropLast.toArray
  rw[ay,rD,yb]
 ·rw[List.length_dropLast]
  omega
noncomputable def CJ:V->List V->Hp->VK->Prop:=fun x vs H Q=>∃l xs i k y,x=.ref l/\vs=[.int i]/\H l=some (.lst xs)∧-(2^63)<=i/\i<2^63/\seqIndex? i xs.length=some k/\xs[k]? =some y/\Q y (upd H l (.lst (xs.eraseIdx k)))
theorem DB:MtM X "list.pop" CJ:=by
 intro pins s σ H x vs v us Q I rx rv h;obtain⟨l,xs,i,k,y,rfl,rfl,hH,h1,h2,hk,hy,q⟩:=h;cases rx;obtain⟨u,rfl,ru⟩:=rv.one;obtain⟨t,rfl⟩:=ru;obtain⟨z,its,n,r,hl,e⟩:=I.qC hH;obtain⟨w,hw,rw'⟩:=r.get hy;refine gE F.slot_list_pop ⟨_,e,rfl⟩ F.entry_list_pop (F.args_list_pop_2 _ _)
  (MeetsSeq.list_pop_at l its.toArray n i t k w (fitsIndex_both h1 h2) (by rw[ay,<-hl];exact hk) (by rw[<-gI];exact hw) (by rw[ay];omega)) ⟨e,?_⟩
 refine⟨y,_,I.Ay (its':=its.eraseIdx k) hH e ?_ (r.eraseIdx k) ?_,rw',q⟩
 ·show its.toArray.eraseIdxIfInBounds k=(its.eraseIdx k).toArray
  rw[rD]
 ·have :=sL xs k
  omega
noncomputable def vC:V->List V->Hp->VK->Prop:=fun x vs H Q=>∃l xs,x=.ref l/\vs=[]/\H l=some (.lst xs)/\Q .non (upd H l (.lst xs.reverse))
theorem xR:MtM X "list.reverse" vC:=by
 intro pins s σ H x vs v us Q I rx rv h;obtain⟨l,xs,rfl,rfl,hH,q⟩:=h;cases rx;have hus:=rv.zero;subst hus;obtain⟨z,its,n,r,hl,e⟩:=I.qC hH;refine gE F.slot_list_reverse ⟨_,e,rfl⟩ F.entry_list_reverse (F.args_list_reverse_1 _) (AutoSeq1.list_reverse_list_0 l its.toArray n (by rw[ay];omega)) ⟨e,?_⟩;refine⟨.non,_,I.Ay (its':=its.reverse) hH e (by simp) r.reverse ?_,rfl,q⟩;rw[dk];omega
noncomputable def CM:V->List V->Hp->VK->Prop:=fun x vs H Q=>∃l xs,x=.ref l/\vs=[]/\H l=some (.lst xs)/\Q .non (upd H l (.lst []))
theorem DC:MtM X "list.clear" CM:=by
 intro pins s σ H x vs v us Q I rx rv h;obtain⟨l,xs,rfl,rfl,hH,q⟩:=h;cases rx;have hus:=rv.zero;subst hus;obtain⟨z,its,n,r,hl,e⟩:=I.qC hH;refine gE F.slot_list_clear ⟨_,e,rfl⟩ F.entry_list_clear (F.args_list_clear_1 _) (AutoSeq1.list_clear_list_0 l its.toArray n (by rw[ay];omega)) ⟨e,?_⟩;exact⟨.non,_,I.Ay (its':=[]) (ys:=[]) hH e rfl .nil (aM _),rfl,q⟩
noncomputable def rCat:R2:=fun x y H Q=>∃l b xs zs,x=.ref l/\y=.ref b/\H l=some (.lst xs)/\H b=some (.lst zs)/\xs.length+zs.length<=sizeLine/\∀p,H p=none->Q (.ref p) (upd H p (.lst (xs++zs)))
theorem op_cat:OpR X (cY .Add) rCat:=by
 intro pins s σ H x y v u Q I rx ry h;obtain⟨l,b,xs,zs,rfl,rfl,hH,hB,hz,q⟩:=h;cases rx;cases ry;obtain⟨z,its,n,r,hl,e⟩:=I.qC hH;obtain⟨z2,its2,n2,r2,hl2,e2⟩:=I.qC hB;refine PySem.P.add_list e e2 ?_ (by rw[ay,ay];omega);have ea:its.toArray++its2.toArray=(its++its2).toArray:=by simp
 rw[ea];exact⟨.ref _,_,I.lnew (t':=s.toks) (r.append r2) (by rw[aG];omega),rfl,q _ I.fresh⟩
noncomputable def rRep:R2:=fun x y H Q=>∃l k xs,x=.ref l/\y=.int k/\H l=some (.lst xs)∧-(2^63)<=k/\k<2^63/\xs.length*k.toNat<=sizeLine/\
 ∀p,H p=none->Q (.ref p) (upd H p (.lst (aO k.toNat xs).flatten))
theorem len_rep{α:Type}(xs:List α)(k:Nat):(aO k xs).flatten.length=k*xs.length:=by
 induction k with
 |zero=>simp
 |succ k ih=>rw[dU,jL,aG,ih,Nat.succ_mul,Be]
theorem op_rep:OpR X (cY .Mult) rRep:=by
 intro pins s σ H x y v u Q I rx ry h;obtain⟨l,k,xs,rfl,rfl,hH,h1,h2,hz,q⟩:=h;cases rx;obtain⟨t,rfl⟩:=ry;obtain⟨z,its,n,r,hl,e⟩:=I.qC hH;have hlen:its.toArray.size*k.toNat<=sizeLine:=by rw[ay,<-hl];exact hz
 have hcap:¬its.toArray.size*k.toNat>(2^63-1)/8:=by
  have :(sizeLine:Nat)<=(2^63-1)/8:=by decide
  omega
 have hfit:¬(!Builtin.List.listFitsIndex k)=true:=by
  rw[fitsIndex_both h1 h2];exact bp
 have hlong:¬eS (its.toArray.size*k.toNat)=true:=by
  rw[vP hlen];exact bp
 have hnew:List.foldl (fun x1 x2=>x1++x2) #[] (aO (if its.toArray.isEmpty=true then 0 else k.toNat) its.toArray)=(aO k.toNat its).flatten.toArray:=by
  have f0:∀m:Nat,List.foldl (fun x1 x2=>x1++x2) #[] (aO m its.toArray)=(aO m its).flatten.toArray:=fun m=>by
   have :=foldl_rep its m []
   rw[tI]at this;exact this
  rw[f0];cases its with
  |nil=>simp
  |cons a r'=>rw[if_neg (by simp)]
 refine wpAny_binaryOp_repeat_ref (T:="list") (U:="int") (by decide) ⟨_,e,rfl⟩ (fun s'=>typeIs_int s' k t) noFill_list_mul F.fills_int_mul F.slot_int_rmul repeat_list F.slot_int_index.lookup
  (gE F.slot_int_rmul (typeIs_int s k t) F.entry_int_rmul (F.args_int_rmul_2 _ _) (int___rmul___int_list k t l its.toArray n)
   ⟨e,rfl,⟨_,e,rfl⟩,gE F.slot_list_mul ⟨_,e,rfl⟩ F.entry_list_mul (F.args_list_mul_2 _ _) (AutoListH.list___mul___list_int_3 l its.toArray n k t hfit hcap hlong) ⟨e,?_⟩⟩)
 rw[hnew];exact⟨.ref _,_,I.lnew (t':=s.toks) (r.rep k.toNat) (by rw[len_rep,Nat.mul_comm];exact hz),rfl,q _ I.fresh⟩
end
section
variable {κ:Type}[DecidableEq κ]
noncomputable def eL(kvs:List (κ×V))(k:κ):Option V:=(kvs.find? fun kv=>decide (kv.1=k)).map (·.2)
noncomputable def putK(kvs:List (κ×V))(k:κ)(v:V):List (κ×V):=
 if(kvs.any fun kv=>decide (kv.1=k))=true then kvs.map (fun kv=>if kv.1=k then(kv.1,v)else kv)else kvs++[(k,v)]
theorem dZ{p:κ×V}{r:List (κ×V)}{k:κ}(e:p.1=k):eL (p::r) k=some p.2:=by simp[eL,cD,e]
theorem d4{p:κ×V}{r:List (κ×V)}{k:κ}(e:¬p.1=k):eL (p::r) k=eL r k:=by simp[eL,cD,e]
theorem mF(k:κ):∀kvs:List (κ×V),(kvs.any fun kv=>decide (kv.1=k))=(eL kvs k).isSome
 | []=>rfl
 |p::r=>by
  rw[jZ];by_cases e:p.1=k
  ·simp only[dZ e,decide_eq_true e,Bool.true_or,Bo]
  ·rw[d4 e,decide_eq_false e,Bool.false_or];exact mF k r
theorem vk(k j:κ)(y:V):∀kvs:List (κ×V),eL (kvs.map fun kv=>if kv.1=k then(kv.1,y)else kv) j=(eL kvs j).map fun x=>if j=k then y else x
 | []=>rfl
 |p::r=>by
  have ih:=vk k j y r;rw[aN];by_cases h:p.1=k
  ·rw[if_pos h]
   by_cases e:p.1=j
   ·rw[dZ (p:=(p.1,y)) e,dZ e,hX,if_pos (e.symm.trans h)]
   ·rw[d4 (p:=(p.1,y)) e,d4 e,ih]
  ·rw[if_neg h]
   by_cases e:p.1=j
   ·rw[dZ (p:=p) e,dZ e,hX,if_neg (fun z=>h (e.trans z))]
   ·rw[d4 (p:=p) e,d4 e,ih]
theorem sh(k j:κ)(y:V):∀kvs:List (κ×V),eL kvs k=none->eL (kvs++[(k,y)]) j=if j=k then some y else eL kvs j
 | [],_=>by
  by_cases e:k=j
  ·rw[if_pos e.symm];exact dZ (p:=(k,y)) e
  ·rw[if_neg (fun z=>e z.symm)];exact d4 (p:=(k,y)) e
 |p::r,hn=>by
  rw[List.cons_append];have hk:¬p.1=k:=fun z=>by rw[dZ z]at hn;cases hn
  rw[d4 hk]at hn;have ih:=sh k j y r hn;by_cases e:p.1=j
  ·rw[dZ e,dZ e,if_neg (fun z=>hk (e.trans z))]
  ·rw[d4 e,d4 e,ih]
theorem vi(kvs:List (κ×V))(k j:κ)(y:V):eL (putK kvs k y) j=if j=k then some y else eL kvs j:=by
 unfold putK;by_cases a:(kvs.any fun kv=>decide (kv.1=k))=true
 ·rw[if_pos a,vk]
  rw[mF]at a;by_cases e:j=k
  ·obtain⟨x,hx⟩:=dF.mp a
   rw[if_pos e,e,hx,hX,if_pos rfl]
  ·rw[if_neg e]
   cases eL kvs j with
   |none=>rfl
   |some x=>rw[hX,if_neg e]
 ·rw[if_neg a]
  refine sh k j y kvs ?_;rw[mF]at a;cases q:eL kvs k with
  |none=>rfl
  |some x=>rw[q]at a;exact(a rfl).elim
theorem fA(kvs:List (κ×V))(k:κ)(v:V):(putK kvs k v).length<=kvs.length+1:=by
 unfold putK;split
 ·rw[ag];omega
 ·rw[aG,bj,fV];omega
theorem k7.jj{o:Option V}{u:Option Value}(r:k7 o u):o.isSome=u.isSome:=by
 cases o with
 |none=>cases u with
  |none=>rfl
  |some _=>exact(show False from r).elim
 |some _=>cases u with
  |none=>exact(show False from r).elim
  |some _=>rfl
theorem k7.getD{o:Option V}{u:Option Value}{d:V}{d':Value}(r:k7 o u)(rd:RelV d d'):RelV (o.getD d) (u.getD d'):=by
 cases o with
 |none=>cases u with
  |none=>exact rd
  |some _=>exact(show False from r).elim
 |some _=>cases u with
  |none=>exact(show False from r).elim
  |some _=>exact r
theorem KV.val{kvs:List (κ×V)}{vs:List (κ×Value)}(r:KV kvs vs)(k:κ):k7 (eL kvs k) (uS vs k):=by
 unfold KV at r
 induction r with
 |nil=>exact True.intro
 | @cons p q ps qs h t ih=>
  obtain⟨h1,h2⟩:=h;by_cases e:p.1=k
  ·have e':q.1=k:=h1.symm.trans e
   have b:uS (q::qs) k=some q.2:=by simp[uS,cD,e']
   rw[dZ e,b];exact h2
  ·have e':¬q.1=k:=fun z=>e (h1.trans z)
   have b:uS (q::qs) k=uS qs k:=by simp[uS,cD,e']
   rw[d4 e,b];exact ih
theorem KV.any{kvs:List (κ×V)}{vs:List (κ×Value)}(r:KV kvs vs)(k:κ):(kvs.any fun kv=>decide (kv.1=k))=vs.any fun kv=>decide (kv.1=k):=by
 unfold KV at r
 induction r with
 |nil=>rfl
 |cons h t ih=>rw[jZ,jZ,ih,h.1]
theorem KV.repl{kvs:List (κ×V)}{vs:List (κ×Value)}(r:KV kvs vs)(k:κ){y:V}{u:Value}(ry:RelV y u):
  KV (kvs.map fun kv=>if kv.1=k then(kv.1,y)else kv) (vs.map fun kv=>if kv.1=k then(kv.1,u)else kv):=by
 unfold KV at r⊢
 induction r with
 |nil=>exact .nil
 | @cons p q ps qs h t ih=>
  rw[aN,aN];refine .cons ?_ ih;obtain⟨h1,h2⟩:=h;by_cases e:p.1=k
  ·rw[if_pos e,if_pos (h1.symm.trans e)];exact⟨h1,ry⟩
  ·rw[if_neg e,if_neg (fun z=>e (h1.trans z))];exact⟨h1,h2⟩
theorem KV.put{kvs:List (κ×V)}{vs:List (κ×Value)}(r:KV kvs vs)(k:κ){y:V}{u:Value}(ry:RelV y u):KV (putK kvs k y) (stored vs k u):=by
 unfold putK stored;rw[r.any k];by_cases e:(vs.any fun kv=>decide (kv.1=k))=true
 ·rw[if_pos e,if_pos e];exact r.repl k ry
 ·rw[if_neg e,if_neg e];exact Paired.snoc r ⟨rfl,ry⟩
theorem KV.keys{kvs:List (κ×V)}{vs:List (κ×Value)}(r:KV kvs vs):kvs.map (·.1)=vs.map (·.1):=by
 unfold KV at r
 induction r with
 |nil=>rfl
 |cons h t ih=>rw[aN,aN,ih,h.1]
theorem KV.length{kvs:List (κ×V)}{vs:List (κ×Value)}(r:KV kvs vs):kvs.length=vs.length:=nG r
end
theorem jO{P:Program}{w:World}{k:Key}{u:Value}(r:RelV (kV k) u):(bq P w).is k u=true:=by
 cases k with
 |inl i=>obtain⟨t,e⟩:=(show ∃t,u=w8 i t from r);subst e;exact vV P w i t
 |inr x=>obtain⟨t,e⟩:=(show ∃t,u=iX x t from r);subst e;exact oJ P w x t
theorem sP{P:Program}{w:World}:∀{ks:List Key}{us:List Value},bJ (ks.map kV) us->ItemsAre (bq P w) ks us
 | [],_,r=>by rw[kX]at r;cases r;exact .nil
 |k::ks,_,r=>by
  rw[aN]at r;cases r with
  |cons h t=>exact .cons (jO h) (sP t)
noncomputable abbrev KT(H:Hp):List (List Key×V)->List (List Key×Addr×Value)->Prop:=Paired fun p q=>p.1=q.1/\H q.2.1=some (.tup (p.1.map kV))/\RelV p.2 q.2.2
theorem KT.val{H:Hp}{kvs:List (List Key×V)}{xs:List (List Key×Addr×Value)}(r:KT H kvs xs)(k:List Key):k7 (eL kvs k) ((atKey xs k).map (·.2)):=by
 induction r with
 |nil=>exact True.intro
 | @cons p q ps qs h t ih=>
  obtain⟨h1,_,h2⟩:=h;by_cases e:p.1=k
  ·have e':q.1=k:=h1.symm.trans e
   have b:atKey (q::qs) k=some q.2:=by simp[atKey,cD,e']
   rw[dZ e,b];exact h2
  ·have e':¬q.1=k:=fun z=>e (h1.trans z)
   have b:atKey (q::qs) k=atKey qs k:=by simp[atKey,cD,e']
   rw[d4 e,b];exact ih
theorem KT.repl{H:Hp}{kvs:List (List Key×V)}{xs:List (List Key×Addr×Value)}(r:KT H kvs xs)(k:List Key){y:V}{u:Value}(ry:RelV y u):
  KT H (kvs.map fun kv=>if kv.1=k then(kv.1,y)else kv) (xs.map (putAt k u)):=by
 induction r with
 |nil=>exact .nil
 | @cons p q ps qs h t ih=>
  rw[aN,aN];refine .cons ?_ ih;obtain⟨h1,h2,h3⟩:=h;unfold putAt;by_cases e:p.1=k
  ·rw[if_pos e,if_pos (h1.symm.trans e)];exact⟨h1,h2,ry⟩
  ·rw[if_neg e,if_neg (fun z=>e (h1.trans z))];exact⟨h1,h2,h3⟩
theorem KT.put{H:Hp}{kvs:List (List Key×V)}{xs:List (List Key×Addr×Value)}(r:KT H kvs xs)(k:List Key){b:Addr}{y:V}{u:Value}(hb:H b=some (.tup (k.map kV)))(ry:RelV y u):
  KT H (putK kvs k y) (storedH xs k b u):=by
 have e:(kvs.any fun kv=>decide (kv.1=k))=(atKey xs k).isSome:=by
  rw[mF,(r.val k).jj,pk]
 unfold putK storedH;rw[e];by_cases q:(atKey xs k).isSome=true
 ·rw[if_pos q,if_pos q];exact r.repl k ry
 ·rw[if_neg q,if_neg q];exact Paired.snoc r ⟨rfl,hb,ry⟩
theorem KT.keeps{H H':Hp}{kvs:List (List Key×V)}{xs:List (List Key×Addr×Value)}(r:KT H kvs xs)(ht:∀b ys,H b=some (.tup ys)->H' b=some (.tup ys)):KT H' kvs xs:=
 Paired.gM r fun _ _ z=>⟨z.1,ht _ _ z.2.1,z.2.2⟩
section
variable {P:Program}{w:World}{H:Hp}{h:Heap}{a:Addr}
theorem rd_of{u:HO}(ok:HOk P w H h)(e:Rd H a u):cJ P w H h a u:=e.ok ok
theorem iQ{kvs:List (Key×V)}(ok:HOk P w H h)(e:Rd H a (.dK kvs)):kvs.length<=sizeLine/\(a==cL)=false/\∃vs,KV kvs vs/\h.DictOf (bq P w) a vs:=
 show cJ P w H h a (.dK kvs)from rd_of ok e
theorem wk{kvs:List (Key×V)}(ok:HOk P w H h)(e:H a=some (.dK kvs)):kvs.length<=sizeLine/\(a==cL)=false/\∃vs,KV kvs vs/\h.DictOf (bq P w) a vs:=iQ ok (.inl e)
theorem l9{ks:List Key}(ok:HOk P w H h)(e:H a=some (.tup (ks.map kV))):(mw (bq P w)).is h ks a:=by
 obtain⟨_,its,r,o,h1,h2,n,h3⟩:=(show cJ P w H h a (.tup (ks.map kV))from ok a _ e);exact⟨o,its.toArray,n,h1,h2,h3,by simpa using sP r⟩
theorem oO{kvs:List (List Key×V)}(ok:HOk P w H h)(e:Rd H a (.dT kvs)):kvs.length<=sizeLine/\(a==cL)=false/\
  ∃xs,KT H kvs xs/\h.DictOfH (mw (bq P w)) a xs:=by
 obtain⟨z,y,xs,r,o,es,ep,h1,h2,h3,h4,h5⟩:=(show cJ P w H h a (.dT kvs)from rd_of ok e);refine⟨z,y,xs,r,o,es,ep,h1,h2,h3,h4,fun x hx=>?_,h5⟩;have all:∀{l:List (List Key×V)}{m:List (List Key×Addr×Value)},KT H l m->∀x∈m,(mw (bq P w)).is h x.1 x.2.1:=by
  intro l m q
  induction q with
  |nil=>intro x hx;exact nomatch hx
  | @cons p q ps qs hq t ih=>
   intro x hx;rcases aK.mp hx with e|hx
   ·subst e
    exact l9 ok (by rw[<-hq.1];exact hq.2.1)
   ·exact ih x hx
 exact all r x hx
theorem dt_of{kvs:List (List Key×V)}(ok:HOk P w H h)(e:H a=some (.dT kvs)):kvs.length<=sizeLine/\(a==cL)=false/\
  ∃xs,KT H kvs xs/\h.DictOfH (mw (bq P w)) a xs:=oO ok (.inl e)
end
noncomputable def j7(H:Hp)(a:Addr)(y:V)(r:Option V):Prop:=
 (∃kvs k,Rd H a (.dK kvs)/\y=kV k/\r=eL kvs k)\/∃kvs k b,Rd H a (.dT kvs)/\y=.ref b/\H b=some (.tup (k.map kV))/\r=eL kvs k
noncomputable def yv(H:Hp)(a:Addr)(y v:V)(H':Hp):Prop:=
 (∃kvs k,H a=some (.dK kvs)/\y=kV k/\kvs.length<sizeLine/\H'=upd H a (.dK (putK kvs k v)))\/
 ∃kvs k b,H a=some (.dT kvs)/\y=.ref b/\H b=some (.tup (k.map kV))/\kvs.length<sizeLine/\H'=upd H a (.dT (putK kvs k v))
theorem yv.k{H:Hp}{a:Addr}{kvs:List (Key×V)}{k:Key}{v:V}(e:H a=some (.dK kvs))(hl:kvs.length<sizeLine):yv H a (kV k) v (upd H a (.dK (putK kvs k v))):=.inl ⟨kvs,k,e,rfl,hl,rfl⟩
section
variable {X:Cx}{pins:List (Addr×Obj)}{σ:St}{H:Hp}{s:Shared}{a:Addr}{y v:V}{u r:Value}{o:Option V}{A:Around}{E:Value->Shared->Prop}
theorem Inv.big(I:Inv X pins σ H s):cL<s.heap.objs.size:=by
 have h:bV<s.heap.objs.size:=(I.mod.glob.keeps I.bk).lt;exact fq (by decide) h
theorem AL{Q:Value->Shared->Prop}(hu:A.units+1<cLine)(I:Inv X pins σ H s)(g:j7 H a y (some v))(ry:RelV y u)(h:∀w' s',Inv X pins σ H s'->RelV v w'->Q w' s'):
  wpAny (model X.prog X.w) A (zH (.ref a) u) Q E s:=by
 rcases g with⟨kvs,k,e,ey,l⟩ |⟨kvs,k,b,e,ey,eb,l⟩
 ·subst ey
  obtain⟨z,hd,vs,rel,dd⟩:=iQ I.hok e;obtain⟨w',hw,rw'⟩:=k7.some_of (v:=v) (o:=uS vs k) (by rw[l];exact rel.val k);exact wpAny_getItem_of (jO ry) dd.mapOf hw (h w' _ (I.tok _) rw')
 ·subst ey
  cases(show u=bI b from ry);obtain⟨z,hd,xs,rel,dd⟩:=oO I.hok e;obtain⟨w',hw,rw'⟩:=k7.some_of (v:=v) (o:=(atKey xs k).map (·.2)) (by rw[l];exact rel.val k);obtain⟨p,hp,hp2⟩:=gf.mp hw;refine wpAny_getItem_heap (eR hu) (l9 I.hok eb) dd hp ?_;rw[hp2];exact h w' _ (I.tok _) rw'
theorem d_in{Q:Value->Shared->Prop}(hu:A.units+1<cLine)(I:Inv X pins σ H s)(g:j7 H a y o)(ry:RelV y u)(h:∀s',Inv X pins σ H s'->Q (.bool o.isSome) s'):
  wpAny (model X.prog X.w) A (ck .In u (.ref a)) Q E s:=by
 rcases g with⟨kvs,k,e,ey,l⟩ |⟨kvs,k,b,e,ey,eb,l⟩
 ·subst ey
  obtain⟨z,hd,vs,rel,dd⟩:=iQ I.hok e;refine wpAny_in_of (jO ry) hd dd.mapOf ?_;rw[<-(rel.val k).jj,<-l];exact h _ (I.tok _)
 ·subst ey
  cases(show u=bI b from ry);obtain⟨z,hd,xs,rel,dd⟩:=oO I.hok e;refine wpAny_in_heap (eR hu) (l9 I.hok eb) hd dd ?_;have q:=(rel.val k).jj;rw[pk]at q;rw[<-q,<-l];exact h _ (I.tok _)
theorem d_notIn{Q:Value->Shared->Prop}(hu:A.units+1<cLine)(I:Inv X pins σ H s)(g:j7 H a y o)(ry:RelV y u)(h:∀s',Inv X pins σ H s'->Q (.bool (!o.isSome)) s'):
  wpAny (model X.prog X.w) A (ck .NotIn u (.ref a)) Q E s:=by
 rcases g with⟨kvs,k,e,ey,l⟩ |⟨kvs,k,b,e,ey,eb,l⟩
 ·subst ey
  obtain⟨z,hd,vs,rel,dd⟩:=iQ I.hok e;refine wpAny_notIn_of (jO ry) hd dd.mapOf ?_;rw[<-(rel.val k).jj,<-l];exact h _ (I.tok _)
 ·subst ey
  cases(show u=bI b from ry);obtain⟨z,hd,xs,rel,dd⟩:=oO I.hok e;refine wpAny_notIn_heap (eR hu) (l9 I.hok eb) hd dd ?_;have q:=(rel.val k).jj;rw[pk]at q;rw[<-q,<-l];exact h _ (I.tok _)
theorem mZ{h':Heap}{t':Nat}{ob:HO}(I:Inv X pins σ H s)(mu:Mut (H a))(hs:dH a s.heap h')(he:∃q,h'.get? a=some q)(new:cJ X.prog X.w (upd H a ob) h' a ob):
  Inv X pins σ (upd H a ob) {s with heap:=h',toks:=t'}:=
 I.write (x:=a) (e:=a) mu (.inl rfl) (fun b q hb z=>(hs.2 b hb).trans z) he new
theorem uB{P:Program}{w:World}{H':Hp}{h':Heap}{kvs:List (Key×V)}{vs:List (Key×Value)}(z:kvs.length<=sizeLine)(hd:(a==cL)=false)(rel:KV kvs vs)(dd:h'.DictOf (bq P w) a vs):
  cJ P w H' h' a (.dK kvs):=⟨z,hd,vs,rel,dd⟩
theorem AK{H':Hp}{Q:Unit->Shared->Prop}(hu:A.units+1<cLine)(I:Inv X pins σ H s)(g:yv H a y v H')(ry:RelV y u)(rv:RelV v r)(h:∀s',Inv X pins σ H' s'->Q () s'):
  wpAny (model X.prog X.w) A (setItem (.ref a) u r) Q E s:=by
 rcases g with⟨kvs,k,e,ey,l,eH⟩ |⟨kvs,k,b,e,ey,eb,l,eH⟩
 ·subst ey eH
  obtain⟨z,hd,vs,rel,dd⟩:=wk I.hok e;have hz:vs.length<=sizeLine:=by rw[<-rel.length];exact z
  have hl:(putK kvs k v).length<=sizeLine:=by have :=fA kvs k v;omega
  refine wpAny_setItem_pairs (hsz:=hz) (jO ry) dd fun h' dd' hs=>h _ ?_;have he:∃q,h'.get? a=some q:=let⟨q,_,_,hq,_⟩:=dd';⟨q,hq⟩;exact mZ I (by rw[e];exact True.intro) hs he (uB hl hd (rel.put k rv) dd')
 ·subst ey eH
  cases(show u=bI b from ry);obtain⟨z,hd,xs,rel,dd⟩:=dt_of I.hok e;have hz:xs.length<=sizeLine:=by rw[<-nG rel];exact z
  have hl:(putK kvs k v).length<=sizeLine:=by have :=fA kvs k v;omega
  refine wpAny_setItem_heap (hsz:=hz) (eR hu) (l9 I.hok eb) dd fun h' dd' hs=>h _ ?_;obtain⟨q,es,ep,hq,h2,h3,h4,_,h5⟩:=dd';refine mZ I (by rw[e];exact True.intro) hs ⟨q,hq⟩ ⟨hl,hd,_,(rel.put k eb rv).keeps fun c ys ec=>?_,q,es,ep,hq,h2,h3,h4,h5⟩;rw[aI (d5 ec e (fun z=>nomatch z))];exact ec
end
section
variable {X:Cx}{pins:List (Addr×Obj)}{σ:St}{H:Hp}{s:Shared}{a:Addr}{kvs:List (Key×V)}{k:Key}{u:Value}{A:Around}{E:Value->Shared->Prop}
theorem d_len{Q:Value->Shared->Prop}(I:Inv X pins σ H s)(e:Rd H a (.dK kvs))(h:∀t s',Inv X pins σ H s'->Q (.int kvs.length t) s'):wpAny (model X.prog X.w) A (call (.builtin "len") [.ref a]) Q E s:=by
 obtain⟨z,hd,vs,rel,dd⟩:=iQ I.hok e;refine call_len_dict hd dd (by rw[<-rel.length];rw[pH]at z;omega) ?_;rw[<-rel.length];exact h _ _ (I.tok _)
end
noncomputable def NoSl(i:Expr):Prop:=∀ov iv,subscripted i false ov iv=operate [ov,iv] (zH ov iv)
theorem subD_of{prog:Program}{w:World}{A:Around}{E:Value->Shared->Prop}{s:Shared}{env:Env}{value slice:Expr}{pos:Pos}{T id:String}{Q:Value->Shared->Prop}
  (hl:A4 (.type T) "__getitem__"=pure (some (.builtin id)))(hs:NoSl slice)
  (h:wpAny (model prog w) A (eval value env) (fun o s₁=>wpAny (model prog w) A (eval slice env) (fun i s₂=>s₂.TypeIs o T/\wpAny (model prog w) A (zH o i) Q E s₂) E s₁) E s):
  wpAny (model prog w) A (eval (.Subscript value slice pos) env) Q E s:=by
 refine Ba (dm h (fun o s₁ h₁=>dm h₁ (fun i s₂ h₂=>?_) fun _ _ x=>x) fun _ _ x=>x);obtain⟨hT,h₂⟩:=h₂;unfold rH;refine af ?_;rw[getitemInPython_of_ne hT.not_modules];refine af (nH hT hl ?_);have fin:wpAny (model prog w) A (subscripted slice false o i) (fun r s₃=>wpAny (model prog w) A (letTemporaryGo value o r>>=fun _=>pure r) Q E s₃) E s₂:=by
  rw[hs o i];exact wpAny_operating (dm h₂ (fun r s₃ h₃=>af (wpAny_letTemporaryGo (aj h₃))) fun _ _ x=>x)
 first
  |exact aj (af fin)
  |exact af (aj (af fin))
  |exact af fin
theorem wo{X:Cx}{pins:List (Addr×Obj)}{σ:St}{H:Hp}{s:Shared}{a:Addr}{y:V}{o:Option V}(I:Inv X pins σ H s)(g:j7 H a y o):s.TypeIs (.ref a) "dict":=by
 rcases g with⟨kvs,k,e,_,_⟩ |⟨kvs,k,b,e,_,_,_⟩
 ·obtain⟨_,_,vs,_,dd⟩:=iQ I.hok e
  exact dd.typeIs
 ·obtain⟨_,_,xs,_,dd⟩:=oO I.hok e
  exact dd.typeIs
noncomputable def BV(td ty:TE):TE:=fun σ H Q=>td σ H fun x H1=>ty σ H1 fun y H2=>∃a v,x=.ref a/\j7 H2 a y (some v)/\Q v H2
noncomputable def tDIn(ty td:TE):TE:=fun σ H Q=>ty σ H fun y H1=>td σ H1 fun x H2=>∃a o,x=.ref a/\j7 H2 a y o/\Q (.bl o.isSome) H2
noncomputable def pO(ty td:TE):TE:=fun σ H Q=>ty σ H fun y H1=>td σ H1 fun x H2=>∃a o,x=.ref a/\j7 H2 a y o/\Q (.bl (!o.isSome)) H2
noncomputable def CA(td ty tv:TE):TS:=fun D σ H=>tv σ H fun v H1=>td σ H1 fun x H2=>ty σ H2 fun y H3=>∃a H4,x=.ref a/\yv H3 a y v H4/\D.nx σ H4
section
variable {X:Cx}{o i e value:Expr}{pos pos' tpos:Pos}{td ty tv:TE}
theorem pe_dget(hu:X.A.units+1<cLine)(ho:PE X o td)(hi:PE X i ty)(hs:NoSl i):PE X (.Subscript o i pos) (BV td ty):=by
 intro pins s σ H Q I h;refine subD_of PySem.F.slot_dict_getitem.lookup hs (thn (ho pins s σ H _ I h) fun u s1 ⟨x,H1,I1,rx,q1⟩=>thn (hi pins s1 σ H1 _ I1 q1) fun iv s2 ⟨y,H2,I2,ry,a,v,ex,g,q2⟩=>?_);subst ex;obtain rfl:u=bI a:=rx;exact⟨wo I2 g,AL hu I2 g ry fun w' s3 I3 rw'=>⟨v,H2,I3,rw',q2⟩⟩
theorem Dq(hu:X.A.units+1<cLine)(hi:PE X i ty)(ho:PE X o td):PC X .In i o (tDIn ty td):=by
 intro pins s σ H Q I h;refine thn (hi pins s σ H _ I h) fun iv s1 ⟨y,H1,I1,ry,q1⟩=>thn (ho pins s1 σ H1 _ I1 q1) fun u s2 ⟨x,H2,I2,rx,a,ov,ex,g,q2⟩=>?_;subst ex;obtain rfl:u=bI a:=rx;exact d_in hu I2 g ry fun s3 I3=>⟨.bl ov.isSome,H2,I3,rfl,q2⟩
theorem sC(hu:X.A.units+1<cLine)(hi:PE X i ty)(ho:PE X o td):PC X .NotIn i o (pO ty td):=by
 intro pins s σ H Q I h;refine thn (hi pins s σ H _ I h) fun iv s1 ⟨y,H1,I1,ry,q1⟩=>thn (ho pins s1 σ H1 _ I1 q1) fun u s2 ⟨x,H2,I2,rx,a,ov,ex,g,q2⟩=>?_;subst ex;obtain rfl:u=bI a:=rx;exact d_notIn hu I2 g ry fun s3 I3=>⟨.bl (!ov.isSome),H2,I3,rfl,q2⟩
theorem ps_dput(hu:X.A.units+1<cLine)(ho:PE X o td)(hi:PE X i ty)(hv:PE X value tv)(hs:mx value (some (.Subscript o i pos')) pos.line X.env=pure false):
  PS X (.Assign [.Subscript o i pos'] value pos) (CA td ty tv):=by
 intro pins s σ H D I h;refine wpAny_Assign_Subscript (thn (hv pins s σ H _ I h) fun r s1 ⟨v,H1,I1,rv,q1⟩=>thn (ho pins s1 σ H1 _ I1 q1) fun u s2 ⟨x,H2,I2,rx,q2⟩=>thn (hi pins s2 σ H2 _ I2 q2) fun iv s3 ⟨y,H3,I3,ry,a,H4,ex,g,q3⟩=>?_) hs;subst ex;obtain rfl:u=bI a:=rx;exact AK hu I3 g ry rv fun s4 I4=>⟨σ,H4,I4,q3⟩
end
theorem wm{P:Program}{w:World}{H:Hp}(h:Heap)(hb:cL<h.objs.size):cJ P w H (h.push {cls:=.type "dict",data:=.dict #[]}) h.objs.size (.dK []):=
 ⟨aM _,beq_eq_false_iff_ne.mpr (cz (aE hb)),[],.nil,zO h⟩
theorem D1{P:Program}{w:World}{H:Hp}(h:Heap)(hb:cL<h.objs.size):cJ P w H (h.push {cls:=.type "dict",data:=.dict #[]}) h.objs.size (.dT []):=
 ⟨aM _,beq_eq_false_iff_ne.mpr (cz (aE hb)),[],.nil,_,#[],0,aC _ rfl,⟨rfl,rfl,rfl⟩,rfl,rfl,cA⟩
noncomputable def BU:TE:=fun _ H Q=>∀p,H p=none->Q (.ref p) (upd H p (.dK []))
noncomputable def BS:TE:=fun _ H Q=>∀p,H p=none->Q (.ref p) (upd H p (.dT []))
section
variable {X:Cx}{pos:Pos}
theorem Df:PE X (.Dict [] [] pos) BU:=fun pins s σ H Q I h=>
 wpAny_Dict_empty ⟨.ref s.heap.objs.size,_,I.laid (a:=s.heap.objs.size) (o:=.dK []) (t':=s.toks) (fun _ _ q=>ae _ q) (ar _) (wm s.heap I.big),rfl,h _ (I.hok.fresh (ar _))⟩
theorem De:PE X (.Dict [] [] pos) BS:=fun pins s σ H Q I h=>
 wpAny_Dict_empty ⟨.ref s.heap.objs.size,_,I.laid (a:=s.heap.objs.size) (o:=.dT []) (t':=s.toks) (fun _ _ q=>ae _ q) (ar _) (D1 s.heap I.big),rfl,h _ (I.hok.fresh (ar _))⟩
end
noncomputable def tN:List (TE×TE)->St->Hp->(List (V×V)->Hp->Prop)->Prop
 | [],_,H,Q=>Q [] H
 | (tk,tv)::r,σ,H,Q=>tk σ H fun x H1=>tv σ H1 fun y H2=>tN r σ H2 fun ps H3=>Q ((x,y)::ps) H3
noncomputable abbrev VV:List (V×V)->List (Value×Value)->Prop:=Paired fun p q=>RelV p.1 q.1/\RelV p.2 q.2
noncomputable def PPs(X:Cx)(pos:Pos)(keys:List (Option Expr))(values:List Expr)(trs:List (TE×TE)):Prop:=
 ∀(pins:List (Addr×Obj))(s:Shared)(σ:St)(H:Hp)(Q:List (V×V)->Hp->Prop),Inv X pins σ H s->tN trs σ H Q->
  wpAny (model X.prog X.w) X.A (evalPairs (pairTrees keys values X.env pos)) (fun vs s'=>∃ps H',Inv X pins σ H' s'/\VV ps vs/\Q ps H') X.xe s
theorem pps_nil{X:Cx}{pos:Pos}:PPs X pos [] [] []:=fun pins s σ H Q I h=>pairTrees_nil_walk ⟨[],H,I,.nil,h⟩
theorem C1{X:Cx}{pos:Pos}{k v:Expr}{ks:List (Option Expr)}{vs:List Expr}{tk tv:TE}{trs:List (TE×TE)}(hk:PE X k tk)(hv:PE X v tv)(hr:PPs X pos ks vs trs):
  PPs X pos (some k::ks) (v::vs) ((tk,tv)::trs):=fun pins s σ H Q I h=>
 pairTrees_cons_walk (thn (hk pins s σ H _ I h) fun u s1 ⟨x,H1,I1,rx,q1⟩=>thn (hv pins s1 σ H1 _ I1 q1) fun w2 s2 ⟨y,H2,I2,ry,q2⟩=>
  thn (hr pins s2 σ H2 _ I2 q2) fun ws s3 ⟨ps,H3,I3,rel,q3⟩=>⟨(x,y)::ps,H3,I3,.cons ⟨rx,ry⟩ rel,q3⟩)
noncomputable def qB(kvs more:List (Key×V)):List (Key×V):=more.foldl (fun acc kv=>putK acc kv.1 kv.2) kvs
theorem KV.merge:∀{more:List (Key×V)}{rs:List (Key×Value)}{kvs:List (Key×V)}{vs:List (Key×Value)},KV more rs->KV kvs vs->KV (qB kvs more) (merged vs rs):=by
 intro more rs kvs vs r;unfold KV at r
 induction r generalizing kvs vs with
 |nil=>intro q;exact q
 | @cons p q ps qs h t ih=>
  intro r0;have e:KV (putK kvs p.1 p.2) (stored vs q.1 q.2):=by
   have :=r0.put p.1 h.2
   rw[<-h.1];exact this
  exact ih e
theorem lD:∀(more kvs:List (Key×V)),(qB kvs more).length<=kvs.length+more.length
 | [],kvs=>by show kvs.length<=kvs.length+0;omega
 |p::r,kvs=>by
  have h1:=lD r (putK kvs p.1 p.2);have h2:=fA kvs p.1 p.2;show(qB (putK kvs p.1 p.2) r).length<=_;rw[bj];omega
theorem qV{P:Program}{w:World}:∀{kvs:List (Key×V)}{ws:List (Value×Value)},VV (kvs.map fun kv=>(kV kv.1,kv.2)) ws->∃rs,Carries (bq P w) ws rs/\KV kvs rs
 | [],_,r=>by rw[kX]at r;cases r;exact⟨[],True.intro,.nil⟩
 |p::kvs,_,r=>by
  rw[aN]at r;cases r with
  | @cons a b as bs h t=>
   obtain⟨rs,c,q⟩:=qV (P:=P) (w:=w) t;obtain⟨b1,b2⟩:=b;exact⟨(p.1,b2)::rs,⟨jO h.1,rfl,c⟩,.cons ⟨rfl,h.2⟩ q⟩
noncomputable def tDisp(trs:List (TE×TE)):TE:=fun σ H Q=>∀p,H p=none->tN trs σ (upd H p (.dK [])) fun ps H2=>H2 p=some (.dK [])/\∃kvs:List (Key×V),ps=kvs.map (fun kv=>(kV kv.1,kv.2))/\kvs.length<=15/\Q (.ref p) (upd H2 p (.dK (qB [] kvs)))
theorem pe_disp{X:Cx}{pos:Pos}{keys:List (Option Expr)}{values:List Expr}{trs:List (TE×TE)}(h:PPs X pos keys values trs)(hall:keys.all (·.isSome)=true)(hl:keys.length=values.length)(h0:keys≠[])
  (h15:keys.length<=15):PE X (.Dict keys values pos) (tDisp trs):=by
 intro pins s σ H Q I q;have hn:=I.hok.fresh (ar s.heap.objs.size);have I1:=I.laid (a:=s.heap.objs.size) (o:=.dK []) (h':=s.heap.push {cls:=.type "dict",data:=.dict #[]}) (t':=s.toks) (fun _ _ q=>ae _ q) (ar _) (wm s.heap I.big);refine wpAny_Dict_walk (knd:=bq X.prog X.w) hall hl h0 h15 (thn (h pins _ σ _ _ I1 (q _ hn)) fun ws s2 ⟨ps,H2,I2,rel,e,kvs,ep,lk,q2⟩=>?_);subst ep;obtain⟨rs,c,rk⟩:=qV (P:=X.prog) (w:=X.w) rel;obtain⟨z,hd,vs0,r0,dd⟩:=wk I2.hok e;cases r0;refine⟨rs,c,dd,fun h' dd' hs=>⟨.ref s.heap.objs.size,_,?_,rfl,q2⟩⟩;have hz:(qB [] kvs).length<=sizeLine:=by
  have h1:=lD kvs [];rw[fV]at h1;rw[pH];omega
 have he:∃q,h'.get? s.heap.objs.size=some q:=let⟨q,_,_,hq,_⟩:=dd';⟨q,hq⟩;exact mZ I2 (by rw[e];exact True.intro) hs he (uB hz hd (rk.merge .nil) dd')
structure M1(X:Cx)(o:Expr)(m:Str)(apos:Pos)(e:Expr)(cpos:Pos):Prop where
 base:iW o m X.env (eval o X.env)=eval o X.env
 few:((backTo cpos (bC [e] X.env)).all (fun x=> !x.1)&&(backToKw cpos (keywordEach [] X.env)).all (fun x=>x.1.isSome)
  &&decide (([e]:List Expr).length+([]:List Keyword).length+(if([]:List Keyword).isEmpty then 0 else 1)<30))=true
 line:(apos.endLine==cpos.line)=true
 trees:backTo cpos (bC [e] X.env)=[(false,eval e X.env)]
structure M2(X:Cx)(o:Expr)(m:Str)(apos:Pos)(e f:Expr)(cpos:Pos):Prop where
 base:iW o m X.env (eval o X.env)=eval o X.env
 few:((backTo cpos (bC [e,f] X.env)).all (fun x=> !x.1)&&(backToKw cpos (keywordEach [] X.env)).all (fun x=>x.1.isSome)
  &&decide (([e,f]:List Expr).length+([]:List Keyword).length+(if([]:List Keyword).isEmpty then 0 else 1)<30))=true
 line:(apos.endLine==cpos.line)=true
 trees:backTo cpos (bC [e,f] X.env)=[(false,eval e X.env),(false,eval f X.env)]
noncomputable def IsD(H:Hp)(a:Addr):Prop:=(∃kvs,Rd H a (.dK kvs))\/∃kvs,Rd H a (.dT kvs)
theorem DN{X:Cx}{pins:List (Addr×Obj)}{σ:St}{H:Hp}{s:Shared}{a:Addr}(I:Inv X pins σ H s)(d:IsD H a):
  s.TypeIs (.ref a) "dict"/\(∀b,bI a=.ref b->∃ob,s.heap.get? b=some ob/\ob.dict=none)/\(a==cL)=false:=by
 rcases d with⟨kvs,e⟩ |⟨kvs,e⟩
 ·obtain⟨_,hd,vs,_,dd⟩:=iQ I.hok e
  refine⟨dd.typeIs,fun b q=>?_,hd⟩;cases q;obtain⟨ob,_,_,h1,h2,_⟩:=dd;exact⟨ob,h1,h2.2.1⟩
 ·obtain⟨_,hd,xs,_,dd⟩:=oO I.hok e
  refine⟨dd.typeIs,fun b q=>?_,hd⟩;cases q;obtain⟨ob,_,_,h1,h2,_⟩:=dd;exact⟨ob,h1,h2.2.1⟩
section
variable {X:Cx}{pins:List (Addr×Obj)}{σ:St}{H:Hp}{s:Shared}{a:Addr}{y d:V}{u r:Value}{o:Option V}{A:Around}{E:Value->Shared->Prop}
theorem d_get1{Q:Value->Shared->Prop}(hu:A.units+1<cLine)(I:Inv X pins σ H s)(g:j7 H a y o)(ry:RelV y u)(h:∀w' s',Inv X pins σ H s'->RelV (o.getD .non) w'->Q w' s'):
  wpAny (model X.prog X.w) A (call (.builtin "dict.get") [.ref a,u]) Q E s:=by
 rcases g with⟨kvs,k,e,ey,l⟩ |⟨kvs,k,b,e,ey,eb,l⟩
 ·subst ey
  obtain⟨z,hd,vs,rel,dd⟩:=iQ I.hok e;refine hE dq dd.typeIs fZ (va _ _) (meets_dict_get (bq X.prog X.w) a (jO ry) hd) ⟨_,dd.mapOf,h _ _ (I.tok _) ?_⟩;rw[l];exact(rel.val k).getD rfl
 ·subst ey
  cases(show u=bI b from ry);obtain⟨z,hd,xs,rel,dd⟩:=oO I.hok e;refine hE dq dd.typeIs fZ (va _ _) (meetsH_dict_get (mw (bq X.prog X.w)) a b hd) ⟨eR hu,k,xs,l9 I.hok eb,dd,h _ _ (I.tok _) ?_⟩;rw[l];exact(rel.val k).getD rfl
theorem d_get2{Q:Value->Shared->Prop}(hu:A.units+1<cLine)(I:Inv X pins σ H s)(g:j7 H a y o)(ry:RelV y u)(rd:RelV d r)(h:∀w' s',Inv X pins σ H s'->RelV (o.getD d) w'->Q w' s'):
  wpAny (model X.prog X.w) A (call (.builtin "dict.get") [.ref a,u,r]) Q E s:=by
 rcases g with⟨kvs,k,e,ey,l⟩ |⟨kvs,k,b,e,ey,eb,l⟩
 ·subst ey
  obtain⟨z,hd,vs,rel,dd⟩:=iQ I.hok e;refine hE dq dd.typeIs fZ (u9 _ _ _) (meets_dict_get_default (bq X.prog X.w) a (jO ry) hd r) ⟨_,dd.mapOf,h _ _ (I.tok _) ?_⟩;rw[l];exact(rel.val k).getD rd
 ·subst ey
  cases(show u=bI b from ry);obtain⟨z,hd,xs,rel,dd⟩:=oO I.hok e;refine hE dq dd.typeIs fZ (u9 _ _ _) (meetsH_dict_get_default (mw (bq X.prog X.w)) a b hd r) ⟨eR hu,k,xs,l9 I.hok eb,dd,h _ _ (I.tok _) ?_⟩;rw[l];exact(rel.val k).getD rd
end
noncomputable def xv(td ty:TE):TE:=fun σ H Q=>td σ H fun x H1=>∃a,x=.ref a/\IsD H1 a/\ty σ H1 fun y H2=>∃o,j7 H2 a y o/\Q (o.getD .non) H2
noncomputable def xu(td ty tx:TE):TE:=fun σ H Q=>td σ H fun x H1=>∃a,x=.ref a/\IsD H1 a/\ty σ H1 fun y H2=>tx σ H2 fun z H3=>∃o,j7 H3 a y o/\Q (o.getD z) H3
section
variable {X:Cx}{o e f:Expr}{apos cpos:Pos}{td ty tx:TE}
theorem Dh(hu:X.A.units+1<cLine)(ho:PE X o td)(he:PE X e ty)(m:M1 X o "get" apos e cpos):PE X (.Call (.Attribute o "get" apos) [e] [] cpos) (xv td ty):=by
 intro pins s σ H Q I h;refine wpAny_Call_method m.base m.few m.line dP dq xi (thn (ho pins s σ H _ I h) fun u s1 ⟨x,H1,I1,rx,a,ex,d,q1⟩=>?_);subst ex;obtain rfl:u=bI a:=rx;obtain⟨t1,t2,_⟩:=DN I1 d;refine⟨t1,t2,?_⟩;rw[m.trees];refine eB rfl (mz (eA (thn (he pins s1 σ H1 _ I1 q1) fun iv s2 ⟨y,H2,I2,ry,ov,g,q2⟩=>pM ?_)));exact d_get1 hu I2 g ry fun w' s3 I3 rw'=>⟨_,H2,I3,rw',q2⟩
theorem Dg(hu:X.A.units+1<cLine)(ho:PE X o td)(he:PE X e ty)(hf:PE X f tx)(m:M2 X o "get" apos e f cpos):PE X (.Call (.Attribute o "get" apos) [e,f] [] cpos) (xu td ty tx):=by
 intro pins s σ H Q I h;refine wpAny_Call_method m.base m.few m.line dP dq xi (thn (ho pins s σ H _ I h) fun u s1 ⟨x,H1,I1,rx,a,ex,d,q1⟩=>?_);subst ex;obtain rfl:u=bI a:=rx;obtain⟨t1,t2,_⟩:=DN I1 d;refine⟨t1,t2,?_⟩;rw[m.trees];refine eB rfl (mz (eA (thn (he pins s1 σ H1 _ I1 q1) fun iv s2 ⟨y,H2,I2,ry,q2⟩=>
  eA (thn (hf pins s2 σ H2 _ I2 q2) fun fv s3 ⟨z,H3,I3,rz,ov,g,q3⟩=>pM ?_))))
 exact d_get2 hu I3 g ry rz fun w' s4 I4 rw'=>⟨_,H3,I4,rw',q3⟩
end
end L2
namespace Att
open PySem PySem.W PySem.Calls PyProof.Rows
theorem pB{P:Params}{h:Heap}:∀(ns:List Int)(vs:List Value),WellAll P h vs (ns.map WData.int)->IntsAre vs ns:=by
 intro ns
 induction ns with
 |nil=>
  intro vs w;rw[kX]at w;cases w;exact .nil
 |cons n ns ih=>
  intro vs w;rw[aN]at w;cases w with
  |cons a b=>
   cases a;exact .cons _ _ (ih _ b)
theorem z8{l:OpenLaw}{n:Nat}(hn:l.most=some n){P:Params}{h:Heap}{args:List WData}{vals:List Value}
  (hpre:l.row.toRowW.claim.pre args=true)(hwl:WellAll P h vals args):
  ∃a vs ns,vals=[bI a]/\args=[WData.list (ns.map WData.int)]/\h.get? a=some {cls:=.type "list",data:=.seq vs.toArray}/\IntsAre vs ns/\ns.length<=n:=by
 have hsh:WShape.hasAll [] args [.list .int]=true:=(pre_splitW hpre).1;have hc:l.pre.holds [] {args:=args}=true:=(pre_splitW hpre).2;obtain⟨d,r,rfl,h1,h2⟩:=hasAllW_cons hsh;obtain rfl:=hasAllW_nil h2;obtain⟨xs,rfl,h3⟩:=hasW_list h1;obtain⟨ns,rfl⟩:=items_int h3;have hlen:ns.length<=n:=by
  unfold OpenLaw.pre at hc;have h4:(WTm.not (.lt (.lit (.int (n:Int))) (.len (.arg 0)))).holds [] {args:=[.list (ns.map .int)]}=true:=by
   have h4:=(holds_andW hc).1;rw[hn]at h4;exact h4
  have h5:=condW_of h4 (w_not (w_lt w_lit (w_len_list (w_arg rfl))));rw[ag]at h5;refine ft fun q=>?_;have q':(n:Int)<((ns.length:Nat):Int):=by omega
  first
   | (rw[decide_eq_true q']at h5;exact absurd h5 (by decide))
   | (simp at h5;omega)
 cases hwl with
 |cons w1 w2=>
  cases w2;cases w1 with
  |list ho hall=>exact⟨_,_,ns,rfl,rfl,ho,pB ns _ hall,hlen⟩
theorem Ae(l:OpenLaw)(args:List WData):l.row.toRowW.claim.post args (.bool true) args=true:=
 postW_of (r:=l.row.toRowW) (X:=(true==true))
  (show WShape.has [] (.bool true) .bool=true by first |rfl|decide|simp[WShape.has,WShape.arms,WShape.armsAll])
  (show(WTm.eq .res (.lit (.bool true))).value [] {args:=args,res:=some (.bool true),after:=args}=some (.bool (true==true))from w_eq_bool (w_res rfl) w_lit) rfl
theorem wM{l:OpenLaw}{n:Nat}{q:Program}{loose:List Str}{XP:(Str->Option Value)->Heap->Prop}{YP:World->Heap->Prop}{d:DefRec}
  (hn:l.most=some n)(hdf:d.params.defaults=[])
  (call:∀(w:World)(s₀ s₁:Shared)(mg mb:Str->Option Value)(fa:Addr)(o:Obj)(pm cd doc:Value)(a:Addr)(vs:List Value)(ns:List Int),
   Ground q loose [] XP w s₀ mg mb s₁.heap->YP w s₁.heap->
   s₁.heap.get? fa=some o->o.data=.func (docDef d.name d.params d.body d.scope pm cd doc)->s₁.heap.CodeRec cd d.name->mg d.name=some (.ref fa)->
   s₁.heap.get? a=some {cls:=.type "list",data:=.seq vs.toArray}->IntsAre vs ns->ns.length<=n->s₁.gens= #[]->
   jH (model l.prog w) zI (.call (.ref fa) ⟨[.ref a],[]⟩) (fun r s'=>r=.ok (.ret (.bool true))/\OldK s₁.heap s'.heap/\s'.os=s₁.os/\kY s'.gens) s₁):
  WalkO q loose XP YP l.row.toRowW d [] (fun f vs=>PySem.call f vs):=by
 intro w s₀ s₁ mg mb G Y fa o pm cd doc dV kV ho hd hcd hD hmg hg args vals as hpre hlay hrd hwl hlo;obtain rfl:dV=.none:=Dflts.none hD hdf;obtain rfl:kV=.none:=Dflts.noKw hD;obtain⟨a,vs,ns,rfl,rfl,hobj,hints,hlen⟩:=z8 hn hpre hwl;refine enter_call (jG (call w s₀ s₁ mg mb fa o pm cd doc a vs ns G Y ho (fd_plain hd) hcd hmg hobj hints hlen hg) fun r s' hq=>?_);obtain⟨rfl,h2,h3,h4⟩:=hq;exact⟨.inl ⟨.bool true,.bool true,[],rfl,fun _=>rfl,.bool true,Ae l _,fun _=>⟨lp,fun _ hm=>(nomatch hm)⟩⟩,h2,h3,h4⟩
end Att
namespace L2
open PySem PySem.Spec PyProof.Rows
theorem sg:∀{vs:List Value}{ns:List Int},IntsAre vs ns->bJ (ns.map V.int) vs
 |_,_,.nil=>.nil
 |_,_,.cons n t h=>.cons ⟨t,rfl⟩ (sg h)
noncomputable def bB(s:Stmt):Arguments:=match s with
 |.FunctionDef _ a _ _ _ _ _ _ _ _=>a
 |_=>{posonlyargs:=[],args:=[],vararg:=none,kwonlyargs:=[],kw_defaults:=[],kwarg:=none,defaults:=[]}
noncomputable def bu(s:Stmt):List Stmt:=match s with
 |.FunctionDef _ _ b _ _ _ _ _ _ _=>b
 |_=>[]
noncomputable def aR(s:Stmt):Scope:=match s with
 |.FunctionDef _ _ _ _ _ _ sc _ _ _=>sc
 |_=>{kind:=.function,names:=[],isGenerator:=false,isCoroutine:=false}
noncomputable abbrev CX0:CXT:=fun _ _ _ _ _ _=>False
noncomputable abbrev E0:XK:=fun _ _ _=>False
structure Fun(K:aa)(x qual:Str)(st:Stmt)(f:Addr)(fd:fI):Prop where
 ex:∃(oc:Value)(od:Option Addr)(kV doc pm:Value)(an:Option Addr)(cdv ct:Value)(osl:Array (Option Value)),
  fd=aL x qual (bB st) (bu st) (aR st) .none kV doc pm an cdv ct/\K.lookup f=some ⟨oc,od,.func fd,osl⟩/\dO K cdv qual=true
 kp:b9 K (.ref f)=true
section
variable {P:Program}{w:World}{K:aa}{mg:Str->Option Value}{base:Heap}
theorem Fun.binds{x qual:Str}{st:Stmt}{f:Addr}{fd:fI}{ps:List Str}(F:Fun K x qual st f fd)
  (h:∀(kV doc pm:Value)(an:Option Addr)(cdv ct:Value)(us:List Value),us.length=ps.length->bindArgs (aL x qual (bB st) (bu st) (aR st) .none kV doc pm an cdv ct) ⟨us,[]⟩=pure (ps.zip us)):Binds K fd ps []:=by
 obtain⟨oc,od,kV,doc,pm,an,cdv,ct,osl,rfl,lk,hcd⟩:=F.ex;exact .all (h kV doc pm an cdv ct)
theorem DV{x qual:Str}{st:Stmt}{f:Addr}{oc:Value}{od an:Option Addr}{osl:Array (Option Value)}{kV doc pm cdv ct:Value}(l:K.lookup f=some ⟨oc,od,.func (aL x qual (bB st) (bu st) (aR st) .none kV doc pm an cdv ct),osl⟩)
  (c:dO K cdv qual=true)(k:b9 K (.ref f)=true):Fun K x qual st f (aL x qual (bB st) (bu st) (aR st) .none kV doc pm an cdv ct):=⟨⟨oc,od,kV,doc,pm,an,cdv,ct,osl,rfl,l,c⟩,k⟩
end
noncomputable def aX(H H':Hp):Prop:=∀b o,H b=some o->H' b=some o
theorem aX.refl(H:Hp):aX H H:=fun _ _ h=>h
theorem aX.trans{H H1 H2:Hp}(a:aX H H1)(b:aX H1 H2):aX H H2:=fun c o h=>b c o (a c o h)
theorem aX.free{H H':Hp}(e:aX H H'){l:Addr}(h:H' l=Option.none):H l=Option.none:=by
 cases q:H l with
 |none=>rfl
 |some o=>
  rw[e l o q]at h;cases h
theorem aX.seq{K:aa}{H H':Hp}{a:Addr}{xs:List V}(e:aX H H')(h:SqL K H a xs):SqL K H' a xs:=by
 rcases h with(h|⟨o,h⟩) |h
 ·exact .inl (.inl (e _ _ h))
 ·exact .inl (.inr ⟨o,e _ _ h⟩)
 ·exact .inr h
noncomputable def dS(cells:List (Str×Addr)):List (Str×cZ)->List (Str×Addr)->List (Str×Addr)
 | [],acc=>acc
 | (n,k)::r,acc=>dS cells r (if k=.free then(n,(cells.lookup n).getD 0)::acc else acc)
theorem mo{env:Env}{f:Str×cZ->List (Str×Addr)->Sem (ForInStep (List (Str×Addr)))}
  (hf:∀n k a c,k=.free->env.cells.lookup n=some c->f (n,k) a=pure (.yield ((n,c)::a)))(hg:∀n k a,k≠.free->f (n,k) a=pure (.yield a)):
  ∀(names:List (Str×cZ))(acc:List (Str×Addr)),(∀y∈names,y.2=.free->∃c,env.cells.lookup y.1=some c)->forIn names acc f=(pure (dS env.cells names acc):Sem _)
 | [],acc,_=>rfl
 | (n,k)::r,acc,h=>by
  rw[List.forIn_cons];by_cases e:k=.free
  ·obtain⟨c,hc⟩:=h (n,k) au e
   rw[hf n k acc c e hc];show forIn r ((n,c)::acc) f=_;rw[mo hf hg r _ fun y hy=>h y (aF _ hy)];simp[dS,e,hc]
  ·rw[hg n k acc e]
   show forIn r acc f=_;rw[mo hf hg r _ fun y hy=>h y (aF _ hy)];simp[dS,e]
theorem rZ{scope:Scope}{env:Env}(h:∀y∈scope.names,y.2=.free->∃c,env.cells.lookup y.1=some c):closureFor scope env=pure (dS env.cells scope.names []):=by
 have q:=mo (env:=env) (f:=fun x cs=>match x with | (name,kind)=>if(kind==bQ)=true then(do let a<-cellOf env name;pure (fk ((name,a)::cs)))else pure (fk cs))
  (fun n k a c e hc=>by
   subst e;simp only[cellOf,hc];rfl) (fun n k a e=>by
   have e':(k==bQ)=false:=by simpa using e
   simp only[e',bO,if_false]) scope.names [] h
 unfold closureFor;show(forIn scope.names [] _>>=fun r=>pure r)=_;exact(congrArg (·>>=fun r=>pure r) q).trans rfl
theorem i0{cells:List (Str×Addr)}:∀(names:List (Str×cZ))(acc:List (Str×Addr))(x:Str)(c:Addr),(dS cells names acc).lookup x=some c->
  ((x,bQ)∈names/\c=(cells.lookup x).getD 0)\/acc.lookup x=some c
 | [],acc,x,c,h=>.inr h
 | (n,k)::r,acc,x,c,h=>by
  rcases i0 r _ x c h with⟨q,e⟩ |q
  ·exact .inl ⟨aF _ q,e⟩
  ·by_cases e:k=.free
   ·rw[if_pos e,bt]at q
    cases hx:x==n with
    |true=>
     rw[hx]at q;have en:x=n:=by simpa using hx
     subst en;subst e;exact .inl ⟨au,(bh q).symm⟩
    |false=>
     rw[hx]at q;exact .inr q
   ·rw[if_neg e]at q
    exact .inr q
theorem qO{cells:List (Str×Addr)}:∀(names:List (Str×cZ))(acc:List (Str×Addr))(x:Str),(acc.lookup x).isSome=true->((dS cells names acc).lookup x).isSome=true
 | [],acc,x,h=>h
 | (n,k)::r,acc,x,h=>by
  refine qO r _ x ?_;split
  ·rw[bt]
   cases x==n<;>simp_all
  ·exact h
theorem mq{cells:List (Str×Addr)}:∀(names:List (Str×cZ))(acc:List (Str×Addr))(x:Str),(x,bQ)∈names->((dS cells names acc).lookup x).isSome=true
 | [],acc,x,h=>by simp at h
 | (n,k)::r,acc,x,h=>by
  rcases aK.mp h with q|q
  ·cases q
   refine qO r _ n ?_;simp[bt]
  ·exact mq r _ x q
theorem eu:∀(names:List (Str×cZ))(n:Nat)(acc:List (Str×Addr)),bZ n names acc=bZ n names []++acc
 | [],_,_=>rfl
 | (x,k)::r,n,acc=>by
  unfold bZ;split
  ·rw[eu r (n+1) ((x,n)::acc),eu r (n+1) [(x,n)],df]
   rfl
  ·exact eu r n acc
theorem i4:∀(names:List (Str×cZ))(n:Nat)(acc:List (Str×Addr))(x:Str),(acc.lookup x).isSome=true->((bZ n names acc).lookup x).isSome=true
 | [],_,_,_,h=>h
 | (y,k)::r,n,acc,x,h=>by
  unfold bZ;split
  ·refine i4 r _ _ x ?_
   rw[bt];cases x==y<;>simp_all
  ·exact i4 r _ _ x h
theorem gp:∀(names:List (Str×cZ))(n:Nat)(acc:List (Str×Addr))(x:Str),(x,cq)∈names->((bZ n names acc).lookup x).isSome=true
 | [],_,_,_,h=>nomatch h
 | (y,k)::r,n,acc,x,h=>by
  unfold bZ;rcases aK.mp h with q|q
  ·cases q
   rw[if_pos (by rfl)];refine i4 r _ _ _ ?_;simp[bt]
  ·split
   ·exact gp r _ _ x q
   ·exact gp r _ _ x q
theorem i3:∀(names:List (Str×cZ))(n:Nat)(acc:List (Str×Addr))(x:Str)(c:Addr),(x,c)∈bZ n names acc->(x,cq)∈names\/(x,c)∈acc
 | [],_,_,_,_,h=>.inr h
 | (y,k)::r,n,acc,x,c,h=>by
  unfold bZ at h;split at h
  ·rename_i hk
   rcases i3 r _ _ x c h with q|q
   ·exact .inl (aF _ q)
   ·rcases aK.mp q with e|e
    ·cases e
     have :k=.cell:=by simpa using hk
     subst this;exact .inl au
    ·exact .inr e
  ·rcases i3 r _ _ x c h with q|q
   ·exact .inl (aF _ q)
   ·exact .inr q
theorem yc{M:Model}{A:Around}{E:Value->Shared->Prop}{s:Shared}{scope:Scope}{globals:Addr}{cl:List (Str×Addr)}{qual:Str}{func:Option Addr}{code:Value}{outer:Env}{builtins:Addr}{Q:Env->Shared->Prop}
  (h:Q (newEnv scope s.heap.objs.size globals (bZ (s.heap.objs.size+1) scope.names cl) qual func code (some outer) builtins) {s with heap:=pushCells (s.heap.push {cls:=.type "dict",data:=.dict #[]}) scope.names}):
  wpAny M A (newFunctionEnv scope globals cl [] qual func code (some outer) builtins) Q E s:=by
 simp only[newFunctionEnv,Bo,if_true];refine af (wpAny_alloc ?_);refine af (wpAny_layCells _ (fun name kind cells=>by cases hkc:kind==cq<;>simp[hkc]) _ _ _ _ ?_);rw[show({s with heap:=s.heap.push {cls:=.type "dict",data:=.dict #[]}}:Shared).heap.objs.size=s.heap.objs.size+1 from cQ ..];rw[vd];exact af (aj (aj h))
structure kT(X:Cx)(N':List Str)(sc:Scope):Prop where
 kind:sc.kind=.function
 cellk:∀y∈sc.names,y.2=.cell->sc.names.lookup y.1=some .cell
 own:∀y∈sc.names,y.2=.local->sc.names.lookup y.1=some .local
 free:∀y∈sc.names,y.2=.free->X.env.kindOf y.1=some .cell\/X.env.kindOf y.1=some .free
noncomputable def cV(X:Cx)(N':List Str)(sc:Scope)(C:Addr)(s₀:Shared)(H₀:Hp)(fp:List Addr):Cx:=
 {X with N:=N',s₀:=s₀,H₀:=H₀,env:=compEnvC sc (bZ (C+1) sc.names (dS X.env.cells sc.names [])) C X.env,outer:=X.stack,stack:=X.stack,ex:=fp,fn:=fun x=>sc.names.any fun y=>decide (y.1=x)&&decide (y.2=.cell),pn:=[],xe:=fun _ _=>False}
theorem kl{env:Env}:∀{names:List (Str×cZ)}{x:Str}{k:cZ},
  (names.map fun(n,k)=>if(k==bQ&&env.scope.kind== .function&&env.kindOf n==some .cell)then(n,cq)else(n,k)).lookup x=some k->
  names.lookup x=some k\/(names.lookup x=some .free/\k=.cell)
 | [],_,_,h=>by simp at h
 | (n,k)::r,x,k',h=>by
  have ih:= @kl env r x k';rw[aN]at h;change ij x ((if(k==bQ&&env.scope.kind== .function&&env.kindOf n==some .cell)=true then(n,cq)else(n,k))::_)=_ at h;cases hx:x==n with
  |true=>
   by_cases hc:(k==bQ&&env.scope.kind== .function&&env.kindOf n==some .cell)=true
   ·rw[if_pos hc]at h
    simp only[bt,hx]at h⊢;have :k=.free:=by
     have :=hc
     simp only[aP]at this;simpa using this.1.1
    subst this;exact .inr ⟨rfl,(bh h).symm⟩
   ·rw[if_neg hc]at h
    simp only[bt,hx]at h⊢;exact .inl h
  |false=>
   have e:ij x (r.map fun(n,k)=>if(k==bQ&&env.scope.kind== .function&&env.kindOf n==some .cell)then(n,cq)else(n,k))=some k':=by
    split at h<;>simpa only[bt,hx]using h
   simp only[bt,hx];exact ih e
theorem eT{env:Env}:∀{names:List (Str×cZ)}{x:Str},names.lookup x=some .free->
  (names.map fun(n,k)=>if(k==bQ&&env.scope.kind== .function&&env.kindOf n==some .cell)then(n,cq)else(n,k)).lookup x=some .free\/
  (names.map fun(n,k)=>if(k==bQ&&env.scope.kind== .function&&env.kindOf n==some .cell)then(n,cq)else(n,k)).lookup x=some .cell
 | [],_,h=>by simp at h
 | (n,k)::r,x,h=>by
  have ih:= @eT env r x;rw[aN];change ij x ((if(k==bQ&&env.scope.kind== .function&&env.kindOf n==some .cell)=true then(n,cq)else(n,k))::_)=_\/ij x ((if(k==bQ&&env.scope.kind== .function&&env.kindOf n==some .cell)=true then(n,cq)else(n,k))::_)=_;cases hx:x==n with
  |true=>
   simp only[bt,hx]at h;cases h;by_cases hc:(bQ==bQ&&env.scope.kind== .function&&env.kindOf n==some .cell)=true
   ·rw[if_pos hc];right;simp only[bt,hx]
   ·rw[if_neg hc];left;simp only[bt,hx]
  |false=>
   simp only[bt,hx]at h;split <;>simpa only[bt,hx]using ih h
theorem eN{env:Env}:∀{names:List (Str×cZ)}{x:Str}{k:Option cZ},names.lookup x=k->k≠some .free->
  (names.map fun(n,k)=>if(k==bQ&&env.scope.kind== .function&&env.kindOf n==some .cell)then(n,cq)else(n,k)).lookup x=k
 | [],_,_,h,_=>by simpa using h
 | (n,k)::r,x,k',h,hf=>by
  have ih:= @eN env r x k';rw[aN];change ij x ((if(k==bQ&&env.scope.kind== .function&&env.kindOf n==some .cell)=true then(n,cq)else(n,k))::_)=_;cases hx:x==n with
  |true=>
   simp only[bt,hx]at h;have hk:k≠.free:=fun e=>hf (by rw[<-h,e]);have hb:(k==bQ)=false:=by simpa using hk
   rw[if_neg (by rw[hb];simp)];simp only[bt,hx];exact h
  |false=>
   simp only[bt,hx]at h;split <;>simpa only[bt,hx]using ih h hf
theorem sN{sc:Scope}{cl:List (Str×Addr)}{C:Addr}{env:Env}{x:Str}{k:cZ}(h:(compEnvC sc cl C env).kindOf x=some k):sc.names.lookup x=some k\/(sc.names.lookup x=some .free/\k=.cell):=kl (env:=env) h
theorem yj{prog:Program}{w:World}{A:Around}{R:Result->Shared->Prop}{s:Shared}{elt target iter:Expr}{ifs:List Expr}{scope:Scope}{pos:Pos}{it acc:Value}{env:Env}(I:Nat->Shared->Prop)
  (turn:∀n s,I n s->wpAny (model prog w) A (pyNext it) (fun r s₁=>match r with
   |none=>R (.ok .next) s₁
   |some v=>wpAny (model prog w) A (nJ target it v) (fun _ s₁'=>wpAny (model prog w) A (assign target env v) (fun _ s₂=>
     wpAny (model prog w) A (forIn ifs true fun c r=>if r=true then do let ok<-isTrue c env (eval c env);pure (fk ok)else pure (fk r)) (fun ok s₃=>
      if ok=true then wpAny (model prog w) A (eval elt env) (fun x s₄=>
       wpAny (model prog w) A (call (.builtin "list.append") [acc,x]) (fun _ s₅=>∃m,m<n/\I m s₅) (fun _ _=>False) s₄) (fun _ _=>False) s₃
      else ∃m,m<n/\I m s₃) (fun _ _=>False) s₂) (fun _ _=>False) s₁') (fun _ _=>False) s₁) (fun _ _=>False) s)
  (n:Nat) (h:I n s):
  jH (model prog w) A (.compLoop (.ListComp elt [⟨target,iter,ifs,0⟩] scope pos) 0 it acc env) R s:=by
 refine codeAny_loop rfl I (fun n s hI=>?_) n h;show wpAny _ A ((compTurn (.ListComp elt [⟨target,iter,ifs,0⟩] scope pos) 0 it acc env).onRaise (fun x=>do jW x env;theTreesLotGoes x)) _ _ s;refine wpAny_noted ?_;rw[compTurn_list];refine af (iV (af (dm (turn n s hI) (fun r s₁ h₁=>?_) fun _ _ h'=>h'.elim)));cases r with
 |none=>exact aj h₁
 |some v=>
  refine af (dm h₁ (fun _ s₁' h₁'=>?_) fun _ _ h'=>h'.elim);refine af (dm h₁' (fun _ s₂ h₂=>af (dm h₂ (fun ok s₃ h₃=>?_) fun _ _ h'=>h'.elim)) fun _ _ h'=>h'.elim);cases ok with
  |false=>exact aj ⟨rfl,h₃⟩
  |true=>
   exact af (af (dm h₃ (fun x s₄ h₄=>af (dm h₄ (fun _ s₅ h₅=>aj (aj ⟨rfl,h₅⟩)) fun _ _ h'=>h'.elim)) fun _ _ h'=>h'.elim))
noncomputable def PTs(X:Cx)(ifs:List Expr)(t:TT):Prop:=
 ∀(pins:List (Addr×Obj))(s:Shared)(σ:St)(H:Hp)(Q:Bool->Hp->Prop),Inv X pins σ H s->t σ H Q->
  wpAny (model X.prog X.w) X.A (forIn ifs true fun c r=>if r=true then do let ok<-isTrue c X.env (eval c X.env);pure (fk ok)else pure (fk r)) (TP X pins σ Q) X.xe s
noncomputable def zS:TT:=fun _ H Q=>Q true H
theorem pts_nil{X:Cx}:PTs X [] zS:=by
 intro pins s σ H Q I h;rw[vd];exact aj ⟨H,I,h⟩
theorem pts_one{X:Cx}{c:Expr}{t:TT}(h:PT X c t):PTs X [c] t:=by
 intro pins s σ H Q I hw;rw[List.forIn_cons];simp only[if_true];refine af (af (thn (h pins s σ H Q I hw) fun b s1 q=>?_));refine aj ?_;show wpAny _ _ (forIn ([]:List Expr) b _) _ _ s1;rw[vd];exact aj q
noncomputable def qe(wi:TI)(g:TG)(tc:TT)(te:TE)(mk:St->St):TE:=fun σ H Q=>wi σ H fun J H1=>∃W:Nat->Nat->St->List V->Hp->Prop,(∃m,W 0 m (mk σ) [] H1)/\
 ∀i m τ acc H2,W i m τ acc H2->(J.stop i H2/\∀l,H2 l=none->Q (.ref l) (upd H2 l (.lst acc)))\/(J.go i H2/\∃N:St->List V->Hp->Prop,(∀τ' acc' H',N τ' acc' H'->∃m',m'<m/\W (i+1) m' τ' acc' H')/\
  ∀x H3,J.yld i H2 x H3->g x τ H3 fun τ4 H4=>tc τ4 H4 fun b H5=>if b=true then te τ4 H5 fun v H6=>acc.length<sizeLine/\N τ4 (acc++[v]) H6 else N τ4 acc H5)
theorem Inv.track{X:Cx}{pins:List (Addr×Obj)}{σ:St}{H:Hp}{s:Shared}{a:Addr}{o:HO}(I:Inv X pins σ H s)(hf:mr X pins H a)(new:cJ X.prog X.w (upd H a o) s.heap a o):Inv X pins σ (upd H a o) s:=by
 obtain⟨h0,h1,h2,h3,h4,h5⟩:=hf;have :=I.step (g':=s.gens) (d':=s.drawn) (t':=s.toks) (h':=s.heap) (H':=upd H a o) (ch:=[a]) (fun b hb=>by
   have e:b=a:=by simpa using hb
   subst e;exact⟨h3,h1,h4,h5⟩)
  (fun b ob _ _ _ q _=>q) (fun b ob _ _ _ q _=>⟨ob.slots,q⟩) (fun b ob hb q n=>by rw[aI (fun z=>hb (by simp[z]))];exact n) (fun b ob _ q=>⟨ob,q⟩)
  (fun b xs q=>by rw[aI (bg q h0)];exact q) (fun b ob u q=>by rw[aI (bg q h0)];exact q) (fun b ps q=>⟨#[],by rw[aI (bg q h0),q];simp⟩)
  (fun m hm=>hm) (fun b u q=>by
   by_cases hb:b=a
   ·subst hb;rw[av]at q;cases q;exact new
   ·rw[aI hb]at q
    exact(I.hok b u q).nP (fun c v _ e=>e) (fun c e=>by rw[aI (bg e h0)];exact e) fun c xs e=>by rw[aI (bg e h0)];exact e) I.bare
 exact this
theorem yu{X:Cx}{pins:List (Addr×Obj)}{σ:St}{H:Hp}{s:Shared}{a:Addr}{its:List Value}{n:Nat}{u:Value}{Q:Value->Shared->Prop}{E:Value->Shared->Prop}(I:Inv X pins σ H s)(hf:mr X pins H a)
  (e:s.heap.get? a=some {cls:=.type "list",data:=.seq its.toArray n}) (hz:its.length<sizeLine)
  (h:∀h' n',Inv X pins σ H {s with heap:=h'}->h'.get? a=some {cls:=.type "list",data:=.seq (its++[u]).toArray n'}->(∀b o,b≠a->s.heap.get? b=some o->h'.get? b=some o)->Q .none {s with heap:=h'}):
  wpAny (model X.prog X.w) X.A (call (.builtin "list.append") [.ref a,u]) Q E s:=by
 refine gE F.slot_list_append ⟨_,e,rfl⟩ F.entry_list_append (F.args_list_append_2 _ _) (PySem.list_append a its.toArray n u (by rw[ay];omega)) ⟨e,?_⟩;have q:=Bc e (·.push u);have eq:its.toArray.push u=(its++[u]).toArray:=by simp
 rw[eq]at q;have k:∀b o,b≠a->s.heap.get? b=some o->(s.heap.update a (bW (·.push u))).get? b=some o:=fun b o hb z=>(bx s.heap _ (cz hb)).trans z;obtain⟨h0,h1,h2,h3,h4,h5⟩:=hf;exact h _ _ (I.turned (t':=s.toks) k h0 h1 h3 h4 h5) q k
section
variable {X:Cx}{N':List Str}{sc:Scope}{elt tg iter:Expr}{ifs:List Expr}{pos:Pos}{wi:TI}{g:TG}{tc:TT}{te:TE}{mk:St->St}
noncomputable def MkOk(X:Cx)(N':List Str)(sc:Scope)(mk:St->St):Prop:=
 ∀σ:St,σ.length=X.N.length->(mk σ).length=N'.length/\∀(i:Nat)(x:Str)(v:V),N'[i]? =some x->(mk σ)[i]? =some (some v)->sc.names.lookup x=some .free/\∃j:Nat,X.N[j]? =some x/\σ[j]? =some (some v)
theorem sZ{pins:List (Addr×Obj)}{σ:St}{H:Hp}{s:Shared}{Q:VK}{use:Option (Value->Sem Unit)}{QQ:Value->Shared->Prop}(S:kT X N' sc)(hm:MkOk X N' sc mk)(hc:X.calm=true)
  (hi:PI X tg iter wi)
  (hb:∀C s₀ H₀ fp,(cV X N' sc C s₀ H₀ fp).Ok->PG (cV X N' sc C s₀ H₀ fp) tg g/\PTs (cV X N' sc C s₀ H₀ fp) ifs tc/\PE (cV X N' sc C s₀ H₀ fp) elt te)
  (hs:∀x,gZ iter X.env x=pure x)(I:Inv X pins σ H s)(h:qe wi g tc te mk σ H Q)
  (fin:∀(l C:Addr)(H':Hp)(s':Shared)(m:Str->Option Value),Inv X pins σ H' s'->s'.heap.Ns C m->mr X pins H' C->(∃o,s'.heap.get? C=some o/\∀v,o.data≠.cell v)->Q (.ref l) H'->compPost (model X.prog X.w) X.A X.xe use QQ (.ref l) C (.ok .next) s'):
  wpAny (model X.prog X.w) X.A (comprehension (.ListComp elt [⟨tg,iter,ifs,0⟩] sc pos) sc X.env (firstIterPos [⟨tg,iter,ifs,0⟩] pos) (newList []) false (eval iter X.env) use) QQ X.xe s:=by
 have hcells:∀y∈sc.names,y.2=.free->∃c,X.env.cells.lookup y.1=some c:=fun y hy hf=>I.ok.has _ (S.free y hy hf);refine wpAny_comprehension_free (use:=use) rfl hs (rZ hcells) S.kind S.own ?_;refine thn (hi pins s σ H _ I h) fun v s1 h1=>thn h1 fun itv s2 h2=>?_;obtain⟨it,fp,tn,J,H2,e,I2,T,st2,f2,W,⟨m0,w0⟩,turn⟩:=h2;subst e
 --the list
 refine cC ?_;have hl0:H2 s2.heap.objs.size=none:=I2.fresh;have fD:mr X pins H2 s2.heap.objs.size:=I2.pC (ar _) hl0;have eD3:(s2.heap.push {cls:=.type "list",dict:=none,data:=.seq ([]:List Value).toArray}).get? s2.heap.objs.size=some {cls:=.type "list",data:=.seq ([]:List Value).toArray 0}:=aC _ rfl;have I3:Inv X pins σ H2 {s2 with heap:=s2.heap.push {cls:=.type "list",dict:=none,data:=.seq ([]:List Value).toArray}}:=I2.kept (t':=s2.toks) fun b o e=>ae _ e
 --the block's frame
 refine yc ?_;dsimp only;have szL:(s2.heap.push {cls:=.type "list",dict:=none,data:=.seq ([]:List Value).toArray}).objs.size=s2.heap.objs.size+1:=cQ ..;have hDC:s2.heap.objs.size≠(s2.heap.push {cls:=.type "list",dict:=none,data:=.seq ([]:List Value).toArray}).objs.size:=by rw[szL];exact aE (dy _)
 have k23:∀b o,s2.heap.get? b=some o->(s2.heap.push {cls:=.type "list",dict:=none,data:=.seq ([]:List Value).toArray}).get? b=some o:=fun b o e=>ae _ e;generalize hH3:s2.heap.push {cls:=.type "list",dict:=none,data:=.seq ([]:List Value).toArray}=P3 at I3 szL eD3 hDC k23⊢;generalize hD:s2.heap.objs.size=D0 at *;have hns4:(pushCells (P3.push {cls:=.type "dict",data:=.dict #[]}) sc.names).Ns P3.objs.size (fun _=>none):=(Heap.Ns.new P3 (.type "dict")).keeps (pushCells_keeps _ _);have keep4:∀b o,P3.get? b=some o->(pushCells (P3.push {cls:=.type "dict",data:=.dict #[]}) sc.names).get? b=some o:=fun b o e=>pushCells_keeps _ _ b o (ae _ e);have own4:=cellsFrom_ok sc.names (P3.push {cls:=.type "dict",data:=.dict #[]}) (P3.objs.size+1) [] ⟨fun _ _ hm=>(nomatch hm),lp⟩ (by rw[cQ];exact ar _);rw[cQ]at own4;generalize pushCells (P3.push {cls:=.type "dict",data:=.dict #[]}) sc.names=h4 at hns4 keep4 own4⊢
 --the context
 have fpl:∀b∈fp,b<D0:=fun b hb=>by
  obtain⟨o,e,_⟩:=T.obj _ _ st2 b hb;rw[<-hD];exact ax e
 have hCb:D0<P3.objs.size:=by rw[szL];exact dy _
 have clo:∀x c,(dS X.env.cells sc.names []).lookup x=some c->X.env.cells.lookup x=some c/\(x,bQ)∈sc.names:=fun x c e=>by
  rcases i0 _ _ x c e with⟨q,e'⟩ |q
  ·obtain⟨c',hc'⟩:=hcells _ q rfl
   have hc'':X.env.cells.lookup x=some c':=hc';rw[hc'']at e'⊢;exact⟨by rw[e'];rfl,q⟩
  ·simp at q
 have clt:∀x c,(dS X.env.cells sc.names []).lookup x=some c->c<P3.objs.size:=fun x c e=>by
  obtain⟨v,o,ho,_⟩:=I3.cell x c (clo x c e).1;exact ax ho
 have cel:∀x c,(bZ (P3.objs.size+1) sc.names (dS X.env.cells sc.names [])).lookup x=some c->((x,c)∈bZ (P3.objs.size+1) sc.names []/\P3.objs.size+1<=c/\h4.IsCell c none)\/(dS X.env.cells sc.names []).lookup x=some c:=fun x c e=>by
  rw[eu,pq]at e;cases ho:(bZ (P3.objs.size+1) sc.names []).lookup x with
  |none=>
   rw[ho]at e;exact .inr e
  |some c'=>
   rw[ho]at e;cases e;have m:=bw ho;exact .inl ⟨m,(own4.empty x c m).2,(own4.empty x c m).1⟩
 have celf:∀x,sc.names.lookup x=some .free->(bZ (P3.objs.size+1) sc.names (dS X.env.cells sc.names [])).lookup x=(dS X.env.cells sc.names []).lookup x:=fun x hf=>by
  rw[eu,pq];cases ho:(bZ (P3.objs.size+1) sc.names []).lookup x with
  |none=>rfl
  |some c'=>
   rcases i3 _ _ _ _ _ (bw ho)with q|q
   ·have :=S.cellk _ q rfl
    rw[hf]at this;cases this
   ·cases q
 have f3:∀b∈D0::fp,mr X pins H2 b/\b<P3.objs.size:=fun b hb=>by
  rcases aK.mp hb with z|z
  ·rw[z];exact⟨fD,hCb⟩
  ·exact⟨f2 b z,fq (fpl b z) hCb⟩
 have ok:(cV X N' sc P3.objs.size {s2 with heap:=P3} H2 (D0::fp)).Ok:=by
  refine⟨I.ok.mod,S.kind,I.ok.glob,I.ok.blt,ar _,fun x y c h1 h2=>?_,fun x hx=>?_,fun x c z=>?_,fun z=>I.ok.hd z,I.ok.frames,.inl rfl,fun b hb=>⟨?_,fun x c e=>?_⟩,I3.bs,aU I.ok.bsz I3.sz,fun b o e hb=>?_,fun b hb z=>?_,I3.stack,I3.tP⟩
  ·rcases cel x c h1 with⟨m1,l1,_⟩ |q1<;>rcases cel y c h2 with⟨m2,l2,_⟩ |q2
   ·exact PySem.name_of_addr own4.apart m1 m2
   ·exact absurd l1 (Nat.not_le.mpr (bG (clt y c q2)))
   ·exact absurd l2 (Nat.not_le.mpr (bG (clt x c q1)))
   ·exact I.ok.inj x y c (clo x c q1).1 (clo y c q2).1
  ·have q:sc.names.lookup x=some .free\/sc.names.lookup x=some .cell:=by
    rcases hx with hx|hx
    ·rcases sN hx with q|q
     ·exact .inr q
     ·exact .inl q.1
    ·rcases sN hx with q|q
     ·exact .inl q
     ·exact .inl q.1
   rcases q with q|q
   ·have h1:=dF.mp (mq (cells:=X.env.cells) _ [] _ (bw q))
    show ∃c,(bZ (P3.objs.size+1) sc.names (dS X.env.cells sc.names [])).lookup x=some c;rw[celf x q];exact h1
   ·exact dF.mp (gp _ _ _ _ (bw q))
  ·have z:(sc.names.any fun y=>decide (y.1=x)&&decide (y.2=cq))=true:=z
   obtain⟨y,hy,e⟩:=fj.mp z;rw[aP,decide_eq_true_eq,decide_eq_true_eq]at e;intro hc;rcases cel x c hc with⟨_,l1,_⟩ |q1
   ·show P3.objs.size<=c
    omega
   ·have hk:=S.cellk y hy e.2
    rw[e.1]at hk;rcases i0 _ _ x c q1 with⟨q,_⟩ |q
    ·have h2:(bZ (P3.objs.size+1) sc.names []).lookup x≠none:=fun h=>by
      have :=gp sc.names (P3.objs.size+1) [] x (bw hk)
      rw[h]at this;cases this
     have hc':(bZ (P3.objs.size+1) sc.names (dS X.env.cells sc.names [])).lookup x=some c:=hc;rw[eu,pq]at hc';cases ho:(bZ (P3.objs.size+1) sc.names []).lookup x with
     |none=>exact absurd ho h2
     |some c'=>
      rw[ho]at hc';cases hc';have :=(own4.empty x c (bw ho)).2;show P3.objs.size<=c;omega
    ·cases q
  ·exact aE (f3 b hb).2
  ·rcases cel x c e with⟨_,l1,_⟩ |q1
   ·have :=(f3 b hb).2
    exact fun z=>by subst z;omega
   ·exact(f3 b hb).1.2.2.2.2.1 x c (clo x c q1).1
  ·rcases(f3 b hb).1.2.2.2.1 with z|z
   ·exact I.ok.noex b o e z
   ·exact absurd (bf (ax e) (aU I.ok.bsz z)) (dt _)
  ·rcases aK.mp (I2.xx b z)with q|q
   ·exact(f3 b hb).1.2.1 q
   ·exact(f3 b hb).1.2.2.1 q
 obtain⟨pg,pt,pe⟩:=hb _ _ _ _ ok;have I4:Inv (cV X N' sc P3.objs.size {s2 with heap:=P3} H2 (D0::fp)) [] (mk σ) H2 {s2 with heap:=h4}:=by
  obtain⟨ml,hmk⟩:=hm σ I.len;have locC:∀x c v,X.env.cells.lookup x=some c->P3.IsCell c v->h4.IsCell c v:=fun x c v e ⟨o,ho,hd⟩=>⟨o,keep4 c o ho,hd⟩;refine⟨ok,rfl,I2.bare,Un.kept keep4,⟨_,hns4,fun i x v e1 e2 e3=>?_⟩,fun x c e=>?_,I3.hok.fresh (ar _),fun x c e=>?_,fun p hp=>absurd (show p∈([]:List (Addr×Obj))from hp) (by simp),I3.hok.kept keep4,ml⟩
  ·obtain⟨hf,j,hj,hv⟩:=hmk i x v e1 e2
   obtain⟨m,hn,hl⟩:=I3.loc;have kx:=S.free (x,.free) (bw hf) rfl;obtain⟨u,r,l⟩:=hl j x v hj hv (by
    rcases kx with q|q
    ·exact .inr (.inl q)
    ·exact .inr (.inr q))
   refine⟨u,r,.inr ⟨?_,?_⟩⟩
   ·rcases eT (env:=X.env) hf with q|q
    ·exact .inr q
    ·exact .inl q
   ·rcases l with⟨q,_⟩ |⟨_,c,hc1,hc2⟩
    ·have kx':X.env.kindOf x=some .cell\/X.env.kindOf x=some .free:=kx
     rw[q]at kx';rcases kx' with z|z<;>cases z
    ·obtain⟨c',q⟩:=dF.mp (mq (cells:=X.env.cells) _ [] _ (bw hf))
     have :=(clo x c' q).1
     rw[hc1]at this;cases this;exact⟨c,by show(bZ (P3.objs.size+1) sc.names (dS X.env.cells sc.names [])).lookup x=some c;rw[celf x hf];exact q,locC x c _ hc1 hc2⟩
  ·rcases cel x c e with⟨_,_,hv⟩ |q1
   ·exact⟨none,hv⟩
   ·obtain⟨v,hv⟩:=I3.cell x c (clo x c q1).1
    exact⟨v,locC x c v (clo x c q1).1 hv⟩
  ·rcases cel x c e with⟨_,l1,_⟩ |q1
   ·exact I3.hok.fresh (by show P3.objs.size<=c;omega)
   ·exact I3.freeC x c (clo x c q1).1
 have st4:tn 0 h4:=T.keep _ _ _ st2 fun b hb o e=>keep4 b o (k23 b o e);have f4:∀{H':Hp}{b:Addr},b∈D0::fp->H' b=none->mr (cV X N' sc P3.objs.size {s2 with heap:=P3} H2 (D0::fp)) [] H' b:=fun{H' b} hb hn=>
  ⟨hn,(ok.exf b hb).1,ok.exfs b hb,.inl hb,(ok.exf b hb).2,fun p hp=>absurd (show p∈([]:List (Addr×Obj))from hp) (by simp)⟩
 have ofp:∀{b:Addr},b∈fp->b∈D0::fp:=fun hb=>aF _ hb;have nD:∀b∈fp,b≠D0:=fun b hb=>aE (fpl b hb)
 --the loop
 have loop:jH (model X.prog X.w) X.A (.compLoop (.ListComp elt [⟨tg,iter,ifs,0⟩] sc pos) 0 (.ref it) (.ref D0) (compEnvC sc (bZ (P3.objs.size+1) sc.names (dS X.env.cells sc.names [])) P3.objs.size X.env))
   (compPost (model X.prog X.w) X.A X.xe use QQ (.ref D0) P3.objs.size) {s2 with heap:=h4}:=by
  refine yj (fun n s'=>∃i τ acc H' its k,Inv (cV X N' sc P3.objs.size {s2 with heap:=P3} H2 (D0::fp)) [] τ H' s'/\tn i s'.heap/\(∀b∈D0::fp,H' b=none)/\bJ acc its/\acc.length<=sizeLine/\
    s'.heap.get? D0=some {cls:=.type "list",data:=.seq its.toArray k}/\W i n τ acc H') ?_ m0
   ⟨0,mk σ,[],_,[],0,I4,st4,fun b hb=>(f3 b hb).1.1,.nil,aM _,keep4 _ _ eD3,w0⟩
  rintro n s5 ⟨i,τ,acc,H5,its,kk,I5,st5,fr5,va5,hz5,e5,w5⟩;have I5p:Inv (cV X N' sc P3.objs.size {s2 with heap:=P3} H2 (D0::fp)) ([]++gK [D0] s5.heap) τ H5 s5:=by
   refine I5.pinned (fun b hb=>?_) (fun b hb=>?_)
   ·have z:b=D0:=by simpa using hb
    rw[z];exact f4 au (fr5 D0 au)
   ·have z:b=D0:=by simpa using hb
    rw[z];exact⟨_,e5,fun v z=>by cases z⟩
  obtain q|⟨go,NN,hN,step⟩:=turn i n τ acc H5 w5
  ·obtain⟨stop,q⟩:=q
   refine thn (T.done (cV X N' sc P3.objs.size {s2 with heap:=P3} H2 (D0::fp)) rfl rfl rfl hc i _ s5 τ H5 (fun _ _=>False) I5p (fun b hb=>?_) st5 stop) fun r s6 ⟨hr,I6p⟩=>?_
   ·obtain⟨g0,g1,g2,g3,g4,_⟩:=f4 (ofp hb) (fr5 b (ofp hb))
    refine⟨g0,g1,g2,g3,g4,fun p hp=>?_⟩;have hp':p∈gK [D0] s5.heap:=by simpa[cV]using hp
    obtain⟨z,_⟩:=nW hp';have z':p.1=D0:=by simpa using z
    rw[z'];exact(nD b hb).symm
   subst hr;have I6:=I6p.fK;have e6:s6.heap.get? D0=some {cls:=.type "list",data:=.seq its.toArray kk}:=(I6p.pin (D0,_) (aW _ (aW _ (gi (by simp) e5)))).1
   --back in the context around
   have un:Un (frs X.stack) fp H2 H5 s2.heap s6.heap:=by
    have u:=I6.base;have nb:∀b o,s2.heap.get? b=some o->b∉fp->b∉D0::fp:=fun b o e hb z=>by
     rcases aK.mp z with z|z
     ·exact absurd (ax e) (by rw[z,hD];exact dt _)
     ·exact hb z
    exact⟨fun b o e n hb hx=>u.keep b o (k23 b o e) n hb (nb b o e hx),fun b o e n hb hx=>u.slot b o (k23 b o e) n hb (nb b o e hx),fun b o e n hx=>u.free b o (k23 b o e) n (nb b o e hx),fun b o e hx=>u.there b o (k23 b o e) (nb b o e hx),u.tups,u.frzs,u.tbls⟩
   have I7:Inv X pins σ H5 s6:=by
    obtain⟨hh,g6,d6,t6,os6⟩:=s6;have eo:os6=s2.os:=I6.os;subst eo;exact I2.call (h':=hh) (g':=g6) (d':=d6) (t':=t6) (ch:=fp) un I6.hok I6.bare fun b hb=>⟨(f2 b hb).2.2.2.1,(f2 b hb).2.1,(f2 b hb).2.2.2.2.1,(f2 b hb).2.2.2.2.2⟩
   have fD5:mr X pins H5 D0:=⟨fr5 D0 au,fD.2⟩;have I8:=I7.track (o:=.lst acc) fD5 (show cJ X.prog X.w _ s6.heap D0 (.lst acc)from⟨hz5,its,kk,va5,e6⟩);obtain⟨m,hn,_⟩:=id I6.loc;refine fin _ P3.objs.size _ s6 m I8 hn (I2.pC (by rw[hD];exact gF hCb) (by rw[aI (cz hDC)];exact I6.free)) ?_ (q D0 (fr5 D0 au));obtain⟨o,es,ep,ho,hd,_⟩:=hn;exact⟨o,ho,fun v z=>by rw[hd]at z;cases z⟩
  ·skip
   have fpi:∀{H':Hp}{b:Addr},b∈fp->H' b=none->mr (cV X N' sc P3.objs.size {s2 with heap:=P3} H2 (D0::fp)) ([]++gK [D0] s5.heap) H' b:=fun{H' b} hb hn=>by
    obtain⟨g0,g1,g2,g3,g4,_⟩:=f4 (H':=H') (ofp hb) hn;refine⟨g0,g1,g2,g3,g4,fun p hp=>?_⟩;have hp':p∈gK [D0] s5.heap:=by simpa[cV]using hp
    obtain⟨z,_⟩:=nW hp';have z':p.1=D0:=by simpa using z
    rw[z'];exact(nD b hb).symm
   refine thn (T.item (cV X N' sc P3.objs.size {s2 with heap:=P3} H2 (D0::fp)) rfl rfl rfl hc i _ s5 τ H5 (fun _ _=>False) I5p (fun b hb=>fpi hb (fr5 b (ofp hb))) st5 go) fun r s6 ⟨u,hr,h6⟩=>?_;subst hr;refine thn h6 fun _ s7 ⟨x,H7,I7,r7,y7,st7,fr7⟩=>?_;have I7':=I7.pinned (fun b hb=>fpi hb (fr7 b hb)) (T.obj _ _ st7);refine thn (pg _ s7 τ H7 x u _ I7' r7 (step x H7 y7)) fun _ s8 ⟨τ8,H8,I8,q8⟩=>?_;refine thn (pt _ s8 τ8 H8 _ I8 q8) fun b s9 ⟨H9,I9,q9⟩=>?_;have pinD:∀{τ':St}{H':Hp}{s':Shared},Inv (cV X N' sc P3.objs.size {s2 with heap:=P3} H2 (D0::fp)) ([]++gK [D0] s5.heap++gK fp s7.heap) τ' H' s'->s'.heap.get? D0=some {cls:=.type "list",data:=.seq its.toArray kk}/\H' D0=none:=fun{τ' H' s'} J=>by
    have :=J.pin (D0,_) (aW _ (mD _ (aW _ (gi (by simp) e5))))
    exact⟨this.1,this.2.1⟩
   have pinF:∀{τ':St}{H':Hp}{s':Shared},Inv (cV X N' sc P3.objs.size {s2 with heap:=P3} H2 (D0::fp)) ([]++gK [D0] s5.heap++gK fp s7.heap) τ' H' s'->(∀b∈fp,∀o,s7.heap.get? b=some o->s'.heap.get? b=some o)/\(∀b∈fp,H' b=none):=fun{τ' H' s'} J=>by
    refine⟨fun b hb o e=>(J.pin (b,o) (aW _ (aW _ (gi hb e)))).1,fun b hb=>?_⟩;obtain⟨o,e,d⟩:=T.obj _ _ st7 b hb;exact(J.pin (b,o) (aW _ (aW _ (gi hb e)))).2.1
   cases b with
   |false=>
    rw[if_neg (by decide)]at q9⊢;obtain⟨m',hm',w7⟩:=hN τ8 acc H9 q9;obtain⟨d1,d2⟩:=pinD I9;obtain⟨p1,p2⟩:=pinF I9;refine⟨m',hm',i+1,τ8,acc,H9,its,kk,I9.fK.fK,T.keep _ _ _ st7 p1,fun b hb=>?_,va5,hz5,d1,w7⟩;rcases aK.mp hb with z|z
    ·rw[z];exact d2
    ·exact p2 b z
   |true=>
    rw[if_pos rfl]at q9⊢;refine thn (pe _ s9 τ8 H9 _ I9 q9) fun y s10 ⟨z,H10,I10,r10,q10⟩=>?_;obtain⟨hz10,n10⟩:=q10;obtain⟨m',hm',w7⟩:=hN τ8 _ H10 n10;obtain⟨d1,d2⟩:=pinD I10;obtain⟨p1,p2⟩:=pinF I10;have hlen:its.length=acc.length:=va5.length.symm;refine yu (X:=cV X N' sc P3.objs.size {s2 with heap:=P3} H2 (D0::fp)) I10.fK.fK (f4 au d2) d1 (by omega) fun h' n' I11 e11 k11=>?_;refine⟨m',hm',i+1,τ8,acc++[z],H10,its++[y],n',I11,T.keep _ _ _ st7 fun b hb o e=>k11 b o (nD b hb) (p1 b hb o e),fun b hb=>?_,va5.append (.cons r10 .nil),?_,e11,w7⟩
    ·rcases aK.mp hb with w|w
     ·rw[w];exact d2
     ·exact p2 b w
    ·rw[aG,bX];omega
 exact codeAny_compStart_list loop (T.self _ 0 _ _ _ st4 loop)
theorem pe_comp(S:kT X N' sc)(hm:MkOk X N' sc mk)(hc:X.calm=true)(hi:PI X tg iter wi)
  (hb:∀C s₀ H₀ fp,(cV X N' sc C s₀ H₀ fp).Ok->PG (cV X N' sc C s₀ H₀ fp) tg g/\PTs (cV X N' sc C s₀ H₀ fp) ifs tc/\PE (cV X N' sc C s₀ H₀ fp) elt te)
  (hs:∀x,gZ iter X.env x=pure x:=by intro _;rfl):PE X (.ListComp elt [⟨tg,iter,ifs,0⟩] sc pos) (qe wi g tc te mk):=by
 intro pins s σ H Q I h;rw[eval_ListComp];refine sZ (use:=none) S hm hc hi hb hs I h fun l C H' s' m I' hn hC hCo q=>⟨m,hn,fun h'' hs''=>?_⟩;have I'':Inv X pins σ H' {s' with heap:=h'',toks:=s'.toks}:=I'.turned (fun b o hb e=>hs''.extBut b o hb e) hC.1 hC.2.1 hC.2.2.2.1 hC.2.2.2.2.1 hC.2.2.2.2.2;exact⟨.ref l,H',I'',rfl,q⟩
theorem xG{i:Nat}{x:Str}{pos' spos:Pos}(S:kT X N' sc)(hm:MkOk X N' sc mk)(hc:X.calm=true)(hi:PI X tg iter wi)
  (hb:∀C s₀ H₀ fp,(cV X N' sc C s₀ H₀ fp).Ok->PG (cV X N' sc C s₀ H₀ fp) tg g/\PTs (cV X N' sc C s₀ H₀ fp) ifs tc/\PE (cV X N' sc C s₀ H₀ fp) elt te)
  (hN:X.N.Nodup)(hx:X.N[i]? =some x)(hl:X.env.scope.names.lookup x=some .local)
  (hsw:mx (.ListComp elt [⟨tg,iter,ifs,0⟩] sc pos) (some (.Name x pos')) spos.line X.env=pure true)
  (hs:∀x,gZ iter X.env x=pure x:=by intro _;rfl):PS X (.Assign [.Name x pos'] (.ListComp elt [⟨tg,iter,ifs,0⟩] sc pos) spos) (zT (qe wi g tc te mk) (mX i)):=by
 intro pins s σ H D I h;rw[exec_Assign_Name_used _ _ _ _ hsw];refine af (iV (af ?_));show wpAny _ X.A (do let _<-comprehension (.ListComp elt [⟨tg,iter,ifs,0⟩] sc pos) sc X.env (firstIterPos [⟨tg,iter,ifs,0⟩] pos) (newList []) false (eval iter X.env) (some (assign (.Name x pos') X.env))) _ _ s;refine af (thn (sZ (use:=some (assign (.Name x pos') X.env)) (QQ:=fun _ s'=>SP X pins D .next s') S hm hc hi hb hs I h fun l C H' s' m I' hn hC hCo q=>?_) fun _ s' hq=>aj (aj hq));obtain⟨oC,eC,dC⟩:=id hCo;have I1:Inv X (pins++[(C,oC)]) σ H' s':=I'.ub fun p hp=>(aw.mp hp).elim (fun z=>I'.pin p (aW _ z)) fun z=>by
  have e:p=(C,oC):=by simpa using z
  subst e;exact⟨eC,hC.1,hC.2.1,hC.2.2.1,dC⟩
 show wpAny _ X.A (assign (.Name x pos') X.env (.ref l)) _ _ s';refine thn (yV (i:=i) hN hx (.inl hl) (.inr hl) (pins++[(C,oC)]) s' σ H' (.ref l) (.ref l) D.nx I1 rfl q) fun _ s2 ⟨σ2,H2,I2,q2⟩=>?_;obtain⟨eC2,nC2,_,_,_⟩:=I2.pin (C,oC) (aW _ (aW _ (by simp)));have hn2:s2.heap.Ns C m:=by
  obtain⟨o,es,ep,ho,r⟩:=hn;have :o=oC:=by rw[eC]at ho;exact(bh ho).symm
  subst this;exact⟨o,es,ep,eC2,r⟩
 refine⟨m,hn2,fun h'' hs''=>?_⟩;have I3:Inv X pins σ2 H2 {s2 with heap:=h'',toks:=s2.toks}:=I2.fK.turned (fun b o hb e=>hs''.extBut b o hb e) nC2 hC.2.1 hC.2.2.2.1 hC.2.2.2.2.1 hC.2.2.2.2.2;exact⟨σ2,H2,I3,q2⟩
end
section
variable {X:Cx}
theorem wD:eD X (.builtin "isinstance") (fun xs H Q=>∃x T t b,xs=[x,.ty T]/\j6 X.K H x t/\fY X.K t (.type T)=some b/\Q (.bl b) H):=by
 intro pins s σ H xs us Q I rv h;obtain⟨x,T,t,b,rfl,ty,e,q⟩:=h;obtain⟨u,c,rfl,ru,rc⟩:=rv.two;cases rc;exact sQ I ru ty e fun tk=>⟨.bl b,H,I.tok tk,rfl,q⟩
theorem uI:eD X (.builtin "isinstance") (fun xs H Q=>∃x C t b,xs=[x,.ref C]/\j6 X.K H x t/\fY X.K t (.ref C)=some b/\Q (.bl b) H):=by
 intro pins s σ H xs us Q I rv h;obtain⟨x,T,t,b,rfl,ty,e,q⟩:=h;obtain⟨u,c,rfl,ru,rc⟩:=rv.two;cases rc;exact sQ I ru ty e fun tk=>⟨.bl b,H,I.tok tk,rfl,q⟩
theorem BJ{prog:Program}{w:World}{A:Around}{its:List Value}{bs:List Bool}(r:bJ (bs.map V.bl) its):TruthOf prog w A (fun i v=>its.toArray[i]? =some v) (fun i=>bs.getD i false):=by
 intro i v s Q E hP h;have hi:its[i]? =some v:=by simpa using hP
 have e:v=.bool (bs.getD i false):=by
  have hl:=r.length;rw[ag]at hl;have hlt:i<bs.length:=by
   have :=(bE.mp hi).1
   omega
  obtain⟨u,hu,ru⟩:=bJ.get (i:=i) (x:=.bl bs[i]) r (by simp[hlt]);rw[hi]at hu;cases hu;have ru':v=uW bs[i]:=ru;rw[ru',aJ,ai hlt];rfl
 rw[e];exact cB h
theorem range_all(bs:List Bool):(aQ bs.length).all (fun i=>bs.getD i false)=bs.all id:=by
 have :bs=(aQ bs.length).map fun i=>bs.getD i false:=by
  apply dv
  ·simp
  ·intro i h1 h2
   simp[h1]
 rw[lq];simp only[dw,dX];constructor
 ·intro h x hx
  obtain⟨i,hi,rfl⟩:=aT.mp hx;have :=h i hi;simpa[hi]using this
 ·intro h i hi
  have :=h bs[i] (du hi)
  simpa[hi]using this
theorem Ei(hc:X.calm=true):eD X (.builtin "all") (fun xs H Q=>∃(p:Addr)(bs:List Bool),xs=[.ref p]/\SqL X.K H p (bs.map V.bl)/\Q (.bl (bs.all id)) H):=by
 intro pins s σ H xs us Q I rv h;obtain⟨p,bs,rfl,hq,q⟩:=h;obtain⟨u,rfl,ru⟩:=rv.one;cases ru;obtain⟨its,r,pl,hz⟩:=I.list hq;have hlen:its.toArray.size=bs.length:=by rw[ay,<-r.length,ag]
 have hne:p≠s.heap.objs.size:=by obtain⟨o,n,ho,_⟩:=id pl;exact aE (ax ho)
 refine call_all_walk (gW pl.isList ⟨s.heap.objs.size,_,_,_,_,_,fun i=>bs.getD i false,rfl,Walks.list (A:=X.A.in1) (I.ok.hd hc) _ p hne its.toArray,⟨⟨_,aC _ rfl,rfl,rfl⟩,pl.isList.at fun o e=>ae _ e⟩,BJ r,fun h' tk k=>?_⟩);rw[hlen,range_all];exact⟨.bl (bs.all id),H,I.kept (t':=tk) fun b o e=>k b o (by simpa using aE (ax e)) (ae _ e),rfl,q⟩
noncomputable def yi(x:Str)(lo hi:Option Int):Str:=⟨((x.cps.toList.drop (HT.sIx x.length 0 lo)).take (HT.sIx x.length x.length hi-HT.sIx x.length 0 lo)).toArray⟩
theorem sIx_eq(n d:Nat)(i:Int):(max 0 (min (if i<0 then i+(n:Int)else i) (n:Int)))=((HT.sIx n d (some i):Nat):Int):=by
 have :=HT.clip_eq i n d
 rw[<-this];split <;>omega
theorem strIx(lo hi:Option Int)(n:Nat):pz lo hi 1 n=(aQ (HT.sIx n n hi-HT.sIx n 0 lo)).map fun k=>HT.sIx n 0 lo+k:=by
 have key:∀a b:Nat,A7 (a:Int) (b:Int) 1=(aQ (b-a)).map fun k=>a+k:=by
  intro a b;unfold A7;have e:(if(1:Int)>0 then(if(a:Int)<b then((b:Int)-a+1-1)/1 else 0)else(if(a:Int)>b then((a:Int)-b-1-1)/(-1)else 0)).toNat=b-a:=by
   rw[if_pos (by decide)];split <;>omega
  simp only[e];apply dW;intro k hk;omega
 have e1:∀(o:Option Int)(d:Nat),(match o with |none=>(d:Int) |some i=>max 0 (min (if i<0 then i+(n:Int)else i) (n:Int)))=((HT.sIx n d o:Nat):Int):=by
  intro o d;cases o with
  |none=>rfl
  |some i=>exact sIx_eq n d i
 have a1:=e1 lo 0;have a2:=e1 hi n;unfold pz;simp only[show(1:Int)>0 by decide,if_true];have b1:((0:Nat):Int)=0:=rfl;rw[b1]at a1;rw[<-key,<-a1,<-a2];cases lo<;>cases hi<;>rfl
theorem pickN(xs:Array Nat)(i:Nat):∀k,((aQ k).map fun m=>i+m).filterMap (xs[·]?)=(xs.toList.drop i).take k:=by
 intro k
 induction k with
 |zero=>simp
 |succ k ih=>
  rw[List.range_succ,aD,List.filterMap_append,ih];by_cases h:i+k<xs.size
  ·rw[List.take_succ,eG]
   simp[h]
  ·rw[List.take_succ,eG]
   simp[h]
theorem zY(x:Str)(lo hi:Option Int):Txt.slice x lo hi=yi x lo hi:=by
 have hl:HT.sIx x.length 0 lo<=x.length:=HT.Ck _ _ (aM _) lo;have hu:HT.sIx x.length x.length hi<=x.length:=HT.Ck _ _ (ar _) hi;unfold Txt.slice yi;rw[strIx];split
 ·rename_i h
  rw[aP,beq_iff_eq,beq_iff_eq,ag,dG]at h;have a:HT.sIx x.length 0 lo=0:=by omega
  have b:HT.sIx x.length x.length hi=x.length:=by omega
  rw[a,b];have :x.cps.toList.length=x.length:=by simp[wX]
  rw[vf,lg,<-this,bY]
 ·rw[pickN]
theorem oM{v:Value}{o:Option Int}(p:IsPart v o):∃l:Option (Int×Tok),v=partValue l/\o=l.map (·.1):=by
 cases p with
 |none=>exact⟨none,rfl,rfl⟩
 |int i t=>exact⟨some (i,t),rfl,rfl⟩
noncomputable def rSlS:V->Option Int->Option Int->Hp->VK->Prop:=fun x lo hi H Q=>∃z,x=.str z/\z.length<=sizeLine/\Q (.str (yi z lo hi)) H
theorem sl_str:SlR X rSlS:=by
 intro pins s σ H x v vl vu lo hi sl Q I rx hs pl pu h;obtain⟨z,rfl,hz,q⟩:=h;obtain⟨t,rfl⟩:=rx;obtain⟨l,rfl,rfl⟩:=oM pl;obtain⟨u,rfl,rfl⟩:=oM pu;refine⟨"str",_,F.slot_str_getitem.lookup,typeIs_str _ _ _,?_⟩;refine wpAny_getItem_str_slice (l:=l) (u:=u) (st:=none) hs rfl (post_val_or_str ⟨aU (Txt.slice_le z _ _) hz,fun t' k=>?_⟩);have e:=zY z (l.map (·.1)) (u.map (·.1));unfold Txt.slice at e;refine⟨.str (yi z (l.map (·.1)) (u.map (·.1))),H,I.tok k,⟨t',?_⟩,q⟩;rw[<-e];rfl
noncomputable def Its(x:Str):It:=⟨fun i _=>i<x.length,fun i H v H'=>H'=H/\∃c,x.cps[i]? =some c/\v=.str ⟨#[c]⟩,fun i _=>x.length<=i⟩
end
theorem sr{prog:Program}{w:World}(it:Addr)(x:Str)(t:Tok)(A:Around)(hA:A.handled=none):
  Walks prog w A it [it] [it] x.cps.size (SignAt x) (fun i h=>h.IsStrIter it (fE x) x t i):=by
 unfold fE;cases ha:x.cps.all (·<128)
 ·simp only[bO,if_false];exact Walks.strWide hA it x t
 ·simp only[if_true];exact Walks.strAscii hA it x t
theorem BG{P:Program}{w:World}{K:aa}{tg:Expr}(x:Str)(it:Addr)(t:Tok):Turn P w K tg (Its x) [it] it (fun i h=>h.IsStrIter it (fE x) x t i) where
 mem:=by simp
 obj:=fun i h st b hb=>by
  have e:b=it:=by simpa using hb
  subst e;obtain⟨o,e,c,d⟩:=st;exact⟨o,e,fun v z=>by rw[d]at z;cases z⟩
 keep:=fun i h h' st k=>let⟨o,ho,r⟩:=st;⟨o,k it (by simp) o ho,r⟩
 item:=by
  intro X hP hw hK hc i pins s σ H E I hf st hg;subst hP hw hK;obtain⟨f0,f1,f2,f3,f4,f5⟩:=hf it (by simp);have W:=sr (prog:=X.prog) (w:=X.w) it x t X.A (I.ok.hd hc);refine W.item i s _ _ hg st fun v h' tk hv st' kk=>?_;obtain⟨c,u,hc',rfl⟩:=hv;have I1:Inv X pins σ H {s with heap:=h',toks:=tk}:=I.turned (fun b o hb e=>kk b o (by simpa using hb) e) f0 f1 f3 f4 f5;obtain⟨o,e,cl,d⟩:=id st';refine⟨_,rfl,sT (s:={s with heap:=h',toks:=tk}) (n:=fE x) e cl d ?_ ⟨.str ⟨#[c]⟩,H,I1,⟨u,rfl⟩,⟨rfl,c,hc',rfl⟩,st',fun b hb=>(hf b hb).1⟩⟩;unfold fE;split <;>decide
 done:=by
  intro X hP hw hK hc i pins s σ H E I hf st hg;subst hP hw hK;obtain⟨f0,f1,f2,f3,f4,f5⟩:=hf it (by simp);have hg':x.length<=i:=hg;by_cases hi:i=x.cps.size
  ·subst hi
   have W:=sr (prog:=X.prog) (w:=X.w) it x t X.A (I.ok.hd hc);exact W.done s _ _ st fun h' tk kk=>⟨rfl,I.turned (fun b o hb e=>kk b o (by simpa using hb) e) f0 f1 f3 f4 f5⟩
  ·have hn:x.cps[i]? =none:=by
    rw[Array.getElem?_eq_none_iff];exact hg'
   have st2:s.heap.IsStrIter it (fE x) x t i:=st;unfold fE at st2;cases ha:x.cps.all (·<128)
   ·rw[ha]at st2
    exact wpAny_pyNext_wide_end (I.ok.hd hc) st2 hn fun h' eb=>⟨rfl,I.turned (t':=s.toks) (fun b o hb e=>eb b o hb e) f0 f1 f3 f4 f5⟩
   ·rw[ha]at st2
    exact wpAny_pyNext_ascii_end (I.ok.hd hc) st2 hn fun h' eb=>⟨rfl,I.turned (t':=s.toks) (fun b o hb e=>eb b o hb e) f0 f1 f3 f4 f5⟩
 self:=fun A i s Q E st h=>by
  have st2:s.heap.IsStrIter it (fE x) x t i:=st;unfold fE at st2;cases ha:x.cps.all (·<128)
  ·rw[ha]at st2;exact wpAny_pyIter_striter_wide st2 h
  ·rw[ha]at st2;exact wpAny_pyIter_striter_ascii st2 h
noncomputable def Ite(K:aa)(a:Addr):It:=
 ⟨fun i H=>∃xs x,SqL K H a xs/\xs[i]? =some x,fun i H v H'=>∃p x,H p=none/\H'=upd H p (.tup [.int i,x])/\v=.ref p/\∀xs,SqL K H a xs->xs[i]? =some x,fun i H=>∃xs,SqL K H a xs/\xs.length<=i⟩
section
variable {X:Cx}{es:List Expr}{kk:Nat}{pp:Pos}
noncomputable def iEnum(K:aa)(tl:TE):TI:=fun σ H R=>tl σ H fun x H1=>∃a,x=.ref a/\(∃xs,SqL K H1 a xs)/\R (Ite K a) H1
end
inductive D where
 |non|bl (b:Bool) |int (i:Int) |str (x:Str) |tup (ds:List D) |lst (ds:List D)
 deriving Inhabited
mutual
noncomputable def Rep(K:aa)(H:Hp):D->V->Prop
 |.non,v=>v=.non
 |.bl b,v=>v=.bl b
 |.int i,v=>v=.int i
 |.str x,v=>v=.str x
 |.tup ds,v=>∃a xs,v=.ref a/\SqT K H a xs/\fR K H ds xs
 |.lst ds,v=>∃a xs,v=.ref a/\SqL K H a xs/\fR K H ds xs
noncomputable def fR(K:aa)(H:Hp):List D->List V->Prop
 | [],xs=>xs=[]
 |d::ds,xs=>∃x r,xs=x::r/\Rep K H d x/\fR K H ds r
end
theorem fR.length{K:aa}{H:Hp}:∀{ds:List D}{xs:List V},fR K H ds xs->xs.length=ds.length
 | [],_,h=>by rw[show _=[]from h];rfl
 |d::ds,_,h=>by
  obtain⟨x,r,rfl,_,h2⟩:=h;rw[bj,bj,fR.length h2]
theorem fR.at{K:aa}{H:Hp}:∀{ds:List D}{xs:List V}{i:Nat}{d:D},fR K H ds xs->ds[i]? =some d->∃x,xs[i]? =some x/\Rep K H d x
 | [],_,i,d,h,e=>by simp at e
 |d::ds,_,0,d',h,e=>by
  obtain⟨y,r,rfl,h1,h2⟩:=h;simp at e;subst e;exact⟨y,rfl,h1⟩
 |d::ds,_,i+1,d',h,e=>by
  obtain⟨y,r,rfl,h1,h2⟩:=h;obtain⟨x,e',h'⟩:=fR.at (i:=i) h2 (by simpa using e);exact⟨x,by simpa using e',h'⟩
theorem fR.ints{K:aa}{H:Hp}:∀(ns:List Int),fR K H (ns.map D.int) (ns.map V.int)
 | []=>rfl
 |n::ns=>⟨_,_,rfl,rfl,fR.ints ns⟩
mutual
noncomputable def eqD:D->D->Bool
 |.non,.non=>true
 |.bl a,.bl b=>a==b
 |.bl a,.int b=>(if a then 1 else 0)==b
 |.int a,.bl b=>a==(if b then 1 else 0)
 |.int a,.int b=>a==b
 |.str a,.str b=>a==b
 |.tup a,.tup b=>kA a b
 |.lst a,.lst b=>kA a b
 |_,_=>false
noncomputable def kA:List D->List D->Bool
 | [],[]=>true
 |a::as,b::bs=>eqD a b&&kA as bs
 |_,_=>false
end
mutual
noncomputable def hgt:D->Nat
 |.tup ds=>gB ds+1
 |.lst ds=>gB ds+1
 |_=>0
noncomputable def gB:List D->Nat
 | []=>0
 |d::ds=>max (hgt d) (gB ds)
end
theorem n8:∀{ds:List D}{i:Nat}{d:D},ds[i]? =some d->hgt d<=gB ds
 | [],i,d,e=>by simp at e
 |d::ds,0,d',e=>by simp at e;subst e;simp only[gB];omega
 |d::ds,i+1,d',e=>by
  have :=n8 (i:=i) (ds:=ds) (d:=d') (by simpa using e)
  simp only[gB];omega
theorem kz:∀(as bs:List D)(e:Nat->Bool),as.length=bs.length->(∀(i:Nat) a b,as[i]? =some a->bs[i]? =some b->e i=eqD a b)->(aQ as.length).all e=kA as bs
 | [],[],e,_,_=>rfl
 |a::as,b::bs,e,hl,h=>by
  rw[bj,List.range_succ_eq_map,ot,qb];have h0:=h 0 a b rfl rfl;have ih:=kz as bs (fun i=>e (i+1)) (by simpa using hl) fun i x y hx hy=>h (i+1) x y (by simpa using hx) (by simpa using hy);rw[h0];show(eqD a b&&(aQ as.length).all (fun i=>e (i+1)))=_;rw[ih,kA]
 | [],b::bs,e,hl,_=>by simp at hl
 |a::as,[],e,hl,_=>by simp at hl
theorem kr:∀(as bs:List D),as.length≠bs.length->kA as bs=false
 | [],[],h=>absurd rfl h
 |a::as,b::bs,h=>by
  rw[kA,kr as bs (by simpa using h),eZ]
 | [],b::bs,_=>rfl
 |a::as,[],_=>rfl
mutual
theorem jl:∀d:D,eqD d d=true
 |.non=>rfl
 |.bl b=>by simp[eqD]
 |.int i=>by simp[eqD]
 |.str x=>by simp[eqD]
 |.tup ds=>by rw[eqD];exact oa ds
 |.lst ds=>by rw[eqD];exact oa ds
theorem oa:∀ds:List D,kA ds ds=true
 | []=>rfl
 |d::ds=>by rw[kA,jl d,oa ds];rfl
end
section
variable {X:Cx}{pins:List (Addr×Obj)}{σ:St}{H:Hp}{s:Shared}
mutual
theorem Inv.t5(I:Inv X pins σ H s):∀{d d':D}{v:V},Rep X.K H d v->Rep X.K H d' v->d=d'
 |.non,d',v,h,h'=>by
  cases(show v=V.non from h);cases d'<;>first | (obtain⟨_,_,z,_⟩:=h';cases z;done) |rfl| (cases h';done)
 |.bl b,d',v,h,h'=>by
  cases(show v=V.bl b from h);cases d'<;>first | (obtain⟨_,_,z,_⟩:=h';cases z;done) | (cases h';rfl) | (cases h';done)
 |.int b,d',v,h,h'=>by
  cases(show v=V.int b from h);cases d'<;>first | (obtain⟨_,_,z,_⟩:=h';cases z;done) | (cases h';rfl) | (cases h';done)
 |.str b,d',v,h,h'=>by
  cases(show v=V.str b from h);cases d'<;>first | (obtain⟨_,_,z,_⟩:=h';cases z;done) | (cases h';rfl) | (cases h';done)
 |.tup ds,d',v,h,h'=>by
  obtain⟨a,xs,rfl,h1,h2⟩:=h;cases d' with
  |tup ds'=>
   obtain⟨b,ys,e,h1',h2'⟩:=h';cases e;have :=I.sj h1 h1';subst this;rw[Inv.qj I h2 h2']
  |lst ds'=>
   obtain⟨b,ys,e,h1',h2'⟩:=h';cases e;obtain⟨its,_,⟨o,e1,c1,_⟩,_⟩:=I.tuple h1;obtain⟨its',_,⟨o',n,e2,c2,_⟩,_⟩:=I.list h1';rw[e1]at e2;cases e2;rw[c1]at c2;exact absurd c2 (by decide+kernel)
  |_=>cases h'
 |.lst ds,d',v,h,h'=>by
  obtain⟨a,xs,rfl,h1,h2⟩:=h;cases d' with
  |lst ds'=>
   obtain⟨b,ys,e,h1',h2'⟩:=h';cases e;have :=I.mU h1 h1';subst this;rw[Inv.qj I h2 h2']
  |tup ds'=>
   obtain⟨b,ys,e,h1',h2'⟩:=h';cases e;obtain⟨its,_,⟨o,n,e1,c1,_⟩,_⟩:=I.list h1;obtain⟨its',_,⟨o',e2,c2,_⟩,_⟩:=I.tuple h1';rw[e1]at e2;cases e2;rw[c1]at c2;exact absurd c2 (by decide+kernel)
  |_=>cases h'
theorem Inv.qj(I:Inv X pins σ H s):∀{ds ds':List D}{xs:List V},fR X.K H ds xs->fR X.K H ds' xs->ds=ds'
 | [],[],_,_,_=>rfl
 | [],d::ds,xs,h,h'=>by
  obtain⟨x,r,e,_⟩:=h';rw[show xs=[]from h]at e;cases e
 |d::ds,[],xs,h,h'=>by
  obtain⟨x,r,e,_⟩:=h;rw[show xs=[]from h']at e;cases e
 |d::ds,d'::ds',xs,h,h'=>by
  obtain⟨x,r,rfl,h1,h2⟩:=h;obtain⟨y,r',e,h1',h2'⟩:=h';cases e;rw[Inv.t5 I h1 h1',Inv.qj I h2 h2']
end
open PySem.SeqAt
theorem Inv.rcTup(I:Inv X pins σ H s)(A:Around){ds ds':List D}{a b:Addr}{xs ys:List V}(hit:∀(i:Nat)(d d':D)(x y:V)(u u':Value),ds[i]? =some d->ds'[i]? =some d'->Rep X.K H d x->Rep X.K H d' y->RelV x u->RelV y u'->EqAt A.in1 s u u' (eqD d d'))(h1:SqT X.K H a xs)(h2:fR X.K H ds xs)(h1':SqT X.K H b ys)(h2':fR X.K H ds' ys)(hu:A.units<cLine):RcAt A s (.ref a) (.ref b) (kA ds ds'):=by
  obtain⟨its,r,p,_⟩:=I.tuple h1;obtain⟨its',r',p',_⟩:=I.tuple h1';have l1:=h2.length;have l2:=h2'.length;have l3:=r.length;have l4:=r'.length;have key:=RcAt.tuples (e:=fun j=>match ds[j]?,ds'[j]? with |some d,some d'=>eqD d d'|_,_=>false) p p' (A:=A) (by omega) (fun j g1 g2=>by
   have g1':j<its.length:=by simpa using g1
   have g2':j<its'.length:=by simpa using g2
   have e1:ds[j]? =some ds[j]:=ai (by omega);have e2:ds'[j]? =some ds'[j]:=ai (by omega);show EqAt A.in1 s _ _ (match ds[j]?,ds'[j]? with |some d,some d'=>eqD d d'|_,_=>false);rw[e1,e2];obtain⟨x,hx,rx⟩:=h2.at e1;obtain⟨y,hy,ry⟩:=h2'.at e2;obtain⟨u,hu1,ru⟩:=r.get hx;obtain⟨u',hu2,ru'⟩:=r'.get hy;have q1:its.toArray[j]=u:=by have :its[j]? =some its[j]:=ai g1';rw[this]at hu1;simpa using hu1
   have q2:its'.toArray[j]=u':=by have :its'[j]? =some its'[j]:=ai g2';rw[this]at hu2;simpa using hu2
   rw[q1,q2];exact hit j _ _ x y u u' e1 e2 rx ry ru ru')
  have hs:its.toArray.size=ds.length:=by simp;omega
  have hs':its'.toArray.size=ds'.length:=by simp;omega
  rw[hs,hs']at key;by_cases hl:ds.length=ds'.length
  ·have e:((aQ (min ds.length ds'.length)).all (fun j=>match ds[j]?,ds'[j]? with |some d,some d'=>eqD d d'|_,_=>false)&&ds.length==ds'.length)=kA ds ds':=by
    rw[<-hl,Bd,beq_self_eq_true,Bool.and_true];refine kz ds ds' _ hl fun i x y hx hy=>?_;simp only[hx,hy]
   rw[e]at key;exact key
  ·have e:((aQ (min ds.length ds'.length)).all (fun j=>match ds[j]?,ds'[j]? with |some d,some d'=>eqD d d'|_,_=>false)&&ds.length==ds'.length)=kA ds ds':=by
    rw[kr ds ds' hl,beq_eq_false_iff_ne.mpr hl,eZ]
   rw[e]at key;exact key
theorem Inv.rcLst(I:Inv X pins σ H s)(A:Around){ds ds':List D}{a b:Addr}{xs ys:List V}(hit:∀(i:Nat)(d d':D)(x y:V)(u u':Value),ds[i]? =some d->ds'[i]? =some d'->Rep X.K H d x->Rep X.K H d' y->RelV x u->RelV y u'->EqAt A.in1 s u u' (eqD d d'))(h1:SqL X.K H a xs)(h2:fR X.K H ds xs)(h1':SqL X.K H b ys)(h2':fR X.K H ds' ys)(hu:A.units<cLine):RcAt A s (.ref a) (.ref b) (kA ds ds'):=by
  obtain⟨its,r,p,_⟩:=I.list h1;obtain⟨its',r',p',_⟩:=I.list h1';have l1:=h2.length;have l2:=h2'.length;have l3:=r.length;have l4:=r'.length;by_cases hl:ds.length=ds'.length
  ·have key:=RcAt.lists (e:=fun j=>match ds[j]?,ds'[j]? with |some d,some d'=>eqD d d'|_,_=>false) p.isList p'.isList (A:=A) (by simp;omega) (by omega) (fun j g1 g2=>by
    have g1':j<its.length:=by simpa using g1
    have g2':j<its'.length:=by simpa using g2
    have e1:ds[j]? =some ds[j]:=ai (by omega);have e2:ds'[j]? =some ds'[j]:=ai (by omega);show EqAt A.in1 s _ _ (match ds[j]?,ds'[j]? with |some d,some d'=>eqD d d'|_,_=>false);rw[e1,e2];obtain⟨x,hx,rx⟩:=h2.at e1;obtain⟨y,hy,ry⟩:=h2'.at e2;obtain⟨u,hu1,ru⟩:=r.get hx;obtain⟨u',hu2,ru'⟩:=r'.get hy;have q1:its.toArray[j]=u:=by have :its[j]? =some its[j]:=ai g1';rw[this]at hu1;simpa using hu1
    have q2:its'.toArray[j]=u':=by have :its'[j]? =some its'[j]:=ai g2';rw[this]at hu2;simpa using hu2
    rw[q1,q2];exact hit j _ _ x y u u' e1 e2 rx ry ru ru')
   have hs:its.toArray.size=ds.length:=by simp;omega
   rw[hs,kz ds ds' _ hl fun i x y hx hy=>by simp only[hx,hy]]at key;exact key
  ·have key:=RcAt.lists_lengths p.isList p'.isList (A:=A) (by simp;omega) (by omega)
   rw[kr ds ds' hl];exact key
theorem Inv.shp(I:Inv X pins σ H s){d:D}{v:V}{u:Value}(h:Rep X.K H d v)(r:RelV v u):(d=.non/\v=.non/\u=.none)\/(∃x,d=.bl x/\v=.bl x/\u=.bool x)\/(∃x t,d=.int x/\v=.int x/\u=.int x t)\/(∃x t,d=.str x/\v=.str x/\u=.str x t)\/(∃ds a xs its,d=.tup ds/\v=.ref a/\u=.ref a/\SqT X.K H a xs/\fR X.K H ds xs/\IsTup s.heap a its)\/∃ds a xs its,d=.lst ds/\v=.ref a/\u=.ref a/\SqL X.K H a xs/\fR X.K H ds xs/\s.heap.IsList a its:=by
 cases d with
 |non=>cases(show v=_ from h);cases r;exact .inl ⟨rfl,rfl,rfl⟩
 |bl x=>cases(show v=_ from h);cases r;exact .inr (.inl ⟨x,rfl,rfl,rfl⟩)
 |int x=>cases(show v=_ from h);obtain⟨t,rfl⟩:=r;exact .inr (.inr (.inl ⟨x,t,rfl,rfl,rfl⟩))
 |str x=>cases(show v=_ from h);obtain⟨t,rfl⟩:=r;exact .inr (.inr (.inr (.inl ⟨x,t,rfl,rfl,rfl⟩)))
 |tup ds=>obtain⟨a,xs,rfl,h1,h2⟩:=id h;cases r;obtain⟨its,_,p,_⟩:=I.tuple h1;exact .inr (.inr (.inr (.inr (.inl ⟨ds,a,xs,_,rfl,rfl,rfl,h1,h2,p⟩))))
 |lst ds=>obtain⟨a,xs,rfl,h1,h2⟩:=id h;cases r;obtain⟨its,_,p,_⟩:=I.list h1;exact .inr (.inr (.inr (.inr (.inr ⟨ds,a,xs,_,rfl,rfl,rfl,h1,h2,p.isList⟩))))
theorem Inv.eqAt1(I:Inv X pins σ H s){n:Nat}(A:Around)(hit:∀(m:Nat)(ds ds':List D)(i:Nat)(d d':D)(x y:V)(u u':Value),n=m+1->gB ds<=m->ds[i]? =some d->ds'[i]? =some d'->Rep X.K H d x->Rep X.K H d' y->RelV x u->RelV y u'->EqAt A.in1 s u u' (eqD d d')):
  ∀(d d':D)(v v':V)(u u':Value),Rep X.K H d v->Rep X.K H d' v'->RelV v u->RelV v' u'->hgt d<=n->A.units+n+1<cLine->EqAt A s u u' (eqD d d'):=by
 intro d d' v v' u u' h h' r r' hn hu;obtain⟨rfl,rfl,rfl⟩ |⟨_,rfl,rfl,rfl⟩ |⟨_,t,rfl,rfl,rfl⟩ |⟨_,t,rfl,rfl,rfl⟩ |⟨ds,a,xs,its,rfl,rfl,rfl,h1,h2,p⟩ |⟨ds,a,xs,its,rfl,rfl,rfl,h1,h2,p⟩:=I.shp h r<;>obtain⟨rfl,rfl,rfl⟩ |⟨_,rfl,rfl,rfl⟩ |⟨_,t',rfl,rfl,rfl⟩ |⟨_,t',rfl,rfl,rfl⟩ |⟨ds',b,ys,its',rfl,rfl,rfl,h1',h2',p'⟩ |⟨ds',b,ys,its',rfl,rfl,rfl,h1',h2',p'⟩:=I.shp h' r'
 ·exact eO r r' rfl rfl
 ·exact eO r r' rfl rfl
 ·exact eO r r' rfl rfl
 ·exact eO r r' rfl rfl
 ·exact EqAt.none_tuple p' (by omega)
 ·exact EqAt.none_list p' (by omega)
 ·exact eO r r' rfl rfl
 ·exact eO r r' rfl rfl
 ·exact eO r r' rfl rfl
 ·exact eO r r' rfl rfl
 ·exact EqAt.bool_tuple _ p' (by omega)
 ·exact EqAt.bool_list _ p' (by omega)
 ·exact eO r r' rfl rfl
 ·exact eO r r' rfl rfl
 ·exact eO r r' rfl rfl
 ·exact eO r r' rfl rfl
 ·exact EqAt.int_tuple _ t p' (by omega)
 ·exact EqAt.int_list _ t p' (by omega)
 ·exact eO r r' rfl rfl
 ·exact eO r r' rfl rfl
 ·exact eO r r' rfl rfl
 ·exact eO r r' rfl rfl
 ·exact EqAt.str_tuple _ t p' (by omega)
 ·exact EqAt.str_list _ t p' (by omega)
 ·exact EqAt.tuple_none p (by omega)
 ·exact EqAt.tuple_bool _ p (by omega)
 ·exact EqAt.tuple_int _ t' p (by omega)
 ·exact EqAt.tuple_str _ t' p (by omega)
 ·rw[hgt]at hn
  by_cases z:a=b
  ·subst z
   have e:=I.t5 h h';rw[<-e,jl];exact EqAt.same _
  ·rw[eqD]
   exact EqAt.of_refs z (Inv.rcTup I A (fun i d d' x y u u' e1 e2 rx ry ru ru'=>hit (n-1) ds ds' i d d' x y u u' (by omega) (by omega) e1 e2 rx ry ru ru') h1 h2 h1' h2' (by omega))
 ·exact EqAt.tuple_list p p' (by omega)
 ·exact EqAt.list_none p (by omega)
 ·exact EqAt.list_bool _ p (by omega)
 ·exact EqAt.list_int _ t' p (by omega)
 ·exact EqAt.list_str _ t' p (by omega)
 ·exact EqAt.list_tuple p p' (by omega)
 ·rw[hgt]at hn
  by_cases z:a=b
  ·subst z
   have e:=I.t5 h h';rw[<-e,jl];exact EqAt.same _
  ·rw[eqD]
   exact EqAt.of_refs z (Inv.rcLst I A (fun i d d' x y u u' e1 e2 rx ry ru ru'=>hit (n-1) ds ds' i d d' x y u u' (by omega) (by omega) e1 e2 rx ry ru ru') h1 h2 h1' h2' (by omega))
theorem Inv.zk(I:Inv X pins σ H s):∀(n:Nat)(A:Around)(d d':D)(v v':V)(u u':Value),Rep X.K H d v->Rep X.K H d' v'->RelV v u->RelV v' u'->hgt d<=n->A.units+n+1<cLine->EqAt A s u u' (eqD d d'):=by
 intro n
 induction n with
 |zero=>exact fun A d d' v v' u u' h h' r r' hn hu=>Inv.eqAt1 I A (fun m ds ds' i d d' x y u u' hm _ _ _ _ _ _ _=>absurd hm (by omega)) d d' v v' u u' h h' r r' hn hu
 |succ n ih=>
  exact fun A d d' v v' u u' h h' r r' hn hu=>Inv.eqAt1 I A (fun m ds ds' i d d' x y u u' hm hd e1 e2 rx ry ru ru'=>ih A.in1 d d' x y u u' rx ry ru ru' (by have :=n8 e1;omega) (by show A.units+1+n+1<cLine;omega)) d d' v v' u u' h h' r r' hn hu
end
end L2
namespace L2
open PySem PySem.Spec PyProof.Rows PySem.SeqAt
section
variable {X:Cx}{pins:List (Addr×Obj)}{σ:St}{H:Hp}{s:Shared}
theorem Inv.neTup(I:Inv X pins σ H s)(A:Around){ds ds':List D}{a b:Addr}{xs ys:List V}(hit:∀(i:Nat)(d d':D)(x y:V)(u u':Value),ds[i]? =some d->ds'[i]? =some d'->Rep X.K H d x->Rep X.K H d' y->RelV x u->RelV y u'->EqAt A.in1 s u u' (eqD d d'))
  (h1:SqT X.K H a xs)(h2:fR X.K H ds xs)(h1':SqT X.K H b ys)(h2':fR X.K H ds' ys)(hu:A.units<cLine):RcNeAt A s (.ref a) (.ref b) (!kA ds ds'):=by
 obtain⟨its,r,p,_⟩:=I.tuple h1;obtain⟨its',r',p',_⟩:=I.tuple h1';have l1:=h2.length;have l2:=h2'.length;have l3:=r.length;have l4:=r'.length;have key:=RcNeAt.tuples (e:=fun j=>match ds[j]?,ds'[j]? with |some d,some d'=>eqD d d'|_,_=>false) p p' (A:=A) hu (fun j g1 g2=>by
  have g1':j<its.length:=by simpa using g1
  have g2':j<its'.length:=by simpa using g2
  have e1:ds[j]? =some ds[j]:=ai (by omega);have e2:ds'[j]? =some ds'[j]:=ai (by omega);show EqAt A.in1 s _ _ (match ds[j]?,ds'[j]? with |some d,some d'=>eqD d d'|_,_=>false);rw[e1,e2];obtain⟨x,hx,rx⟩:=h2.at e1;obtain⟨y,hy,ry⟩:=h2'.at e2;obtain⟨u,hu1,ru⟩:=r.get hx;obtain⟨u',hu2,ru'⟩:=r'.get hy;have q1:its.toArray[j]=u:=by have :its[j]? =some its[j]:=ai g1';rw[this]at hu1;simpa using hu1
  have q2:its'.toArray[j]=u':=by have :its'[j]? =some its'[j]:=ai g2';rw[this]at hu2;simpa using hu2
  rw[q1,q2];exact hit j _ _ x y u u' e1 e2 rx ry ru ru')
 have hs:its.toArray.size=ds.length:=by simp;omega
 have hs':its'.toArray.size=ds'.length:=by simp;omega
 rw[hs,hs']at key;have e:((aQ (min ds.length ds'.length)).all (fun j=>match ds[j]?,ds'[j]? with |some d,some d'=>eqD d d'|_,_=>false)&&ds.length==ds'.length)=kA ds ds':=by
  by_cases hl:ds.length=ds'.length
  ·rw[<-hl,Bd,beq_self_eq_true,Bool.and_true]
   refine kz ds ds' _ hl fun i x y hx hy=>?_;simp only[hx,hy]
  ·rw[kr ds ds' hl,beq_eq_false_iff_ne.mpr hl,eZ]
 rw[e]at key;exact key
theorem Inv.neLst(I:Inv X pins σ H s)(A:Around){ds ds':List D}{a b:Addr}{xs ys:List V}(hit:∀(i:Nat)(d d':D)(x y:V)(u u':Value),ds[i]? =some d->ds'[i]? =some d'->Rep X.K H d x->Rep X.K H d' y->RelV x u->RelV y u'->EqAt A.in1 s u u' (eqD d d'))
  (h1:SqL X.K H a xs)(h2:fR X.K H ds xs)(h1':SqL X.K H b ys)(h2':fR X.K H ds' ys)(hu:A.units<cLine):RcNeAt A s (.ref a) (.ref b) (!kA ds ds'):=by
 obtain⟨its,r,p,_⟩:=I.list h1;obtain⟨its',r',p',_⟩:=I.list h1';have l1:=h2.length;have l2:=h2'.length;have l3:=r.length;have l4:=r'.length;by_cases hl:ds.length=ds'.length
 ·have key:=RcNeAt.lists (e:=fun j=>match ds[j]?,ds'[j]? with |some d,some d'=>eqD d d'|_,_=>false) p.isList p'.isList (A:=A) (by simp;omega) hu (fun j g1 g2=>by
   have g1':j<its.length:=by simpa using g1
   have g2':j<its'.length:=by simpa using g2
   have e1:ds[j]? =some ds[j]:=ai (by omega);have e2:ds'[j]? =some ds'[j]:=ai (by omega);show EqAt A.in1 s _ _ (match ds[j]?,ds'[j]? with |some d,some d'=>eqD d d'|_,_=>false);rw[e1,e2];obtain⟨x,hx,rx⟩:=h2.at e1;obtain⟨y,hy,ry⟩:=h2'.at e2;obtain⟨u,hu1,ru⟩:=r.get hx;obtain⟨u',hu2,ru'⟩:=r'.get hy;have q1:its.toArray[j]=u:=by have :its[j]? =some its[j]:=ai g1';rw[this]at hu1;simpa using hu1
   have q2:its'.toArray[j]=u':=by have :its'[j]? =some its'[j]:=ai g2';rw[this]at hu2;simpa using hu2
   rw[q1,q2];exact hit j _ _ x y u u' e1 e2 rx ry ru ru')
  have hs:its.toArray.size=ds.length:=by simp;omega
  rw[hs,kz ds ds' _ hl fun i x y hx hy=>by simp only[hx,hy]]at key;exact key
 ·have key:=RcNeAt.lists_lengths p.isList p'.isList (A:=A) (by simp;omega) hu
  rw[kr ds ds' hl];exact key
theorem Inv.rcD(I:Inv X pins σ H s)(A:Around)(d d':D)(v v':V)(u u':Value)(h:Rep X.K H d v)(h':Rep X.K H d' v')(r:RelV v u)(r':RelV v' u')(hu:A.units+hgt d+1<cLine):RcAt A s u u' (eqD d d'):=by
 obtain⟨rfl,rfl,rfl⟩ |⟨_,rfl,rfl,rfl⟩ |⟨_,t,rfl,rfl,rfl⟩ |⟨_,t,rfl,rfl,rfl⟩ |⟨ds,a,xs,its,rfl,rfl,rfl,h1,h2,p⟩ |⟨ds,a,xs,its,rfl,rfl,rfl,h1,h2,p⟩:=I.shp h r<;>obtain⟨rfl,rfl,rfl⟩ |⟨_,rfl,rfl,rfl⟩ |⟨_,t',rfl,rfl,rfl⟩ |⟨_,t',rfl,rfl,rfl⟩ |⟨ds',b,ys,its',rfl,rfl,rfl,h1',h2',p'⟩ |⟨ds',b,ys,its',rfl,rfl,rfl,h1',h2',p'⟩:=I.shp h' r'
 ·exact RcAt.none_none
 ·exact RcAt.none_bool _
 ·exact RcAt.none_int _ t'
 ·exact RcAt.none_str _ t'
 ·exact RcAt.none_tuple p' (by omega)
 ·exact RcAt.none_list p' (by omega)
 ·exact RcAt.bool_none _
 ·exact RcAt.bool_bool _ _
 ·exact RcAt.bool_int _ _ t'
 ·exact RcAt.bool_str _ _ t'
 ·exact RcAt.bool_tuple _ p' (by omega)
 ·exact RcAt.bool_list _ p' (by omega)
 ·exact RcAt.int_none _ t
 ·exact RcAt.int_bool _ t _
 ·exact RcAt.int_int _ t _ t'
 ·exact RcAt.int_str _ t _ t'
 ·exact RcAt.int_tuple _ t p' (by omega)
 ·exact RcAt.int_list _ t p' (by omega)
 ·exact RcAt.str_none _ t
 ·exact RcAt.str_bool _ t _
 ·exact RcAt.str_int _ t _ t'
 ·exact RcAt.str_str _ t _ t'
 ·exact RcAt.str_tuple _ t p' (by omega)
 ·exact RcAt.str_list _ t p' (by omega)
 ·exact RcAt.tuple_none p (by omega)
 ·exact RcAt.tuple_bool _ p (by omega)
 ·exact RcAt.tuple_int _ t' p (by omega)
 ·exact RcAt.tuple_str _ t' p (by omega)
 ·rw[eqD];exact Inv.rcTup I A (fun i d d' x y u u' e1 e2 rx ry ru ru'=>Inv.zk I (gB ds) A.in1 d d' x y u u' rx ry ru ru' (n8 e1) (by rw[hgt]at hu;show A.units+1+gB ds+1<cLine;omega)) h1 h2 h1' h2' (by omega)
 ·exact RcAt.tuple_list p p' (by omega)
 ·exact RcAt.list_none p (by omega)
 ·exact RcAt.list_bool _ p (by omega)
 ·exact RcAt.list_int _ t' p (by omega)
 ·exact RcAt.list_str _ t' p (by omega)
 ·exact RcAt.list_tuple p p' (by omega)
 ·rw[eqD];exact Inv.rcLst I A (fun i d d' x y u u' e1 e2 rx ry ru ru'=>Inv.zk I (gB ds) A.in1 d d' x y u u' rx ry ru ru' (n8 e1) (by rw[hgt]at hu;show A.units+1+gB ds+1<cLine;omega)) h1 h2 h1' h2' (by omega)
theorem Inv.rcNeD(I:Inv X pins σ H s)(A:Around)(d d':D)(v v':V)(u u':Value)(h:Rep X.K H d v)(h':Rep X.K H d' v')(r:RelV v u)(r':RelV v' u')(hu:A.units+hgt d+1<cLine):RcNeAt A s u u' (!eqD d d'):=by
 obtain⟨rfl,rfl,rfl⟩ |⟨_,rfl,rfl,rfl⟩ |⟨_,t,rfl,rfl,rfl⟩ |⟨_,t,rfl,rfl,rfl⟩ |⟨ds,a,xs,its,rfl,rfl,rfl,h1,h2,p⟩ |⟨ds,a,xs,its,rfl,rfl,rfl,h1,h2,p⟩:=I.shp h r<;>obtain⟨rfl,rfl,rfl⟩ |⟨_,rfl,rfl,rfl⟩ |⟨_,t',rfl,rfl,rfl⟩ |⟨_,t',rfl,rfl,rfl⟩ |⟨ds',b,ys,its',rfl,rfl,rfl,h1',h2',p'⟩ |⟨ds',b,ys,its',rfl,rfl,rfl,h1',h2',p'⟩:=I.shp h' r'
 ·exact RcNeAt.none_none
 ·exact RcNeAt.none_bool _
 ·exact RcNeAt.none_int _ t'
 ·exact RcNeAt.none_str _ t'
 ·exact RcNeAt.none_tuple p' (by omega)
 ·exact RcNeAt.none_list p' (by omega)
 ·exact RcNeAt.bool_none _
 ·exact RcNeAt.bool_bool _ _
 ·exact RcNeAt.bool_int _ _ t'
 ·exact RcNeAt.bool_str _ _ t'
 ·exact RcNeAt.bool_tuple _ p' (by omega)
 ·exact RcNeAt.bool_list _ p' (by omega)
 ·exact RcNeAt.int_none _ t
 ·exact RcNeAt.int_bool _ t _
 ·exact RcNeAt.int_int _ t _ t'
 ·exact RcNeAt.int_str _ t _ t'
 ·exact RcNeAt.int_tuple _ t p' (by omega)
 ·exact RcNeAt.int_list _ t p' (by omega)
 ·exact RcNeAt.str_none _ t
 ·exact RcNeAt.str_bool _ t _
 ·exact RcNeAt.str_int _ t _ t'
 ·exact RcNeAt.str_str _ t _ t'
 ·exact RcNeAt.str_tuple _ t p' (by omega)
 ·exact RcNeAt.str_list _ t p' (by omega)
 ·exact RcNeAt.tuple_none p (by omega)
 ·exact RcNeAt.tuple_bool _ p (by omega)
 ·exact RcNeAt.tuple_int _ t' p (by omega)
 ·exact RcNeAt.tuple_str _ t' p (by omega)
 ·rw[eqD];exact Inv.neTup I A (fun i d d' x y u u' e1 e2 rx ry ru ru'=>Inv.zk I (gB ds) A.in1 d d' x y u u' rx ry ru ru' (n8 e1) (by rw[hgt]at hu;show A.units+1+gB ds+1<cLine;omega)) h1 h2 h1' h2' (by omega)
 ·exact RcNeAt.tuple_list p p' (by omega)
 ·exact RcNeAt.list_none p (by omega)
 ·exact RcNeAt.list_bool _ p (by omega)
 ·exact RcNeAt.list_int _ t' p (by omega)
 ·exact RcNeAt.list_str _ t' p (by omega)
 ·exact RcNeAt.list_tuple p p' (by omega)
 ·rw[eqD];exact Inv.neLst I A (fun i d d' x y u u' e1 e2 rx ry ru ru'=>Inv.zk I (gB ds) A.in1 d d' x y u u' rx ry ru ru' (n8 e1) (by rw[hgt]at hu;show A.units+1+gB ds+1<cLine;omega)) h1 h2 h1' h2' (by omega)
noncomputable def rEqD(K:aa):R2:=fun x y H Q=>∃d d',Rep K H d x/\Rep K H d' y/\hgt d<=30/\Q (.bl (eqD d d')) H
noncomputable def rNeD(K:aa):R2:=fun x y H Q=>∃d d',Rep K H d x/\Rep K H d' y/\hgt d<=30/\Q (.bl (!eqD d d')) H
theorem op_eqD(hu:X.A.units+40<cLine):OpR X (ck .Eq) (rEqD X.K):=by
 intro pins s σ H x y v u Q I rx ry h;obtain⟨d,d',h1,h2,hd,q⟩:=h;exact I.rcD X.A d d' x y v u h1 h2 rx ry (by omega) _ _ _ _ (n9 I q rfl)
theorem op_neD(hu:X.A.units+40<cLine):OpR X (ck .NotEq) (rNeD X.K):=by
 intro pins s σ H x y v u Q I rx ry h;obtain⟨d,d',h1,h2,hd,q⟩:=h;exact I.rcNeD X.A d d' x y v u h1 h2 rx ry (by omega) _ _ _ _ (n9 I q rfl)
end
end L2
namespace Q
open PySem PySem.W PyProof.Rows
noncomputable def run{α:Type}(lt:Nat->Nat->Bool):KasT α->α
 |.ret a=>a
 |.ask i j k=>run lt (k (lt i j))
theorem run_bind{α β:Type}(lt:Nat->Nat->Bool)(f:α->KasT β):∀t:KasT α,run lt (t.bind f)=run lt (f (run lt t))
 |.ret a=>rfl
 |.ask i j k=>run_bind lt f (k (lt i j))
noncomputable def okT{α:Type}(lt:Nat->Nat->Bool)(n:Nat):KasT α->Prop
 |.ret _=>True
 |.ask i j k=>(i<n/\j<n/\i≠j)/\okT lt n (k (lt i j))
theorem kP{α β:Type}{lt:Nat->Nat->Bool}{n:Nat}{f:α->KasT β}:∀{t:KasT α},okT lt n t->okT lt n (f (run lt t))->okT lt n (t.bind f)
 |.ret a,_,h=>h
 |.ask i j k,h,h'=>⟨h.1,kP h.2 h'⟩
structure Tot(lt:Nat->Nat->Bool)(n:Nat):Prop where
 tri:∀i j,i<n->j<n->i≠j->lt i j= !lt j i
 tr:∀i j k,i<n->j<n->k<n->lt i j=true->lt j k=true->lt i k=true
noncomputable abbrev at'(p:Array Nat)(i:Nat):Nat:=p.getD i 0
theorem zC(p:Array Nat)(i:Nat):at' p i=(p[i]?).getD 0:=by simp[at',Array.getD_eq_getD_getElem?]
structure Pm(p:Array Nat)(n:Nat):Prop where
 perm:p.Perm (aQ n).toArray
theorem Pm.size{p:Array Nat}{n:Nat}(h:Pm p n):p.size=n:=by rw[h.perm.size_eq];simp
theorem Pm.lt{p:Array Nat}{n:Nat}(h:Pm p n){i:Nat}(hi:i<n):at' p i<n:=by
 have hs:i<p.size:=by rw[h.size];exact hi
 have e:at' p i=p[i]:=by simp[at',hs]
 have m:p[i]∈(aQ n).toArray:=h.perm.mem_iff.mp (Array.getElem_mem hs);rw[e];simpa using m
theorem Pm.inj{p:Array Nat}{n:Nat}(h:Pm p n){i j:Nat}(hi:i<n)(hj:j<n)(e:at' p i=at' p j):i=j:=by
 have hsi:i<p.size:=by rw[h.size];exact hi
 have hsj:j<p.size:=by rw[h.size];exact hj
 have nd:p.toList.Nodup:=by
  have q:p.toList.Perm (aQ n):=by simpa using u3.mp h.perm
  exact q.nodup_iff.mpr List.nodup_range
 have e1:at' p i=p.toList[i]'(by simpa using hsi):=by simp[at',hsi]
 have e2:at' p j=p.toList[j]'(by simpa using hsj):=by simp[at',hsj]
 rw[e1,e2]at e;exact(cc nd).mp e
theorem El{p:Array Nat}{i j:Nat}(hj:j<=p.size)(k:Nat):at' (uV p i j) k=if i<=k/\k<j then at' p (i+j-1-k)else at' p k:=by
 rw[zC];unfold uV;rw[getElem?_mirror_all hj];split <;>rw[zC]
theorem Em{p:Array Nat}{src d:Nat}(hs:src<p.size)(hd:d<=src)(k:Nat):at' (bubble p src d) k=if k=src-d then at' p src else if src-d<k/\k<=src then at' p (k-1)else at' p k:=by
 rw[zC,getElem?_bubble hs d hd];split
 ·simp[at',hs]
 ·split <;>rw[zC]
theorem Pm.rev{p:Array Nat}{n i j:Nat}(h:Pm p n):Pm (uV p i j) n:=⟨(mirror_perm _ _ _ _).trans h.perm⟩
theorem Pm.bub{p:Array Nat}{n i j:Nat}(h:Pm p n):Pm (bubble p i j) n:=⟨(bubble_perm _ _ _).trans h.perm⟩
noncomputable def Up(lt:Nat->Nat->Bool)(p:Array Nat)(m:Nat):Prop:=∀i j,i<j->j<m->lt (at' p i) (at' p j)=true
noncomputable def Dn(lt:Nat->Nat->Bool)(p:Array Nat)(m:Nat):Prop:=∀i j,i<j->j<m->lt (at' p j) (at' p i)=true
section
variable {lt:Nat->Nat->Bool}{N:Nat}{p:Array Nat}
theorem Tot.flip(T:Tot lt N)(P:Pm p N){i j:Nat}(hi:i<N)(hj:j<N)(n:i≠j)(h:lt (at' p i) (at' p j)=false):lt (at' p j) (at' p i)=true:=by
 have q:=T.tri _ _ (P.lt hi) (P.lt hj) fun e=>n (P.inj hi hj e);rw[h]at q;simpa using q.symm
theorem Pm.ask{p:Array Nat}(P:Pm p N){i j:Nat}(hi:i<N)(hj:j<N)(n:i≠j):at' p i<N/\at' p j<N/\at' p i≠at' p j:=⟨P.lt hi,P.lt hj,fun e=>n (P.inj hi hj e)⟩
theorem Up.succ(T:Tot lt N)(P:Pm p N){n:Nat}(h1:1<=n)(hn:n<N)(u:Up lt p n)(h:lt (at' p (n-1)) (at' p n)=true):Up lt p (n+1):=by
 intro i j hij hj;by_cases e:j=n
 ·subst e
  by_cases e2:i=j-1
  ·subst e2;exact h
  ·exact T.tr _ _ _ (P.lt (by omega)) (P.lt (by omega)) (P.lt hn) (u i (j-1) (by omega) (by omega)) h
 ·exact u i j hij (by omega)
theorem Dn.succ(T:Tot lt N)(P:Pm p N){n:Nat}(h1:1<=n)(hn:n<N)(u:Dn lt p n)(h:lt (at' p n) (at' p (n-1))=true):Dn lt p (n+1):=by
 intro i j hij hj;by_cases e:j=n
 ·subst e
  by_cases e2:i=j-1
  ·subst e2;exact h
  ·exact T.tr _ _ _ (P.lt hn) (P.lt (by omega)) (P.lt (by omega)) h (u i (j-1) (by omega) (by omega))
 ·exact u i j hij (by omega)
theorem t4(T:Tot lt N)(P:Pm p N):∀(f n:Nat),1<=n->n+f<=N->Up lt p n->∃m,run lt (kas_asc p f n)=m/\n<=m/\m<=n+f/\Up lt p m/\(m=n+f\/lt (at' p m) (at' p (m-1))=true)/\okT lt N (kas_asc p f n)
 | 0,n,h1,h2,u=>⟨n,rfl,ar _,ar _,u,.inl rfl,trivial⟩
 |f+1,n,h1,h2,u=>by
  unfold kas_asc;have hask:=P.ask (i:=n) (j:=n-1) (by omega) (by omega) (by omega);simp only[run,okT];by_cases c:lt (at' p n) (at' p (n-1))=true
  ·rw[if_pos c]
   exact⟨n,rfl,ar _,by omega,u,.inr c,hask,trivial⟩
  ·rw[if_neg c]
   have c':lt (at' p n) (at' p (n-1))=false:=by simpa using c
   obtain⟨m,e,a1,a2,a3,a4,a5⟩:=t4 T P f (n+1) (by omega) (by omega) (u.succ T P h1 (by omega) (T.flip P (by omega) (by omega) (by omega) c'));refine⟨m,e,by omega,by omega,a3,?_,hask,a5⟩;rcases a4 with z|z
   ·exact .inl (by omega)
   ·exact .inr z
theorem vz(T:Tot lt N)(P:Pm p N):∀(f n:Nat),1<=n->n+f<=N->Dn lt p n->∃m,run lt (kas_desc f p n 0)=(p,m,0)/\n<=m/\m<=n+f/\Dn lt p m/\okT lt N (kas_desc f p n 0)
 | 0,n,h1,h2,u=>⟨n,rfl,ar _,ar _,u,trivial⟩
 |f+1,n,h1,h2,u=>by
  unfold kas_desc;have hask:=P.ask (i:=n) (j:=n-1) (by omega) (by omega) (by omega);have hask2:=P.ask (i:=n-1) (j:=n) (by omega) (by omega) (by omega);simp only[run,okT];by_cases c:lt (at' p n) (at' p (n-1))=true
  ·rw[if_pos c,if_neg (dt 0)]
   obtain⟨m,e,a1,a2,a3,a4⟩:=vz T P f (n+1) (by omega) (by omega) (u.succ T P h1 (by omega) c);exact⟨m,e,by omega,by omega,a3,hask,a4⟩
  ·rw[if_neg c]
   have c':lt (at' p n) (at' p (n-1))=false:=by simpa using c
   have d:=T.flip P (by omega) (by omega) (by omega) c';simp only[run,okT];rw[if_pos d];exact⟨n,rfl,ar _,by omega,u,hask,hask2,trivial⟩
theorem CC(T:Tot lt N)(P:Pm p N){n:Nat}(h1:1<=n)(hn:n<=N)(u:Dn lt p n):∃m p',run lt (kas_tail3 n N p)=(m,p')/\1<=m/\m<=N/\Up lt p' m/\Pm p' N/\okT lt N (kas_tail3 n N p):=by
 have u':Up lt (uV p 0 n) n:=by
  intro i j hij hj;rw[El (by rw[P.size];exact hn),El (by rw[P.size];exact hn),if_pos ⟨aM _,by omega⟩,if_pos ⟨aM _,hj⟩];exact u _ _ (by omega) (by omega)
 obtain⟨m,e,a1,a2,a3,_,a5⟩:=t4 T P.rev (N-n) n h1 (by omega) u';unfold kas_tail3;refine⟨m,uV p 0 n,?_,by omega,by omega,a3,P.rev,kP a5 trivial⟩;rw[run_bind,e];rfl
theorem tZ(T:Tot lt N)(P:Pm p N){n:Nat}(hn:n+1<=N)(u:Dn lt p (n+1)):∃m p',run lt (gX n N p)=(m,p')/\1<=m/\m<=N/\Up lt p' m/\Pm p' N/\okT lt N (gX n N p):=by
 obtain⟨m,e,a1,a2,a3,a4⟩:=vz T P (N-(n+1)) (n+1) (by omega) (by omega) u;obtain⟨m2,p2,b1,b2,b3,b4,b5,b6⟩:=CC T P (by omega) (by omega) a3;unfold gX;refine⟨m2,p2,?_,b2,b3,b4,b5,kP a4 ?_⟩
 ·rw[run_bind,e]
  exact b1
 ·rw[e]
  exact b6
theorem Ac(T:Tot lt N)(P:Pm p N)(hN:1<=N):∃m p',run lt (kas_count N p)=(m,p')/\1<=m/\m<=N/\Up lt p' m/\Pm p' N/\okT lt N (kas_count N p):=by
 obtain⟨m,e,a1,a2,a3,a4,a5⟩:=t4 T P (N-1) 1 (ar _) (by omega) (fun i j hij hj=>by omega);have hmid:∃m' p',run lt (if(m==N)=true then qc (m,p)else if m>1 then KasT.ask (p.getD 0 0) (p.getD (m-1) 0) fun c=>if c=true then qc (m,p)else gX m N (uV p 0 m)else gX m N p)=(m',p')/\1<=m'/\m'<=N/\Up lt p' m'/\Pm p' N/\
   okT lt N (if(m==N)=true then qc (m,p)else if m>1 then KasT.ask (p.getD 0 0) (p.getD (m-1) 0) fun c=>if c=true then qc (m,p)else gX m N (uV p 0 m)else gX m N p):=by
  by_cases c:m=N
  ·rw[if_pos (by simpa using c)]
   exact⟨m,p,rfl,a1,by omega,a3,P,trivial⟩
  ·rw[if_neg (by simpa using c)]
   by_cases d:m>1
   ·rw[if_pos d]
    simp only[run,okT];rw[if_pos (a3 0 (m-1) (by omega) (by omega))];exact⟨m,p,rfl,a1,by omega,a3,P,P.ask (by omega) (by omega) (by omega),trivial⟩
   ·rw[if_neg d]
    obtain rfl:m=1:=by omega
    rcases a4 with z|z
    ·omega
    ·exact tZ T P (by omega) fun i j hij hj=>by
      obtain rfl:j=1:=by omega
      obtain rfl:i=0:=by omega
      exact z
 obtain⟨m',p',b1,b2,b3,b4,b5,b6⟩:=hmid;unfold kas_count;refine⟨m',p',?_,b2,b3,b4,b5,kP a5 ?_⟩
 ·rw[run_bind,e]
  exact b1
 ·rw[e]
  exact b6
theorem nS(T:Tot lt N)(P:Pm p N){k:Nat}(hk:k<N)(u:Up lt p k):∀(f l r:Nat),l<=r->r<=k->r-l<=f->(∀i,i<l->lt (at' p i) (at' p k)=true)->(∀i,r<=i->i<k->lt (at' p k) (at' p i)=true)->
  ∃q,run lt (kas_place p k f l r)=q/\q<=k/\(∀i,i<q->lt (at' p i) (at' p k)=true)/\(∀i,q<=i->i<k->lt (at' p k) (at' p i)=true)/\okT lt N (kas_place p k f l r)
 | 0,l,r,h1,h2,h3,a,b=>⟨l,rfl,by omega,a,fun i hi=>b i (by omega),trivial⟩
 |f+1,l,r,h1,h2,h3,a,b=>by
  unfold kas_place;by_cases c:l≥ r
  ·rw[if_pos c]
   exact⟨l,rfl,by omega,a,fun i hi=>b i (by omega),trivial⟩
  ·rw[if_neg c]
   have hask:=P.ask (i:=k) (j:=(l+r)/2) hk (by omega) (by omega);simp only[run,okT];by_cases d:lt (at' p k) (at' p ((l+r)/2))=true
   ·rw[if_pos d]
    have key:=nS T P hk u f l ((l+r)/2) (by omega) (by omega) (by omega) a fun i hi hik=>?_;obtain⟨q,y1,y2,y3,y4,y5⟩:=key;exact⟨q,y1,y2,y3,y4,hask,y5⟩;by_cases e:i=(l+r)/2
    ·rw[e];exact d
    ·exact T.tr _ _ _ (P.lt hk) (P.lt (by omega)) (P.lt (by omega)) d (u _ _ (by omega) hik)
   ·rw[if_neg d]
    have d':=T.flip P hk (by omega:(l+r)/2<N) (by omega) (by simpa using d);have key:=nS T P hk u f ((l+r)/2+1) r (by omega) h2 (by omega) (fun i hi=>?_) b;obtain⟨q,y1,y2,y3,y4,y5⟩:=key;exact⟨q,y1,y2,y3,y4,hask,y5⟩;by_cases e:i=(l+r)/2
    ·rw[e];exact d'
    ·exact T.tr _ _ _ (P.lt (by omega)) (P.lt (by omega)) (P.lt hk) (u _ _ (by omega) (by omega)) d'
end
theorem yJ{lt:Nat->Nat->Bool}{N:Nat}(T:Tot lt N):∀(f k:Nat)(p:Array Nat),Pm p N->k+f=N->Up lt p k->∃p',run lt (kas_bin f p k)=p'/\Up lt p' N/\Pm p' N/\okT lt N (kas_bin f p k)
 | 0,k,p,P,h,u=>⟨p,rfl,by rw[<-h];exact u,P,trivial⟩
 |f+1,k,p,P,h,u=>by
  have hk:k<N:=by omega
  obtain⟨q,e,hq,a,b,okp⟩:=nS T P hk u k 0 k (aM _) (ar _) (by omega) (fun i hi=>absurd hi (iJ _)) fun i h1 h2=>by omega
  have key:=yJ T f (k+1) (bubble p k (k-q)) P.bub (by omega) fun i j hij hj=>?_;obtain⟨p',y1,y2,y3,y4⟩:=key;unfold kas_bin;refine⟨p',?_,y2,y3,kP okp ?_⟩
  ·rw[run_bind,e]
   exact y1
  ·rw[e]
   exact y4
  have hs:k<p.size:=by rw[P.size];exact hk
  rw[Em hs (by omega),Em hs (by omega)];have eq:k-(k-q)=q:=by omega
  rw[eq];by_cases c1:i=q
  ·rw[if_pos c1,if_neg (by omega),if_pos (by omega)]
   exact b _ (by omega) (by omega)
  ·rw[if_neg c1]
   by_cases c2:j=q
   ·rw[if_pos c2,if_neg (by omega)]
    exact a i (by omega)
   ·rw[if_neg c2]
    by_cases c3:q<i
    ·rw[if_pos (by omega),if_pos (by omega)]
     exact u _ _ (by omega) (by omega)
    ·rw[if_neg (by omega)]
     by_cases c4:q<j
     ·rw[if_pos (by omega)]
      exact u _ _ (by omega) (by omega)
     ·rw[if_neg (by omega)]
      exact u _ _ (by omega) (by omega)
theorem kj{lt:Nat->Nat->Bool}{N:Nat}(T:Tot lt N)(hN:1<=N):Pm (run lt (dj N)) N/\Up lt (run lt (dj N)) N/\okT lt N (dj N):=by
 have P0:Pm (List.toArray (aQ N)) N:=⟨Array.Perm.refl _⟩;obtain⟨m,p',e,a1,a2,a3,a4,a5⟩:=Ac T P0 hN;have hm:max m 1=m:=by omega
 have hmid:∃p2,run lt (if m<N then kas_bin (N-max m 1) p' (max m 1)else qc p')=p2/\Up lt p2 N/\Pm p2 N/\okT lt N (if m<N then kas_bin (N-max m 1) p' (max m 1)else qc p'):=by
  rw[hm];by_cases c:m<N
  ·rw[if_pos c]
   exact yJ T (N-m) m p' a4 (by omega) a3
  ·rw[if_neg c]
   have e2:m=N:=by omega
   exact⟨p',rfl,by rw[<-e2];exact a3,a4,trivial⟩
 obtain⟨p2,b1,b2,b3,b4⟩:=hmid;have er:run lt (dj N)=p2:=by
  unfold dj;rw[run_bind,e];exact b1
 rw[er];refine⟨b3,b2,?_⟩;unfold dj;refine kP a5 ?_;rw[e];exact b4
theorem wp_run{lt:Nat->Nat->Bool}{N:Nat}{S:Shared->Prop}{cmp:Nat->Nat->(Bool->Shared->Prop)->Shared->Prop}{α:Type}{G:α->Shared->Prop}
  (h:∀i j C s,i<N->j<N->i≠j->S s->(∀s',S s'->C (lt i j) s')->cmp i j C s):
  ∀(t:KasT α)(s:Shared),okT lt N t->S s->(∀s',S s'->G (run lt t) s')->t.kasWp cmp G s
 |.ret a,s,_,hs,g=>g s hs
 |.ask i j k,s,ok,hs,g=>h i j _ s ok.1.1 ok.1.2.1 ok.1.2.2 hs fun s' hs'=>wp_run h (k (lt i j)) s' ok.2 hs' g
end Q
namespace L2
open PySem PySem.Spec PyProof.Rows
structure Fly(h₀ h:Heap)(H:Hp)(pn:List (Addr×Obj))(a:Addr)(c:Value)(d:Option Addr):Prop where
 ex:∃T oe vs oT ts,h.get? a=some oe/\oe.cls=c/\oe.dict=d/\oe.data=.fields vs/\vs[1]? =some (.ref T)/\T≠a/\h.get? T=some oT/\oT.data=.fields ts/\ts[3]? =some .none/\h₀.get? T=none/\H T=none/\∀p∈pn,p.1≠T
 new:h₀.get? a=none
 un:H a=none
 pins:∀p∈pn,p.1≠a
noncomputable def CXx(P:Program)(w:World):CXT:=fun outer H s E e s'=>
 ∃a c d H',e=.ref a/\s'.os=s.os/\kY s'.gens/\Un (frs outer) [] H H' s.heap s'.heap/\HOk P w H' s'.heap/\Fly s.heap s'.heap H' [] a c d/\E c d H'
section
variable {X:Cx}{pins:List (Addr×Obj)}{σ:St}{H:Hp}{s:Shared}
theorem Inv.tL{h':Heap}{t':Nat}{it:Addr}(I:Inv X pins σ H s)(k:∀b o,b≠it->s.heap.get? b=some o->h'.get? b=some o)(hn:H it=none)(hL:it≠X.env.locals)
  (h1:X.s₀.heap.get? it=none)(h2:∀x c,X.env.cells.lookup x=some c->c≠it)(h3:∀p∈X.pn++pins,p.1≠it):Inv X pins σ H {s with heap:=h',toks:=t'}:=by
 have ne0:∀b o,X.s₀.heap.get? b=some o->b≠it:=fun b o e z=>by rw[z,h1]at e;cases e
 have nit:∀b u,H b=some u->b≠it:=fun b u e z=>by rw[z,hn]at e;cases e
 refine⟨I.ok,I.os,I.bare,⟨fun b o e n hb hx=>k b o (ne0 b o e) (I.base.keep b o e n hb hx),fun b o e n hb hx=>?_,I.base.free,fun b o e hx=>?_,I.base.tups,I.base.frzs,I.base.tbls⟩,?_,fun x c e=>?_,I.free,I.freeC,fun p hp=>?_,fun b u e=>?_,I.len⟩
 ·obtain⟨sl,q⟩:=I.base.slot b o e n hb hx
  exact⟨sl,k _ _ (ne0 b o e) q⟩
 ·obtain⟨o',q⟩:=I.base.there b o e hx
  exact⟨o',k _ _ (ne0 b o e) q⟩
 ·obtain⟨m,⟨o,es,ep,ho,r⟩,hl⟩:=I.loc
  refine⟨m,⟨o,es,ep,k _ _ (cz hL) ho,r⟩,fun i x v e1 e2 e3=>?_⟩;obtain⟨u,ru,l⟩:=hl i x v e1 e2 e3;refine⟨u,ru,?_⟩;rcases l with l|⟨kk,c,e,oc,q,dd⟩
  ·exact .inl l
  ·exact .inr ⟨kk,c,e,oc,k _ _ (h2 x c e) q,dd⟩
 ·obtain⟨v,oc,q,dd⟩:=I.cell x c e
  exact⟨v,oc,k _ _ (h2 x c e) q,dd⟩
 ·obtain⟨e,n,ne,nf,d⟩:=I.pin p hp
  exact⟨k _ _ (h3 p hp) e,n,ne,nf,d⟩
 ·refine(I.hok b u e).nP (fun c v hc q=>k c v ?_ q) (fun _ q=>q) fun _ _ q=>q
  rcases hc with z|z
  ·rw[z];exact nit b u e
  ·exact nit c _ z
theorem Inv.xE(I:Inv X pins σ H s){a:Addr}{o:Obj}{vs:Array Value}(e:s.heap.get? a=some o)(hd:o.data=.fields vs):a≠X.env.locals/\∀x c,X.env.cells.lookup x=some c->c≠a:=by
 refine⟨fun z=>?_,fun x c hc z=>?_⟩
 ·obtain⟨m,⟨o',es,ep,ho',hd',_⟩,_⟩:=I.loc
  rw[<-z,e]at ho';cases ho';rw[hd]at hd';cases hd'
 ·obtain⟨v,o',ho',hd'⟩:=I.cell x c hc
  rw[z,e]at ho';cases ho';rw[hd]at hd';cases hd'
theorem cJ.has{P:Program}{w:World}{H:Hp}{h:Heap}{a:Addr}{o:HO}(x:cJ P w H h a o):∃ob,h.get? a=some ob:=by
 cases o with
 |lst xs=>obtain⟨_,_,_,_,e⟩:=x;exact⟨_,e⟩
 |tup xs=>obtain⟨_,_,_,_,e,_⟩:=x;exact⟨_,e⟩
 |dK kvs=>obtain⟨_,_,_,_,o,_,_,e,_⟩:=x;exact⟨_,e⟩
 |dT kvs=>obtain⟨_,_,_,_,o,_,_,e,_⟩:=x;exact⟨_,e⟩
 |set S n=>obtain⟨o,_,_,_,e,_⟩:=x;exact⟨_,e⟩
 |ins C dx fs=>obtain⟨_,_,_,e,_⟩:=x;exact⟨_,e⟩
 |own y=>exact x
 |xd fs=>obtain⟨_,⟨_,_,_,e,_⟩,_⟩:=x;exact⟨_,e⟩
 |rng lo hi=>obtain⟨_,_,_,e⟩:=x;exact⟨_,e⟩
 |frz ob u=>obtain⟨e,_⟩:=x;exact⟨_,e⟩
 |tbl ps=>exact⟨_,x⟩
 |met f y=>exact⟨_,x⟩
 |ext φ=>exact x.2.1
section
variable {M:Model}{E:Value->Shared->Prop}{Q:Unit->Shared->Prop}
theorem enter{a:Addr}{oe:Obj}{vs:Array Value}{head:Value}{more:Bool}(I:Inv X pins σ H s)(stk:X.stack=X.env::X.outer)(hf:X.env.frame=some X.env.locals)
  (he:s.heap.get? a=some oe)(hd:oe.data=.fields vs)(hsz:1<vs.size)(h0:X.s₀.heap.get? a=none)(hH:H a=none)(hp:∀p∈X.pn++pins,p.1≠a)
  (h:∀s2,Inv X pins σ H s2->Fly X.s₀.heap s2.heap H (X.pn++pins) a oe.cls oe.dict->Q () s2):
  wpAny M X.A (do let f<-frameOf X.env;let l<-entryPlaceOf X.env.locals more;let b<-w4 head f .none (rawInt X.env.locals) .none l;pI (.ref a) 1 b)
   (fun _ s'=>wpAny M X.A (wV (.ref a) none) Q E s') E s:=by
 have hfr:X.A.frames=some (X.env::X.outer):=by rw[<-stk];exact I.ok.frames
 have hl:s.heap.FunFrames X.base (X.env::X.outer):=by rw[<-stk];exact I.stack
 have nofr:∀b∈frs X.stack,H b=none:=I.tP;refine af (wpAny_frameOf_fun hfr hl hf fun h1 hs=>?_);have hs':Heap.SlotsOnly (frs X.stack) s.heap h1:=by rw[stk];exact hs
 have hane:a∉frs X.stack:=fun hm=>by
  rw[stk]at hm;obtain⟨_,o,ho,hnf⟩:=hl.mem hm;rw[he]at ho;cases ho;exact hnf vs hd
 have u1:Un (frs X.stack) [] H H s.heap h1:=
  ⟨fun b o e _ hb _=>(hs'.2.1 b hb).trans e,fun b o e _ _ _=>hs'.2.2 b o e,fun _ _ _ n _=>n,fun b o e _=>let⟨sl,q⟩:=hs'.2.2 b o e;⟨_,q⟩,fun _ _ q=>q,fun _ _ _ q=>q,fun _ ps q=>⟨#[],by rw[q];simp⟩⟩
 have k1:HOk X.prog X.w H h1:=fun b u e=>by
  refine(I.hok b u e).nP (fun c v hc q=>(hs'.2.1 c fun hm=>?_).trans q) (fun _ q=>q) fun _ _ q=>q;have n:=nofr c hm;rcases hc with z|z
  ·rw[z,e]at n;cases n
  ·rw[z]at n;cases n
 have I1:Inv X pins σ H {s with heap:=h1}:=I.call (g':=s.gens) (t':=s.toks) (d':=s.drawn) (ch:=[]) u1 k1 I.bare fun _ z=>nomatch z;have he1:h1.get? a=some oe:=(hs'.2.1 a hane).trans he;refine af (wpAny_entryPlaceOf fun pl hpl=>?_);unfold w4 newFields;refine af (cC ?_ (hpl.sizeOk5 _ _ _ _ _));generalize hob:({cls:=.type "traceback",dict:=none,data:=.fields ([head,.ref X.env.locals,.none,rawInt X.env.locals,.none]++(if pl.isEmpty then aO 6 bN else pl)).toArray}:Obj)=ob;have hodata:ob.data=.fields ([head,.ref X.env.locals,.none,rawInt X.env.locals,.none]++(if pl.isEmpty then aO 6 bN else pl)).toArray:=by rw[<-hob]
 have hofree:ob.isFreed=false:=by rw[<-hob];rfl
 have I2:Inv X pins σ H {s with heap:=h1.push ob}:=I1.kept (t':=s.toks) fun b o e=>ae _ e;have he2:(h1.push ob).get? a=some oe:=ae _ he1;have hT2:(h1.push ob).get? h1.objs.size=some ob:=aC _ hofree;have hTa:h1.objs.size≠a:=cG (ax he1);have hd3:=pK hd (·.setIfInBounds 1 (bI h1.objs.size));refine wpAny_setField he2 hd hsz ?_;obtain⟨ra1,ra2⟩:=I.xE he hd;have I3:Inv X pins σ H {s with heap:=(h1.push ob).update a (fU (·.setIfInBounds 1 (.ref h1.objs.size)))}:=
  I2.tL (t':=s.toks) (fun b o hb e=>by rw[bx _ _ (cz hb)];exact e) hH ra1 h0 ra2 hp
 have he3:=cU (fU (·.setIfInBounds 1 (bI h1.objs.size))) he2 (Bp hd3);have hT3:((h1.push ob).update a (fU (·.setIfInBounds 1 (bI h1.objs.size)))).get? h1.objs.size=some ob:=by
  rw[bx _ _ (cz hTa)];exact hT2
 have hszT:3<([head,.ref X.env.locals,.none,rawInt X.env.locals,.none]++(if pl.isEmpty then aO 6 bN else pl)).toArray.size:=by
  simp only[ay,aG,bj,fV];omega
 have hv1:(vs.setIfInBounds 1 (bI h1.objs.size))[1]? =some (.ref h1.objs.size):=by simp[hsz]
 refine wpAny_setFlight_none he3 hd3 hv1 hT3 hodata hszT ?_;have hTle:s.heap.objs.size<=h1.objs.size:=Nat.le_of_eq hs.1.symm;have hT0:X.s₀.heap.get? h1.objs.size=none:=Bw (aU I.sz hTle);have hTH:H h1.objs.size=none:=I.hok.fresh hTle;obtain⟨rt1,rt2⟩:=I3.xE hT3 hodata;have hpT:∀p∈X.pn++pins,p.1≠h1.objs.size:=fun p hq z=>by
  have q:=ax (I.pin p hq).1;exact absurd (bf (z▸q) hTle) (dt _)
 have I4:=I3.tL (t':=s.toks) (h':=((h1.push ob).update a (fU (·.setIfInBounds 1 (.ref h1.objs.size)))).update h1.objs.size (fU (·.setIfInBounds 3 .none)))
  (fun b o hb e=>by rw[bx _ _ (cz hb)];exact e) hTH rt1 hT0 rt2 hpT
 refine h _ I4 ⟨⟨h1.objs.size,_,_,_,_,?_,Obj.cls_mapFields _ _,?_,hd3,hv1,hTa,cU _ hT3 (Bp (pK hodata _)),pK hodata _,?_,hT0,hTH,hpT⟩,h0,hH,hp⟩
 ·show(Heap.update _ _ _).get? a=_
  rw[bx _ _ hTa];exact he3
 ·obtain⟨c',d',dt',sl'⟩:=oe
  cases dt'<;>rfl
 ·rw[Array.getElem?_setIfInBounds_self_of_lt hszT]
theorem Dw{a:Addr}{c:Value}{args:List Value}{h':Heap}(I:Inv X pins σ H s)(stk:X.stack=X.env::X.outer)(hf:X.env.frame=some X.env.locals)(hx:X.ex=[])(hm:vg s.heap h' a c args)
  (h:∀s2,Inv X pins σ H s2->Fly X.s₀.heap s2.heap H (X.pn++pins) a c none->Q () s2):
  wpAny M X.A (jW (.ref a) X.env) (fun _ s'=>wpAny M X.A (wV (.ref a) none) Q E s') E {s with heap:=h'}:=by
 obtain⟨t,ht,_,_⟩:=hm.there;have I1:Inv X pins σ H {s with heap:=h'}:=I.kept (t':=s.toks) hm.keeps;have hH:H a=none:=by
  cases q:H a with
  |none=>rfl
  |some o=>
   obtain⟨ob,e⟩:=(I.hok a o q).has;rw[hm.new]at e;cases e
 unfold jW;simp only[hf];refine af (w6 (x:=.none) ht rfl (by rfl) ?_);rw[if_neg (show ¬(bN != bN)=true by simp)];have h0:X.s₀.heap.get? a=none:=by
  cases q:X.s₀.heap.get? a with
  |none=>rfl
  |some o=>
   obtain⟨o',e⟩:=I.base.there a o q (by rw[hx];simp);rw[hm.new]at e;cases e
 exact enter I1 stk hf ht rfl (by simp) h0 hH (fun p hp z=>by have :=(I.pin p hp).1;rw[z,hm.new]at this;cases this) h
theorem Dx{a:Addr}{c:Value}{d:Option Addr}{H':Hp}{s':Shared}(I:Inv X pins σ H s)(stk:X.stack=X.env::X.outer)(hf:X.env.frame=some X.env.locals)(hx:X.ex=[])(ho:s'.os=s.os)(hg:kY s'.gens)(u:Un (frs X.stack) [] H H' s.heap s'.heap)(ok:HOk X.prog X.w H' s'.heap)
  (F:Fly s.heap s'.heap H' [] a c d)(h:∀s2,Inv X pins σ H' s2->Fly X.s₀.heap s2.heap H' (X.pn++pins) a c d->Q () s2):
  wpAny M X.A (jW (.ref a) X.env) (fun _ s'=>wpAny M X.A (wV (.ref a) none) Q E s') E s':=by
 obtain⟨⟨T,oe,vs,oT,ts,he,rfl,rfl,hd,h1,hTa,hT,hdT,h3,hnT,hHT,_⟩,hna,hHa,_⟩:=F;have I1:Inv X pins σ H' s':=I.call' (ch:=[]) ho u ok hg fun _ z=>nomatch z;have back:∀b,s.heap.get? b=none->X.s₀.heap.get? b=none:=fun b n=>by
  cases q:X.s₀.heap.get? b with
  |none=>rfl
  |some o=>
   obtain⟨o',e⟩:=I.base.there b o q (by rw[hx];simp);rw[n]at e;cases e
 have np:∀b,s.heap.get? b=none->∀p∈X.pn++pins,p.1≠b:=fun b n p hp z=>by have :=(I.pin p hp).1;rw[z,n]at this;cases this
 unfold jW;simp only[hf];refine af (w6 he hd h1 ?_);rw[if_pos (show(bI T != bN)=true by simp)];refine af (w6 hT hdT h3 ?_);rw[if_neg (show ¬(bN==rawInt X.env.locals)=true by simp[rawInt])];refine af (wpAny_setField hT hdT (cO.mp h3).1 ?_);obtain⟨rt1,rt2⟩:=I1.xE hT hdT;have I2:=I1.tL (t':=s'.toks) (h':=s'.heap.update T (fU (·.setIfInBounds 3 .none))) (fun b o hb e=>by rw[bx _ _ (cz hb)];exact e) hHT rt1 (back T hnT) rt2 (np T hnT);have he2:(s'.heap.update T (fU (·.setIfInBounds 3 .none))).get? a=some oe:=by rw[bx _ _ hTa];exact he
 exact enter I2 stk hf he2 hd (cO.mp h1).1 (back a hna) hHa (np a hna) h
end
end
end L2
namespace L2
open PySem PySem.Spec PySem.W PyProof.Rows
noncomputable def excOk(K:aa)(C:Addr):Bool:=
 findIn K (.ref C) "__getattribute__"==some (some (.builtin "BaseException.__getattribute__"))&&findIn K (.ref C) "__getattr__"==some none&&
 findIn K (.ref C) "__class__"==some (some (.builtin "object.__class__"))&&specialIn K (.builtin "object.__class__") "__get__"==some (some (.builtin "getset_descriptor.__get__"))&&
 takesIn K (.builtin "object.__class__")==some true&&mroIn K C (.type "object")==some true&&mroIn K C (.type "BaseException")==some true&&(clsIn K C).isSome
abbrev bmV:List Value:=[.type "ValueError",.type "Exception",.type "BaseException",.type "object"]
noncomputable def DX(a:Addr)(c:Value)(d:Option Addr):HO:=.ext fun h=>∃o,h.get? a=some o/\o.cls=c/\o.dict=d/\notCls o=true
noncomputable abbrev excO(a:Addr)(c:Value):HO:=DX a c none
section
variable {X:Cx}
theorem exc_obj{K:aa}{h:Heap}{C:Addr}{bmB:List Value}{newId:String}(kin:K.In h)(q:excIn K C bmB newId=true):
  ∃nm qn N bs bm hd sn sub ab col dd k0 k1 k2 k3 k5 mN,h.get? C=some (excClassObj nm qn C N bs bm hd sn sub ab col dd k0 k1 k2 k3 k5 newId)/\h.Ns N mN/\mN "__init__"=none/\OwnTail h bmB bm:=by
 unfold excIn at q;split at q
 case h_2=>cases q
 rename_i od cd sl ho;split at q
 case h_2=>cases q
 rename_i C' bm j0 j1 j2 j3 n j5 hm hs;rw[aP,aP,aP,aP,aP,beq_iff_eq,beq_iff_eq,beq_iff_eq]at q;obtain⟨⟨⟨⟨⟨e1,e2⟩,e3⟩,e4⟩,e5⟩,e6⟩:=q;subst e1;subst e2;obtain⟨c1,c2,c3,c4,c5,c6,c7,c8,c9,c10,c11⟩:=cd;have e7:c3=.ref C'::bm:=hm;have e8:c11=false:=by simpa using e3
 have e9:sl= #[j0,j1,j2,j3,some (.builtin n),j5]:=by
  apply Array.ext'
  exact hs
 subst e7;subst e8;subst e9;exact⟨_,_,_,_,_,_,_,_,_,_,_,_,_,_,_,_,_,kin _ _ ho,.of_isNs (isNs_of_in kin e5),nsMap_none_of_in kin e5 e6,tail_of_in kin e4⟩
theorem CY{x:Str}{e:Expr}{es:List Expr}{t:TA}{C:Addr}{np cpos pos:Pos}{E:St->XK}(hg:Gl X x)(hm:X.mg x=some (.ref C))(hk:keepIn X.K (.ref C)=true)(hq:excIn X.K C bmV "ValueError.__new__"=true)(ha:PA X (e::es) t)(hc:X.calm=true)(hdb:(x==("__debug__":Str))=false)
  (hst:bC (e::es) X.env=(false,eval e X.env)::bC es X.env)(hpl:(backTo cpos (bC es X.env)).any (·.1)=false)
  (made:∀pins σ H s a c args h',Inv X pins σ H s->vg s.heap h' a c args->E σ c none H->X.xe (.ref a) {s with heap:=h'}):
  PS X (.Raise (some (.Call (.Name x np) (e::es) [] cpos)) none pos) (fun D σ H=>t σ H fun vs H1=>vs.length<=sizeLine/\E σ (.ref C) none H1):=by
 intro pins s σ H D I h;obtain⟨nm,qn,N,bs,bm,hd,sn,sub,ab,col,dd,k0,k1,k2,k3,k5,mN,hC,hN,hni,T⟩:=exc_obj (bmB:=bmV) I.mod.kin hq;have hbase:bm.contains (.type "BaseException")=true:=T.hasType (by decide+kernel);rw[arm_exec_Raise];show wpAny _ _ (do standAt pos;raiseStmt X.env (some (do let v<-eval (.Call (.Name x np) (e::es) [] cpos) X.env;standAt pos;pure v)) none) _ _ s;refine af (iV (wpAny_raiseStmt_made_sub (C:=C) (nm:=nm) (q:=qn) (N:=N) (bs:=bs) (bm:=bm) (hdct:=hd) (sn:=sn) (sub:=sub) (ab:=ab) (col:=col) (dd:=dd) (k0:=k0) (k1:=k1) (k2:=k2) (k3:=k3) (k5:=k5) (newId:="ValueError.__new__") hbase (I.ok.hd hc) (af (dm (Q:=fun v s1=>∃a u,v=.ref a/\s1.heap.get? C=some (excClassObj nm qn C N bs bm hd sn sub ab col dd k0 k1 k2 k3 k5 "ValueError.__new__")/\s1.heap.get? a=some {cls:=.ref C,data:=.fields #[.ref u,.none,.none,.none,.bool false,.none]}/\X.xe (.ref a) s1) (E:=X.xe) ?_ (fun v s1 z=>af (iV (aj z))) fun _ _ z=>z))));refine gD (pW I hg hm ?_ hdb);refine Bb (h₀:=X.base) I.ok.mod.kin hk (thn (ha cpos pins s σ H _ I h) fun us s1 ⟨vs,H1,I1,r,hlen,q⟩=>⟨I1.kIn,?_⟩) hst hpl;have hC1:=I1.bk _ _ hC;obtain⟨hh,gg,dr,tk,os⟩:=s1;refine wpAny_call_exc_subT (hrest:=by rw[tI,<-r.length];exact hlen) PySem.F.excBase_ValueError (T.keeps I1.bk) hC1 (hN.keeps I1.bk) hni fun h' a hmk=>?_;obtain⟨u,hu,_,_⟩:=hmk.there;exact⟨a,u,rfl,hmk.keeps _ _ hC1,hu,made pins σ H1 _ a _ _ h' I1 hmk q⟩
end
noncomputable def Cx.re(X:Cx)(A:Around)(calm:Bool)(pn:List (Addr×Obj))(xe:Value->Shared->Prop):Cx:={X with A:=A,calm:=calm,pn:=pn,xe:=xe}
noncomputable def Ends.drop(D:Ends)(i:Nat):Ends:={nx:=fun σ H=>D.nx (σ.set i none) H,rt:=D.rt,bk:=fun σ H=>D.bk (σ.set i none) H,ct:=fun σ H=>D.ct (σ.set i none) H}
noncomputable def eCatch(K:aa)(C:Addr)(i:Nat)(ts:TS)(D:Ends):St->XK:=fun σ c d H=>
 c=c/\exmOne K c (.ref C)=some true/\∀a,H a=none->ts (D.drop i) (σ.set i (some (.ref a))) (upd H a (DX a c d))
noncomputable def wCatch(X:Cx)(pins:List (Addr×Obj))(D:Ends)(hs:List ExceptHandler):Value->Shared->Prop:=fun e s1=>
 wpAny (model X.prog X.w) X.A (jW e X.env) (fun _ s2=>wpAny (model X.prog X.w) X.A (wV e none) (fun _ s3=>wpAny (model X.prog X.w) X.A (handleBy e X.env hs) (SP X pins D) X.xe s3) X.xe s2) X.xe s1
section
variable {X:Cx}{pins:List (Addr×Obj)}{σ:St}{H:Hp}{s:Shared}{x n:Str}{C:Addr}{i:Nat}{b₀:Stmt}{suite:List Stmt}{np hpos pos:Pos}{ts:TS}{D:Ends}
structure TryOk(X:Cx)(x n:Str)(C:Addr)(i:Nat)(suite:List Stmt)(ts:TS):Prop where
 nd:X.N.Nodup
 at_:X.N[i]? =some n
 loc:X.env.scope.names.lookup n=some .local
 gl:Gl X x
 mg:X.mg x=some (.ref C)
 db:(x==("__debug__":Str))=false
 stk:X.stack=X.env::X.outer
 fr:X.env.frame=some X.env.locals
 ex:X.ex=[]
 su:∀(pins:List (Addr×Obj))(a:Addr),PSs (X.re (X.A.mark (some (.ref a))) false (X.pn++pins) (fun _ _=>False)) suite ts
end
noncomputable abbrev XS:=St->XK
noncomputable abbrev N0:XS:=fun _=>E0
noncomputable def wR(CX:CXT)(X:Cx)(E:XS):Prop:=∀(pins:List (Addr×Obj))(σ:St)(H:Hp)(s:Shared)(e:Value)(s':Shared),Inv X pins σ H s->CX X.stack H s (E σ) e s'->X.xe e s'
noncomputable def MadeS(X:Cx)(E:XS):Prop:=∀(pins:List (Addr×Obj))(σ:St)(H:Hp)(s:Shared)(a:Addr)(c:Value)(args:List Value)(h':Heap),Inv X pins σ H s->vg s.heap h' a c args->E σ c none H->X.xe (.ref a) {s with heap:=h'}
section
variable {X:Cx}{CX:CXT}{k:Nat}{f:Addr}{fd:fI}{ps:List Str}{sp:Sp}{dvs:List V}{ds:List Value}{E:XS}{x:Str}{p pos:Pos}{e:Expr}{es:List Expr}{t:TA}
theorem yI{pins:List (Addr×Obj)}{σ:St}{H:Hp}{s:Shared}{Q:VK}{us:List Value}{vs:List V}(F:iG X.prog X.w X.K X.mg X.base CX k f fd ps sp)(hr:jc k X.A)(hb:Binds X.K fd ps ds)(hd:bJ dvs ds)(hx:wR CX X E)
  (I:Inv X pins σ H s)(r:bJ vs us)(h:sp (vs++dvs) H Q (E σ)):wpAny (model X.prog X.w) X.A (call (.ref f) us) (EP X pins σ Q) X.xe s:=by
 have r2:bJ (vs++dvs) (us++ds):=r.append hd;have hl:(us++ds).length=ps.length:=r2.length.symm.trans (F.len _ _ _ _ h);refine wpAny_call (jG (F.run X.A X.stack s H ⟨us,[]⟩ (us++ds) (vs++dvs) Q (E σ) hr I.env0 (hb s us I.kIn hl) r2 h) fun r s' hq=>?_);cases r with
 |error e=>exact hx pins σ H s e s' I hq
 |ok fl=>cases fl<;>first |exact I.after hq|exact jd hq
theorem Dk(F:iG X.prog X.w X.K X.mg X.base CX k f fd ps sp)(hr:jc k X.A)(hg:Gl X x)(hm:X.mg x=some (.ref f))(hk:b9 X.K (.ref f)=true)(hb:Binds X.K fd ps ds)(hd:bJ dvs ds)(hx:wR CX X E)
  (ha:PA X (e::es) t)(hdb:(x==("__debug__":Str))=false)(he:bC (e::es) X.env=(false,eval e X.env)::bC es X.env)(hpl:(backTo pos (bC es X.env)).any (·.1)=false):
  PE X (.Call (.Name x p) (e::es) [] pos) (fun σ H Q=>vo sp dvs (E σ) t σ H Q):=by
 intro pins s σ H Q I h;refine gD (pW I hg hm ?_ hdb);exact Bb (h₀:=X.base) I.ok.mod.kin hk (thn (ha pos pins s σ H _ I h) fun us s1 ⟨vs,H1,I1,r,q⟩=>⟨I1.kIn,yI F hr hb hd hx I1 r q⟩) he hpl
theorem Ak(F:iG X.prog X.w X.K X.mg X.base CX k f fd ps sp)(hr:jc k X.A)(hg:Gl X x)(hm:X.mg x=some (.ref f))(hk:b9 X.K (.ref f)=true)(hb:Binds X.K fd ps ds)(hd:bJ dvs ds)(hx:wR CX X E)
  (hdb:(x==("__debug__":Str))=false):PE X (.Call (.Name x p) [] [] pos) (fun σ H Q=>vo sp dvs (E σ) lZ σ H Q):=by
 intro pins s σ H Q I h;refine gD (pW I hg hm ?_ hdb);exact PySem.W.callWith_K0 I.kIn hk (yI (us:=[]) F hr hb hd hx I .nil h)
end
section
variable {P:Program}{w:World}{K:aa}{mg:Str->Option Value}{base:Heap}
theorem AX{N:List Str}{qual:Str}{scope:Scope}{f:Addr}{cd:Value}{A:Around}{outer:List Env}{s:Shared}{H:Hp}{E:XK}:
  wR (CXx P w) (uE (CXx P w) P w K mg base N qual scope f cd A outer s H E) (fun _=>E):=by
 intro pins σ H1 s1 e s' I h;obtain⟨a,c,d,H',rfl,ho,hg,u,hok,F,q⟩:=h;show wpAny _ _ (leaving _ _) _ _ _;unfold leaving;refine af (Dx I rfl rfl rfl ho hg u hok F fun s2 I2 F2=>?_);obtain⟨⟨T,oe,vs,oT,ts,h1,h2,h3,h4,h5,h6,h7,h8,h9,h10,h11,_⟩,b1,b2,_⟩:=F2;exact⟨a,c,d,H',rfl,I2.os,I2.bare,I2.base,I2.hok,⟨⟨T,oe,vs,oT,ts,h1,h2,h3,h4,h5,h6,h7,h8,h9,h10,h11,fun _ z=>nomatch z⟩,b1,b2,fun _ z=>nomatch z⟩,q⟩
theorem AY{N:List Str}{qual:Str}{scope:Scope}{f:Addr}{cd:Value}{A:Around}{outer:List Env}{s:Shared}{H:Hp}{E:XK}:
  MadeS (uE (CXx P w) P w K mg base N qual scope f cd A outer s H E) (fun _=>E):=by
 intro pins σ H1 s1 a c args h' I hm q;show wpAny _ _ (leaving _ _) _ _ _;unfold leaving;refine af (Dw I rfl rfl rfl hm fun s2 I2 F2=>?_);obtain⟨⟨T,oe,vs,oT,ts,h1,h2,h3,h4,h5,h6,h7,h8,h9,h10,h11,_⟩,b1,b2,_⟩:=F2;exact⟨a,c,none,H1,rfl,I2.os,I2.bare,I2.base,I2.hok,⟨⟨T,oe,vs,oT,ts,h1,h2,h3,h4,h5,h6,h7,h8,h9,h10,h11,fun _ z=>nomatch z⟩,b1,b2,fun _ z=>nomatch z⟩,q⟩
theorem cxx0{o:List Env}{H:Hp}{s:Shared}{e:Value}{s':Shared}(h:CXx P w o H s E0 e s'):False:=by
 obtain⟨_,_,_,_,_,_,_,_,_,_,q⟩:=h;exact q
theorem iG.calm{k:Nat}{f:Addr}{fd:fI}{ps:List Str}{sp:Sp}(F:iG P w K mg base (CXx P w) k f fd ps sp):iG P w K mg base CX0 k f fd ps (fun vs H Q _=>sp vs H Q E0):=
 ⟨fun vs H Q E h=>F.len vs H Q E0 h,fun A outer s H args us vs Q E hr he hb hv hs=>jG (F.run A outer s H args us vs Q E0 hr he hb hv hs) fun r s' q=>by
  cases r with
  |error e=>exact cxx0 q
  |ok fl=>cases fl<;>exact q⟩
end
end L2
namespace Q
open PySem PySem.Spec PySem.W PyProof.Rows L2
noncomputable def iu(lt:Nat->Nat->Bool)(vs:List Value):List Value:=if vs.length<2 then vs else(run lt (dj vs.length)).toList.map fun i=>vs.getD i .none
noncomputable def Asks(prog:Program)(w:World)(A:Around)(lt:Nat->Nat->Bool)(vs:List Value)(h0:Heap):Prop:=
 ∀s1:Shared,(∀b o,h0.get? b=some o->s1.heap.get? b=some o)->
  ∃κ,(∀(Q':SortKind->Shared->Prop)(E':Value->Shared->Prop),Q' κ s1->wpAny (model prog w) A (keyKind' vs.toArray) Q' E' s1)/\
   ∀i j (C:Bool->Shared->Prop),i<vs.length->j<vs.length->i≠j->C (lt i j) s1->kas_ask prog w A κ vs i j C s1
section
variable {prog:Program}{w:World}{A:Around}{E:Value->Shared->Prop}{s:Shared}{lt:Nat->Nat->Bool}{vs:List Value}
theorem iM{n:Nat}(h:n<64):n<=sizeLine:=by rw[pH];omega
theorem tU{a:Addr}{n:Nat}{h0:Heap}{P:fc->Shared->Prop}(T:Tot lt vs.length)(ho:s.heap.get? a=some (seqObj "list" vs.toArray n))(k0:∀b o,h0.get? b=some o->s.heap.get? b=some o/\b≠a)(h64:vs.length<64)
  (ask:2<=vs.length->Asks prog w A lt vs h0)(h:P (.done (.ret .none)) {s with heap:=A5 s.heap a vs (iu lt vs).toArray}):wpAny (model prog w) A (Builtin.«list.sort» ⟨[.ref a],[]⟩) P E s:=by
 have hv:vs.toArray.size=vs.length:=by simp
 obtain⟨c,hc⟩:∃c,(s.heap.update a (bW fun _=> #[])).get? a=some (seqObj "list" #[] c):=⟨_,get?_update_seq ho _⟩;have hc':(((s.heap.update a (bW fun _=> #[])).push (seqObj "tuple" vs.toArray 0)).push (seqObj "list" #[] 0)).get? a=some (seqObj "list" #[] c):=ae _ (ae _ hc);have keep:∀b o,h0.get? b=some o->(((s.heap.update a (bW fun _=> #[])).push (seqObj "tuple" vs.toArray 0)).push (seqObj "list" #[] 0)).get? b=some o:=fun b o e=>
  ae _ (ae _ ((bx _ _ (cz (k0 b o e).2)).trans (k0 b o e).1))
 rw[list_sort_plain];refine af (listItems_at ho rfl (af (k8 ho rfl ?_ (by rw[hv];exact iM h64) (aM _))));refine af (seqEpoch_at hc rfl (af (wpAny_newTuple ?_ (show vs.length<=_ from iM h64))));refine af (rG (b7 ?_) (aM _));by_cases hn:vs.length<2
 ·have e:iu lt vs=vs:=if_pos hn
  rw[e]at h;dsimp only;rw[if_pos (by rw[hv];exact hn),if_pos (by rw[hv];exact hn)];refine af (aj (af ?_));rw[StateT.run_pure];refine aj (af (seqEpoch_at hc' rfl (af (k8 hc' rfl ?_ (aM _) ?_))))
  ·have e2:(arrOf (SortSt.mk' general' (vs.toArray.zip vs.toArray) #[] 7 none)).map (·.2)=vs.toArray:=by
    show(vs.toArray.zip vs.toArray).map (·.2)=vs.toArray;apply Array.ext';simp[List.map_snd_zip]
   rw[e2];have e3:failedOf ((),SortSt.mk' general' (vs.toArray.zip vs.toArray) #[] 7 none).snd=none:=rfl;rw[e3];simp only[bne_self_eq_false,bO,if_false];exact aj h
  ·show((vs.toArray.zip vs.toArray).map (·.2)).size<=_
   rw[Array.size_map,Array.size_zip,hv,Bd];exact dJ (iM h64)
 ·have h2:2<=vs.length:=by omega
  have e:iu lt vs=(run lt (dj vs.length)).toList.map fun i=>vs.getD i .none:=if_neg hn;rw[e]at h;dsimp only;rw[if_neg (by rw[hv];exact hn),if_neg (by rw[hv];exact hn)];obtain⟨κ,hk1,hk2⟩:=ask h2 {s with heap:=((s.heap.update a (bW fun _=> #[])).push (seqObj "tuple" vs.toArray 0)).push (seqObj "list" #[] 0)} keep;obtain⟨P1,U1,O1⟩:=kj T (by omega:1<=vs.length);refine af (hk1 _ _ (af ?_));have key:=kat_run (prog:=prog) (w:=w) (A:=A) (E:=E) (κ:=κ) (ks:=vs) (vs:=vs) (s:={s with heap:=((s.heap.update a (bW fun _=> #[])).push (seqObj "tuple" vs.toArray 0)).push (seqObj "list" #[] 0)})
   (Q:=fun st' s'=>s'={s with heap:=((s.heap.update a (bW fun _=> #[])).push (seqObj "tuple" vs.toArray 0)).push (seqObj "list" #[] 0)}/\arrOf st'=(run lt (dj vs.length)).map (kas_item (vs.toArray.zip vs.toArray))/\failedOf st'=none)
   (G:=fun p s'=>s'={s with heap:=((s.heap.update a (bW fun _=> #[])).push (seqObj "tuple" vs.toArray 0)).push (seqObj "list" #[] 0)}/\p=run lt (dj vs.length)) rfl h2 h64
   (fun p st' s' _ e1 e2 e3=>⟨e3.1,by rw[e1,e3.2],e2⟩)
   (wp_run (S:=fun s'=>s'={s with heap:=((s.heap.update a (bW fun _=> #[])).push (seqObj "tuple" vs.toArray 0)).push (seqObj "list" #[] 0)}) (fun i j C s' hi hj hij hs hC=>by
    subst hs;exact hk2 i j C hi hj hij (hC _ rfl)) _ _ O1 rfl fun s' hs=>⟨hs,rfl⟩)
  refine dm key ?_ fun _ _ z=>z;rintro⟨⟨⟩,st'⟩ s' ⟨rfl,har,hf⟩;have hout:=kat_snds (ks:=vs) (vs:=vs) rfl har;dsimp only;rw[hout,hf];have hlen:(List.toArray ((run lt (dj vs.length)).toList.map fun i=>vs.getD i bN)).size<=sizeLine+1:=by
   rw[ay,ag,bR,P1.size];exact dJ (iM h64)
  refine af (seqEpoch_at hc' rfl (af (k8 hc' rfl ?_ (aM _) hlen)));simp only[bne_self_eq_false,bO,if_false];exact aj h
theorem zW{l:Addr}{Q:Value->Shared->Prop}(T:Tot lt vs.length)(hl:s.heap.IsList l vs.toArray)(h64:vs.length<64)(ask:2<=vs.length->Asks prog w A.in1.in1 lt vs s.heap)
  (h:Q (.ref (s.heap.objs.size+1)) {s with heap:=sortedAll s.heap vs (iu lt vs).toArray}):wpAny (model prog w) A (call (.builtin "sorted") [.ref l]) Q E s:=by
 refine ju kind_sorted plain_sorted entry_sorted (args_sorted1 _) ?_;unfold Builtin.«sorted»;refine af (m:=checkCount "sorted" 1 1 _) (aj (af (collect_list hl (af (rG ?_ (show vs.length<=_ from iM h64))) (iM h64))));generalize hH:(s.heap.push (seqObj "list" #[] 0)).update s.heap.objs.size (bW (·++vs.toArray))=h1;have hz:h1.objs.size=s.heap.objs.size+1:=by rw[<-hH,Heap.size_update,size_push']
 have kp:∀b o,s.heap.get? b=some o->h1.get? b=some o:=fun b o e=>by
  have hb:=ax e;rw[<-hH,bx _ _ (cG hb)];exact ae _ e
 have hg:(h1.push (seqObj "list" vs.toArray 0)).get? (s.heap.objs.size+1)=some (seqObj "list" vs.toArray 0):=by
  rw[<-hz];exact aC _ rfl
 have hq:sortedAll s.heap vs (iu lt vs).toArray=A5 (h1.push (seqObj "list" vs.toArray 0)) (s.heap.objs.size+1) vs (iu lt vs).toArray:=by rw[<-hH];rfl
 rw[hq]at h;show wpAny _ _ _ _ _ {s with heap:=h1.push (seqObj "list" vs.toArray 0)};rw[hz];refine af (b7 (eI A6 ⟨_,hg,rfl⟩ yy (tU T hg (fun b o e=>⟨ae _ (kp b o e),aE (bG (ax e))⟩) h64 ask ⟨_,rfl,?_⟩) (A9 _)));exact aj ⟨_,rfl,h⟩
end
noncomputable def tlt(x y:Str):Bool:=decide (x.cps.toList<y.cps.toList)
noncomputable def jC(ks:List Str)(i j:Nat):Bool:=tlt (ks.getD i "") (ks.getD j "")
noncomputable def ord(ks:List Str):List Nat:=if ks.length<2 then aQ ks.length else(run (jC ks) (dj ks.length)).toList
noncomputable def sortBy{α:Type}(d:α)(ks:List Str)(ys:List α):List α:=(ord ks).map fun i=>ys.getD i d
theorem str_ext{x y:Str}(h:x.cps.toList=y.cps.toList):x=y:=by
 obtain⟨a⟩:=x;obtain⟨b⟩:=y;have :a=b:=Array.toList_inj.mp h;rw[this]
theorem sk{x y z:Str}(a:tlt x y=true)(b:tlt y z=true):tlt x z=true:=by
 unfold tlt at *;rw[decide_eq_true_eq]at *;exact List.lt_trans a b
theorem tlt_tri{x y:Str}(h:x≠y):tlt x y= !tlt y x:=by
 unfold tlt;by_cases c:x.cps.toList<y.cps.toList
 ·have d:¬y.cps.toList<x.cps.toList:=fun z=>List.lt_irrefl _ (List.lt_trans c z)
  simp[c,d]
 ·by_cases d:y.cps.toList<x.cps.toList
  ·simp[c,d]
  ·exact absurd (str_ext (List.le_antisymm (List.not_lt.mp d) (List.not_lt.mp c))) h
theorem lY{ks:List Str}(nd:ks.Nodup):Tot (jC ks) ks.length where
 tri:=fun i j hi hj h=>tlt_tri fun e=>h (by
  rw[aJ,aJ,ai hi,ai hj]at e;exact(cc nd).mp e)
 tr:=fun i j k _ _ _ a b=>sk a b
theorem uh(ks:List Str)(nd:ks.Nodup):(ord ks).length=ks.length:=by
 unfold ord;split
 ·simp
 ·rw[bR,(kj (lY nd) (by omega)).1.size]
theorem qo{ks:List Str}{ys:List V}{vs:List Value}(nd:ks.Nodup)(hl:ks.length=ys.length)(r:bJ ys vs):bJ (sortBy .non ks ys) (iu (jC ks) vs):=by
 have hlen:=r.length;have e:vs.length=ks.length:=by omega
 unfold iu sortBy ord;rw[e];by_cases c:ks.length<2
 ·rw[if_pos c,if_pos c]
  have e2:(aQ ks.length).map (fun i=>ys.getD i V.non)=ys:=by
   rw[hl];apply dv
   ·simp
   ·intro i h1 h2
    simp[h2]
  rw[e2];exact r
 ·rw[if_neg c,if_neg c]
  have P:=(kj (lY nd) (by omega)).1;have all:∀l:List Nat,(∀i∈l,i<ks.length)->bJ (l.map fun i=>ys.getD i V.non) (l.map fun i=>vs.getD i bN):=by
   intro l
   induction l with
   |nil=>exact fun _=>.nil
   |cons i l ih=>
    intro h;have hi:i<ys.length:=by have :=h i (.head _);omega
    obtain⟨u,hu,ru⟩:=r.get (ai hi);refine .cons ?_ (ih fun j hj=>h j (.tail _ hj));show L2.RelV (ys.getD i V.non) (vs.getD i bN);rw[aJ,ai hi,aJ,hu];exact ru
  refine all _ fun i hi=>?_;have m:i∈(aQ ks.length).toArray:=P.perm.mem_iff.mp (Bj.mp hi);simpa using m
theorem yG:∀{ks:List Str}{vs:List Value},bJ (ks.map V.str) vs->fT vs ks
 | [],_,.nil=>.nil
 |k::ks,_,.cons r t=>by
  obtain⟨tk,rfl⟩:=r;exact .cons k tk (yG t)
theorem B0{ks:List Str}{vs:List Value}(r:fT vs ks){i:Nat}(hi:i<ks.length):∃t,vs.getD i .none=.str (ks.getD i "") t:=by
 induction r generalizing i with
 |nil=>exact absurd hi (iJ _)
 |cons y t h ih=>
  cases i with
  |zero=>exact⟨t,rfl⟩
  |succ i=>exact ih (by simpa using hi)
theorem kg{ks:List Str}{vs:List Value}(r:fT vs ks):vs.length=ks.length:=by
 induction r with
 |nil=>rfl
 |cons y t h ih=>simp[ih]
section
variable {prog:Program}{w:World}{A:Around}
theorem oj{ks:List Str}{vs:List Value}{h0:Heap}(r:fT vs ks)(h2:2<=vs.length):Asks prog w A (jC ks) vs h0:=by
 intro s1 _;refine⟨oneType',fun Q' E' q=>?_,fun i j C hi hj _ q=>?_⟩
 ·match vs,r,h2 with
  |v1::v2::rest,r,_=>
   rw[keyKind_strs r];exact aj q
 ·rw[kg r]at hi hj
  obtain⟨t,e1⟩:=B0 r hi;obtain⟨u,e2⟩:=B0 r hj;unfold kas_ask;rw[e1,e2,keyLt'_oneType];exact oneLt_str q
noncomputable def oo(h:Heap)(vs:List Value)(ks:List Str):Prop:=Paired (fun v k=>∃a o xs n t,v=.ref a/\h.get? a=some o/\o.cls=.type "tuple"/\o.data=.seq xs n/\xs[0]? =some (iX k t)) vs ks
theorem yF{h:Heap}{vs:List Value}{ks:List Str}(r:oo h vs ks){i:Nat}(hi:i<vs.length):∃a o xs n t,vs.getD i .none=.ref a/\h.get? a=some o/\o.data=.seq xs n/\xs[0]? =some (iX (ks.getD i "") t):=by
 unfold oo at r
 induction r generalizing i with
 |nil=>exact absurd hi (iJ _)
 |cons y t ih=>
  cases i with
  |zero=>
   obtain⟨a,o,xs,n,t,e1,e2,e3,e4,e5⟩:=y;exact⟨a,o,xs,n,t,e1,e2,e4,e5⟩
  |succ i=>exact ih (by simpa using hi)
theorem BI{h h1:Heap}(kp:∀b o,h.get? b=some o->h1.get? b=some o){vs:List Value}{ks:List Str}(r:oo h vs ks):∃fs,KatTups h1 vs fs/\fs.length=vs.length/\∀v∈fs,∃x t,v=iX x t:=by
 unfold oo at r
 induction r with
 |nil=>exact⟨[],.nil,rfl,fun v hv=>nomatch hv⟩
 |cons y t ih=>
  obtain⟨fs,a1,a2,a3⟩:=ih;obtain⟨a,o,xs,n,t,rfl,e2,e3,e4,e5⟩:=y;refine⟨_::fs,.cons (kp _ _ e2) e3 e4 e5 a1,by simp[a2],fun v hv=>?_⟩;rcases aK.mp hv with rfl|hv
  ·exact⟨_,_,rfl⟩
  ·exact a3 v hv
theorem zP{xs ys:Array Value}{x y:Value}(hx:xs[0]? =some x)(hy:ys[0]? =some y):∃r,xs.toList.zip ys.toList=(x,y)::r:=by
 obtain⟨lx⟩:=xs;obtain⟨ly⟩:=ys;cases lx with
 |nil=>simp at hx
 |cons a lx=>
  cases ly with
  |nil=>simp at hy
  |cons b ly=>
   have e1:a=x:=by simpa using hx
   have e2:b=y:=by simpa using hy
   subst e1 e2;exact⟨_,rfl⟩
theorem A1{ks:List Str}{vs:List Value}{h0:Heap}(nd:ks.Nodup)(hl:vs.length=ks.length)(r:oo h0 vs ks)(h2:2<=vs.length):Asks prog w A (jC ks) vs h0:=by
 intro s1 kp;refine⟨tuples' true,fun Q' E' q=>?_,fun i j C hi hj hij q=>?_⟩
 ·obtain⟨fs,a1,a2,a3⟩:=BI kp r
  refine kat_kind (T:=.type "str") a1 (by omega) (fun v hv=>?_) rfl q;obtain⟨x,t,rfl⟩:=a3 v hv;exact Looks.of_pure rfl
 ·obtain⟨a,o,xs,n,t,e1,e2,e3,e4⟩:=yF r hi
  obtain⟨b,o',ys,n',u,f1,f2,f3,f4⟩:=yF r hj;unfold kas_ask;rw[e1,f1];obtain⟨rest,ez⟩:=zP e4 f4;refine kat_lt (kp _ _ e2) e3 (kp _ _ f2) f3 ?_;rw[ez];refine kat_cons (eqBool_str ?_);have hne:ks.getD i ""≠ks.getD j "":=fun e=>hij (by
   rw[hl]at hi hj;rw[aJ,aJ,ai hi,ai hj]at e;exact(cc nd).mp e)
  rw[show(ks.getD i ""==ks.getD j "")=false by simpa using hne];exact kat_no (oneLt_str q)
end
noncomputable def uO(H:Hp)(ys:List V)(ks:List Str):Prop:=Paired (fun v k=>∃a rest,v=V.ref a/\H a=some (.tup (V.str k::rest))) ys ks
noncomputable def rSort(K:aa):List V->Hp->VK->Prop:=fun xs H Q=>∃p ys ks,xs=[V.ref p]/\SqL K H p ys/\ks.length<64/\ks.Nodup/\(ys=ks.map V.str\/uO H ys ks)/\∀l,H l=none->Q (.ref l) (upd H l (.lst (sortBy .non ks ys)))
theorem ou{H:Hp}:∀{ys:List V}{ks:List Str},uO H ys ks->ks.length=ys.length
 |_,_,.nil=>rfl
 |_,_,.cons _ t=>by simp[ou t]
theorem yE{P:Program}{w:World}{H:Hp}{h:Heap}(ok:HOk P w H h):∀{ys:List V}{ks:List Str}{vs:List Value},uO H ys ks->bJ ys vs->oo h vs ks
 |_,_,_,.nil,.nil=>.nil
 |_,_,_,.cons y t,.cons r q=>by
  obtain⟨a,rest,rfl,e⟩:=y;cases r;obtain⟨_,its,rv,o,e1,e2,n,e3⟩:=ok a _ e;cases rv with
  |cons r0 _=>
   obtain⟨tk,rfl⟩:=r0;exact .cons ⟨a,o,_,n,tk,rfl,e1,e2,e3,by simp⟩ (yE ok t q)
theorem wC{X:Cx}:eD X (.builtin "sorted") (rSort X.K):=by
 intro pins s σ H xs us Q I r h;obtain⟨p,ys,ks,rfl,hq,h64,nd,hk,q⟩:=h;obtain⟨u,rfl,rx⟩:=vals1 r;cases rx;obtain⟨its,r',pl,hz⟩:=I.list hq;have hl:ks.length=ys.length:=by
  rcases hk with rfl|hk
  ·simp
  ·exact ou hk
 have hlen:=r'.length;have hv:its.length=ks.length:=by omega
 refine zW (lt:=jC ks) (vs:=its) (by rw[hv];exact lY nd) pl.isList (by omega) (fun h2=>?_) ?_
 ·rcases hk with rfl|hk
  ·exact oj (yG r') h2
  ·exact A1 nd hv (yE I.hok hk r') h2
 ·obtain⟨c,hc⟩:=sortedAll_at s.heap its (iu (jC ks) its).toArray
  have hz2:(sortBy V.non ks ys).length<=sizeLine:=by
   unfold sortBy;rw[ag,uh ks nd];omega
  exact⟨.ref (s.heap.objs.size+1),_,I.laid (t':=s.toks) (fun b o e=>sortedAll_old e) (eE _) (show cJ X.prog X.w _ _ _ (.lst (sortBy .non ks ys))from⟨hz2,_,c,qo nd hl r',hc⟩),rfl,q _ (I.hok.fresh (eE _))⟩
set_option maxHeartbeats 3200000
noncomputable def has(acc:List Key)(k:Key):Bool:=acc.any fun x=>decide (x=k)
theorem kR{acc:List Key}{k:Key}:has acc k=true↔k∈acc:=by
 unfold has;rw[fj];constructor
 ·rintro⟨x,h,e⟩
  rw[<-of_decide_eq_true e];exact h
 ·exact fun h=>⟨k,h,decide_eq_true rfl⟩
noncomputable def more(acc:List Key)(k:Key):List Key:=if has acc k=true then acc else acc++[k]
noncomputable def met(ks:List Key):List Key:=ks.foldl more []
theorem DD(ks:List Key)(k:Key):met (ks++[k])=more (met ks) k:=by unfold met;rw[List.foldl_append];rfl
theorem vW{acc:List Key}{k j:Key}:j∈more acc k↔j∈acc\/j=k:=by
 unfold more;split
 ·rename_i h
  constructor
  ·exact .inl
  ·rintro(z|rfl)
   ·exact z
   ·exact kR.mp h
 ·simp
theorem vU(acc:List Key)(k:Key):(more acc k).length=if has acc k=true then acc.length else acc.length+1:=by
 unfold more;split <;>simp
theorem DG(ks:List Key):(met ks).length<=ks.length:=by
 unfold met;have g:∀(l acc:List Key),(l.foldl more acc).length<=acc.length+l.length:=by
  intro l
  induction l with
  |nil=>intro acc;simp
  |cons k l ih=>
   intro acc;have h1:=ih (more acc k);have h2:=vU acc k;rw[lh,bj];split at h2<;>omega
 simpa using g ks []
theorem uu{ks:List Key}{k:Key}:k∈met ks↔k∈ks:=by
 unfold met;have g:∀(l acc:List Key),k∈l.foldl more acc↔k∈acc\/k∈l:=by
  intro l
  induction l with
  |nil=>intro acc;simp
  |cons j l ih=>
   intro acc;rw[lh,ih,vW,aK,or_assoc]
 simpa using g ks []
noncomputable abbrev j4(led:Bool):Obj:={cls:=.type "set",dict:=none,data:=.set #[] 0 (.fresh 0 0 led)}
noncomputable def setO(a:Addr)(n:Nat):HO:=.ext fun h=>∃o es ep t,h.get? a=some o/\o.ExactSet/\o.data=.set es ep t/\es.size<eW/\t.fits es.size=true/\es.size=n
theorem zc:∀{ks:List Key}{us:List Value},bJ (ks.map kV) us->∀(i:Nat)(v:Value),us[i]? =some v->∃k,ks[i]? =some k/\RelV (kV k) v
 | [],_,.nil,i,v,e=>by simp at e
 |k::ks,_,.cons r t,0,v,e=>by
  simp at e;subst e;exact⟨k,rfl,r⟩
 |k::ks,_,.cons r t,i+1,v,e=>zc t i v (by simpa using e)
noncomputable def rSet(K:aa):List V->Hp->VK->Prop:=fun xs H Q=>∃p ks,xs=[V.ref p]/\SqL K H p (ks.map kV)/\ks.length<4000/\∀a,H a=none->Q (.ref a) (upd H a (setO a (met ks).length))
end Q
namespace L2
open PySem PySem.Spec PyProof.Rows
section
variable {X:Cx}
noncomputable def yN(K:aa):R2:=fun x y H Q=>∃a b ys,x=.ref a/\y=.ref b/\SqT K H a []/\SqT K H b ys/\Q (.ref b) H
theorem op_cat0:OpR X (cY .Add) (yN X.K):=by
 intro pins s σ H x y v u Q I rx ry h;obtain⟨a,b,ys,rfl,rfl,ha,hb,q⟩:=h;cases rx;cases ry;obtain⟨its,r1,p1,_⟩:=I.tuple ha;obtain⟨its2,r2,p2,_⟩:=I.tuple hb;cases r1;obtain⟨⟨cls,dd,data,sl⟩,ho,hc,n,hd⟩:=id p1;obtain⟨⟨cls2,dd2,data2,sl2⟩,ho2,hc2,n2,hd2⟩:=id p2;simp only at hc hd hc2 hd2;subst hc hd hc2 hd2;exact concat_meets ⟨_,ho,rfl⟩ ⟨_,ho2,rfl⟩ wW Ez kc jI (js _ _) (tuple_addW0 a b _ _ n n2 dd dd2 sl sl2 rfl) ⟨ho,ho2,.ref b,H,I,rfl,q⟩
theorem sU(a b:Array Nat):∀k:Nat,((aO k a).foldl (·++·) b).size=b.size+k*a.size
 | 0=>by simp
 |k+1=>by
  rw[dU,lh,sU a (b++a) k,Array.size_append,Nat.succ_mul];omega
noncomputable def CH:R2:=fun x y H Q=>∃(z:Str)(n:Int),x=.str z/\y=.int n/\2<=n/\n<=1000/\1<=z.length/\z.length<=1000/\Q (.str ⟨(aO n.toNat z.cps).foldl (·++·) #[]⟩) H
theorem op_repS:OpR X (cY .Mult) CH:=by
 intro pins s σ H x y v u Q I rx ry h;obtain⟨z,n,rfl,rfl,h1,h2,h3,h4,q⟩:=h;obtain⟨t,rfl⟩:=rx;obtain⟨t',rfl⟩:=ry;have c1:¬n<1:=by omega
 have c2:(n==1||z.length==0)=false:=by
  rw[Bool.or_eq_false_iff];exact⟨by simp;omega,by simp;omega⟩
 have hm:z.length*n.toNat<=1000*1000:=Nat.mul_le_mul h4 (by omega);have hn:((n.toNat:Nat):Int)=n:=by omega
 have hm2:(z.length:Int)*n<=1000*1000:=by
  rw[<-hn,<-Int.natCast_mul];exact Int.ofNat_le.mpr hm
 refine P.mul_str (by rw[decide_eq_false (by omega),decide_eq_false (by omega)];rfl) (fun _ _=>?_) (fun _ _=>?_) ?_
 ·exact Int.not_lt.mpr (Int.le_ediv_of_mul_le (by omega) (by omega))
 ·exact decide_eq_false (Nat.not_lt.mpr (aU hm (by decide)))
 ·rw[if_neg c1,if_neg (by rw[c2];exact bp)]
  refine⟨?_,.str _,H,I.tok _,⟨_,rfl⟩,q⟩;show((aO n.toNat z.cps).foldl (·++·) #[]).size<=_;rw[sU];exact aU (by rw[Nat.mul_comm];simpa[wX]using hm) (by decide:1000*1000<=sizeLine)
noncomputable def rJoin(K:aa):V->List V->Hp->VK->Prop:=fun x vs H Q=>∃(sep:Str)(p:Addr)(ys:List Str),x=.str sep/\vs=[.ref p]/\SqL K H p (ys.map V.str)/\sep.length<=16/\(ys.map (·.length)).sum+ys.length<=1048576/\Q (.str (Txt.join sep ys)) H
end
set_option maxHeartbeats 1000000
section
variable {X:Cx}
noncomputable def rIxD(K:aa):R2:=fun x y H Q=>∃a b kvs k v,x=.ref a/\y=.ref b/\H a=some (.dT kvs)/\SqT K H b (k.map kV)/\eL kvs k=some v/\Q v H
noncomputable def rSetdef:V->List V->Hp->VK->Prop:=fun x xs H Q=>∃a b kvs k v,x=.ref a/\xs=[.ref b,v]/\H a=some (.dT kvs)/\H b=some (.tup (k.map kV))/\kvs.length<sizeLine/\
 (∀z,eL kvs k=some z->Q z H)/\(eL kvs k=none->Q v (upd H a (.dT (putK kvs k v))))
end
section
variable {X:Cx}
noncomputable def isRef:V->Bool
 |.ref _=>true
 |_=>false
noncomputable def rInD(K:aa)(neg:Bool):R2:=fun x y H Q=>∃p xs ds d,y=.ref p/\SqL K H p xs/\xs.all isRef=true/\Rep K H d x/\fR K H ds xs/\gB ds<=30/\
 Q (.bl (if neg then !(ds.any fun d'=>eqD d' d)else ds.any fun d'=>eqD d' d)) H
open Classical in
open Classical in
end
section
variable {X:Cx}{e:Expr}{te:TE}{pos p2 p3 p4:Pos}{cd:Nat}
theorem Af(its:List Value):slicePick its.toArray none none (some (-1))=its.reverse.toArray:=by
 unfold slicePick;have b1:fF none none (some (-1)) its.toArray.size=((its.length:Int)-1,-1,-1):=by simp[fF]
 rw[b1];have b2:A7 ((its.length:Int)-1) (-1) (-1)=(aQ its.length).map fun k=>its.length-1-k:=by
  unfold A7;have hc:(if(-1:Int)>0 then(if(its.length:Int)-1< -1 then(-1-((its.length:Int)-1)+ -1-1)/ -1 else 0)else(if(its.length:Int)-1> -1 then((its.length:Int)-1- -1- -1-1)/(- -1)else 0))=(its.length:Int):=by
   rw[if_neg (by decide)];by_cases h:(its.length:Int)-1> -1
   ·rw[if_pos h,show(- -1:Int)=1 by decide,Int.ediv_one]
    omega
   ·rw[if_neg h]
    omega
  rw[hc];show List.map _ (aQ ((its.length:Int)).toNat)=_;rw[dh];refine dW fun k hk=>?_;have :=dX.mp hk;omega
 rw[b2];congr 1;rw[List.filterMap_map];apply List.ext_getElem?;intro k;have hs:∀j∈aQ its.length,((fun x=>its.toArray[x]?)∘fun k=>its.length-1-k) j=some (its.reverse.getD j .none):=fun j hj=>by
  have hj':=dX.mp hj;show its.toArray[its.length-1-j]? =_;rw[Bg,aJ,Bh hj',ai (by omega)];rfl
 have e2:(aQ its.length).filterMap ((fun x=>its.toArray[x]?)∘fun k=>its.length-1-k)=(aQ its.length).map fun j=>its.reverse.getD j .none:=by
  have key:∀l:List Nat,(∀j∈l,j∈aQ its.length)->l.filterMap ((fun x=>its.toArray[x]?)∘fun k=>its.length-1-k)=l.map fun j=>its.reverse.getD j .none:=by
   intro l
   induction l with
   |nil=>exact fun _=>rfl
   |cons j l ih=>
    intro h;rw[iL,hs j (h j (.head _)),ih fun x hx=>h x (.tail _ hx)];rfl
  exact key _ fun _ h=>h
 rw[e2,aZ];by_cases hk:k<its.length
 ·rw[EG hk,ai (by simpa using hk)]
  show some (its.reverse.getD k .none)=_;rw[aJ,ai (by simpa using hk)];rfl
 ·rw[lX (by simpa using hk),lX (by simpa using hk)]
  rfl
theorem Ai{j:Nat}:PE X (.UnaryOp .USub (.Constant (.int 1) j p3) p4) (tC (.int (-1))):=fun pins s σ H Q I h=>pe_un BD Dc pins s σ H Q I ⟨1,rfl,h⟩
noncomputable def tRev(K:aa)(te:TE):TE:=fun σ H Q=>te σ H fun x H1=>∃a xs,x=.ref a/\SqL K H1 a xs/\∀p,H1 p=none->Q (.ref p) (upd H1 p (.lst xs.reverse))
theorem pe_rev{st:Expr}(he:PE X e te)(hst:PE X st (tC (.int (-1)))):PE X (.Subscript e (.Slice none none (some st) p2) pos) (tRev X.K te):=by
 intro pins s σ H Q I h;refine Ba (thn (he pins s σ H _ I h) fun v s1 ⟨x,H1,I1,r1,q1⟩=>?_);refine wpAny_Slice ?_;rw[EA];refine aj (aj ?_);rw[evalPart_some];refine thn (hst pins s1 σ H1 (fun y H2=>y=.int (-1)/\H2=H1) I1 ⟨rfl,rfl⟩) fun u s2 ⟨y,H2,I2,r2,e1,e2⟩=>?_;subst e1 e2;obtain⟨tk,rfl⟩:=r2;obtain⟨a,xs,rfl,hx,q⟩:=q1;cases r1;have I4:Inv X pins σ H2 {s2 with heap:=s2.heap.push {cls:=.type "slice",data:=.fields #[bN,bN,.int (-1) tk]}}:=I2.kept (t':=s2.toks) fun b ob q=>ae _ q;obtain⟨its,r,ht,hz⟩:=I4.list hx;have hlen:=r.length;show wpAny (model X.prog X.w) X.A (rH e (.Slice none none (some st) p2) (.ref a) (.ref s2.heap.objs.size)) (EP X pins σ Q) X.xe {s2 with heap:=s2.heap.push {cls:=.type "slice",data:=.fields #[bN,bN,.int (-1) tk]}};refine tail_any (ops:=[.ref a,.ref s2.heap.objs.size]) ht.isList.typeIs uT.lookup (Ey ht.isList (tK ..) .none .none (.int (-1) tk) (by simp) ?_ (by rw[ay]<;>omega)) (by with_unfolding_all rfl);rw[Af];refine⟨.ref _,_,I4.laid (t':=s2.toks) (o:=.lst xs.reverse) (fun b ob q=>ae _ q) (ar _) ?_,rfl,q _ (I4.hok.fresh (ar _))⟩;exact⟨by rw[dk];exact hz,_,0,r.reverse,aC _ rfl⟩
end
end L2
namespace Q
open PySem PySem.Spec PySem.W PyProof.Rows L2
noncomputable def ltI(ns:List Int)(i j:Nat):Bool:=decide (ns.getD i 0<ns.getD j 0)
noncomputable def ordI(ns:List Int):List Nat:=if ns.length<2 then aQ ns.length else(run (ltI ns) (dj ns.length)).toList
noncomputable def sortI(ns:List Int):List V:=(ordI ns).map fun i=>(ns.map V.int).getD i .non
noncomputable def rSortI(K:aa):List V->Hp->VK->Prop:=fun xs H Q=>∃p ns,xs=[V.ref p]/\SqL K H p (ns.map V.int)/\ns.length<64/\ns.Nodup/\∀l,H l=none->Q (.ref l) (upd H l (.lst (sortI ns)))
end Q
namespace L2
open PySem PySem.Spec PyProof.Rows
section
variable {X:Cx}
noncomputable def nats(n:Nat):List V:=(aQ n).map fun i:Nat=>V.int (i:Int)
noncomputable def tLRng(ta:TA):TE:=fun σ H Q=>ta σ H fun vs H1=>∃n:Nat,vs=[.int n]/\n<=1000/\∀p,H1 p=none->Q (.ref p) (upd H1 p (.lst (nats n)))
end
section
variable {X:Cx}
noncomputable def leP(a b c d:Int):Bool:=decide (a<c\/a=c/\b<=d)
noncomputable def rLeP(K:aa):R2:=fun x y H Q=>∃p q a b c d,x=.ref p/\y=.ref q/\SqT K H p [.int a,.int b]/\SqT K H q [.int c,.int d]/\Q (.bl (leP a b c d)) H
noncomputable def rIndex:V->List V->Hp->VK->Prop:=fun x vs H Q=>∃(l:Addr)(ns:List Int)(k:Int),x=.ref l/\vs=[.int k]/\H l=some (.lst (ns.map V.int))/\k∈ns/\ns.length<=60/\Q (.int (ns.idxOf k:Nat)) H
end
end L2
namespace Q
open PySem PySem.Spec PySem.W PyProof.Rows L2
noncomputable def plt(x y:Int×Int):Bool:=decide (x.1<y.1\/x.1=y.1/\x.2<y.2)
noncomputable def ltP(ps:List (Int×Int))(i j:Nat):Bool:=plt (ps.getD i (0,0)) (ps.getD j (0,0))
noncomputable def ordP(ps:List (Int×Int)):List Nat:=if ps.length<2 then aQ ps.length else(run (ltP ps) (dj ps.length)).toList
noncomputable def sortP{α:Type}(d:α)(ps:List (Int×Int))(ys:List α):List α:=(ordP ps).map fun i=>ys.getD i d
noncomputable def Et(H:Hp)(ys:List V)(ps:List (Int×Int)):Prop:=Paired (fun v k=>∃a,v=V.ref a/\H a=some (.tup [.int k.1,.int k.2])) ys ps
noncomputable def rSortP(K:aa):List V->Hp->VK->Prop:=fun xs H Q=>∃p ys ps,xs=[V.ref p]/\SqL K H p ys/\ps.length<64/\ps.Nodup/\Et H ys ps/\∀l,H l=none->Q (.ref l) (upd H l (.lst (sortP .non ps ys)))
end Q
namespace D8
open PySem PySem.Spec PySem.W PyProof.Rows L2
noncomputable abbrev four:List (Int×Int):=[(0,0),(0,1),(1,0),(1,1)]
noncomputable def Prs(H:Hp)(as:List Addr)(ps:List (Int×Int)):Prop:=as.length=ps.length/\∀(i:Nat) a q,as[i]? =some a->ps[i]? =some q->H a=some (.tup [.int q.1,.int q.2])
noncomputable def rSetP(K:aa):List V->Hp->VK->Prop:=fun xs H Q=>∃p as ps,xs=[V.ref p]/\SqL K H p (as.map V.ref)/\Prs H as ps/\(∀q∈ps,q∈four)/\∀a (ks:List (Int×Int)),H a=none->ks.Nodup->(∀r,r∈ks↔r∈ps)->Q (.ref a) (upd H a (_root_.Q.setO a ks.length))
end D8
namespace L2
open PySem PySem.Spec PyProof.Rows
section
variable {X:Cx}
noncomputable def CDivB(_ j:Int):Prop:=0<j/\j.natAbs.log2<9000
noncomputable def rDivB:R2:=rI CDivB fun i j=>.int (i/j)
theorem op_divb:OpR X (cY .FloorDiv) rDivB:=opI fun i j _ _ _ _ _ hc q=>by
 have h1:(0:Int)<j:=hc.1;exact floordiv_int (by omega) (by rw[jt i (by omega)];exact q) (.inl (PyProof.noPylong_of_log2 hc.2))
noncomputable def rInsert:V->List V->Hp->VK->Prop:=fun x vs H Q=>∃l xs k y,x=.ref l/\vs=[.int k,y]/\H l=some (.lst xs)/\xs.length<sizeLine/\0<=k/\k<=xs.length/\Q .non (upd H l (.lst (xs.take k.toNat++y::xs.drop k.toNat)))
end
section
variable {X:Cx}
noncomputable def rSplit:V->List V->Hp->VK->Prop:=fun x vs H Q=>∃z y:Str,x=.str z/\vs=[.str y]/\(y.length==0)=false/\z.length+2<=sizeLine/\∀p,H p=none->Q (.ref p) (upd H p (.lst ((Txt.split z y).map V.str)))
end
noncomputable def Itz(K:aa)(a b:Addr):It:=
 ⟨fun i H=>∃xs ys x y,SqL K H a xs/\SqL K H b ys/\xs[i]? =some x/\ys[i]? =some y,
  fun i H v H'=>∃p x y,H p=none/\H'=upd H p (.tup [x,y])/\v=.ref p/\(∀xs,SqL K H a xs->xs[i]? =some x)/\∀ys,SqL K H b ys->ys[i]? =some y,
  fun i H=>∃xs ys,SqL K H a xs/\SqL K H b ys/\(xs.length<=i\/ys.length<=i)⟩
structure uR(z TI TO i1 i2:Addr):Prop where
 a1:TI≠z
 a2:TO≠z
 a3:i1≠z
 a4:i2≠z
 a5:TI≠TO
 a6:TI≠i1
 a7:TI≠i2
 a8:TO≠i1
 a9:TO≠i2
 a10:i1≠i2
structure ZipSt(z TI TO i1 i2 a b:Addr)(i:Nat)(h:Heap):Prop where
 hz:IsZip h z TI TO .none
 hTI:IsPair h TI (.ref i1) (.ref i2)
 hTO:∃u v,IsPair h TO u v
 h1:h.IsListIter i1 a i
 h2:h.IsListIter i2 b i
theorem iO{h:Heap}{a c:Addr}{its:Array Value}{o:Obj}(hl:h.IsList a its)(hc:h.get? c=some o)(hk:o.cls≠.type "list"):a≠c:=by
 obtain⟨o',e,k,_⟩:=hl;rintro rfl;rw[e]at hc;cases hc;exact hk k
theorem sf{h:Heap}{z TI TO i1 i2 a b:Addr}{i:Nat}{xs ys:Array Value}(D:uR z TI TO i1 i2)(st:ZipSt z TI TO i1 i2 a b i h)(h1:h.IsList a xs)(h2:h.IsList b ys):ZipApart z TI TO i1 i2 a b:=by
 obtain⟨hz,hTI,⟨u,v,hTO⟩,⟨o1,e1,c1,_⟩,⟨o2,e2,c2,_⟩⟩:=st;have nz:({cls:=.type "zip",dict:=none,data:=.fields #[.none,.bool false,.bool false,.ref TI,.ref TO],slots:= #[]}:Obj).cls≠.type "list":=by show dI "zip"≠dI "list";decide
 have nT:({cls:=.type "tuple",data:=.seq #[u,v]}:Obj).cls≠.type "list":=by show dI "tuple"≠dI "list";decide
 have n1:o1.cls≠.type "list":=by rw[c1];decide
 have n2:o2.cls≠.type "list":=by rw[c2];decide
 exact⟨D.a1,D.a2,D.a3,D.a4,D.a5,D.a6,D.a7,D.a8,D.a9,D.a10,iO h1 hz nz,iO h1 hTO nT,iO h1 e1 n1,iO h1 e2 n2,iO h2 hz nz,iO h2 hTO nT,iO h2 e1 n1,iO h2 e2 n2⟩
theorem Inv.turnedL{X:Cx}{pins:List (Addr×Obj)}{σ:St}{H:Hp}{s:Shared}{h':Heap}{ch:List Addr}(I:Inv X pins σ H s)(k:∀b o,b∉ch->s.heap.get? b=some o->h'.get? b=some o)(hf:∀b∈ch,mr X pins H b):Inv X pins σ H {s with heap:=h'}:=by
 have nit:∀b u,H b=some u->b∉ch:=fun b u e z=>by rw[(hf b z).1]at e;cases e
 refine I.step (g':=s.gens) (d':=s.drawn) (ch:=ch) (fun b hb=>?_) (fun b o _ _ hc e _=>k b o hc e) (fun b o _ _ hc e _=>⟨o.slots,k b o hc e⟩) (fun _ _ _ _ n=>n)
  (fun b o hc e=>⟨o,k b o hc e⟩) (fun _ _ e=>e) (fun _ _ _ e=>e) (fun b ps e=>⟨#[],by rw[e];simp⟩) (fun m hm=>?_) (fun b u e=>?_) I.bare
 ·obtain⟨f0,f1,f2,f3,f4,f5⟩:=hf b hb
  exact⟨f3,f1,f4,f5⟩
 ·obtain⟨o,es',ep,q,r⟩:=hm
  exact⟨o,es',ep,k _ o (fun hc=>(hf _ hc).2.1 rfl) q,r⟩
 ·refine(I.hok b u e).nP (fun d o hc' q'=>k d o (fun hd=>?_) q') (fun d q'=>q') fun d vs q'=>q'
  rcases hc' with zz|zz
  ·rw[zz]at hd
   exact nit b u e hd
  ·exact nit d _ zz hd
theorem BF{P:Program}{w:World}{K:aa}{es:List Expr}{kk:Nat}{pp:Pos}(a b z TI TO i1 i2:Addr)(D:uR z TI TO i1 i2):Turn P w K (.Tuple es kk pp) (Itz K a b) [z,TI,TO,i1,i2] z (fun i h=>ZipSt z TI TO i1 i2 a b i h) where
 mem:=by simp
 obj:=fun i h st c hc=>by
  obtain⟨hz,hTI,⟨u,v,hTO⟩,⟨o1,e1,c1,d1⟩,⟨o2,e2,c2,d2⟩⟩:=st;simp only[aK,bA,or_false]at hc;rcases hc with rfl|rfl|rfl|rfl|rfl
  ·exact⟨_,hz,fun v z=>by cases z⟩
  ·exact⟨_,hTI,fun v z=>by cases z⟩
  ·exact⟨_,hTO,fun v z=>by cases z⟩
  ·exact⟨o1,e1,fun v z=>by rw[d1]at z;cases z⟩
  ·exact⟨o2,e2,fun v z=>by rw[d2]at z;cases z⟩
 keep:=fun i h h' st k=>by
  obtain⟨hz,hTI,⟨u,v,hTO⟩,h1,h2⟩:=st;exact⟨k z (by simp) _ hz,k TI (by simp) _ hTI,⟨u,v,k TO (by simp) _ hTO⟩,h1.at fun o q=>k i1 (by simp) o q,h2.at fun o q=>k i2 (by simp) o q⟩
 item:=by
  intro X hP hw hK hc i pins s σ H E I hf st hg;subst hP hw hK;obtain⟨xs,ys,x,y,hq1,hq2,hx,hy⟩:=hg;obtain⟨its,rv,pl,hz0⟩:=I.list hq1;obtain⟨its2,rv2,pl2,hz2⟩:=I.list hq2;obtain⟨u,hu,ru⟩:=rv.get hx;obtain⟨u2,hu2,ru2⟩:=rv2.get hy;have ZA:=sf D st pl.isList pl2.isList;obtain⟨hz,hTI,⟨o1,o2,hTO⟩,h1,h2⟩:=st;refine wpAny_pyNext_zip_item ZA hz hTI hTO h1 h2 pl.isList pl2.isList (by simpa using hu) (by simpa using hu2) fun h' b1 b2 b3 b4 b5 b6 kp=>?_;have hp:H s.heap.objs.size=none:=I.hok.fresh (ar _);have nn:∀c∈[z,TI,TO,i1,i2],∀d v,H d=some v->d≠c:=fun c hc d v q zz=>by rw[zz,(hf c hc).1]at q;cases q
  have kp':∀c o,c∉[z,TO,i1,i2]->s.heap.get? c=some o->h'.get? c=some o:=fun c o hc q=>kp c o (fun e=>hc (by simp[e])) (fun e=>hc (by simp[e])) (fun e=>hc (by simp[e])) (fun e=>hc (by simp[e])) q;have sub4:∀c∈[z,TO,i1,i2],c∈[z,TI,TO,i1,i2]:=fun c hc=>by
   simp only[aK,bA,or_false]at hc⊢;rcases hc with h|h|h|h<;>simp[h]
  have I1:Inv X pins σ (upd H s.heap.objs.size (.tup [x,y])) {s with heap:=h'}:=by
   refine I.step (g':=s.gens) (d':=s.drawn) (ch:=[z,TO,i1,i2]) (fun c hc=>?_) (fun c o _ _ hc' q _=>kp' c o hc' q)
    (fun c o _ _ hc' q _=>⟨o.slots,kp' c o hc' q⟩) (fun c o _ q n=>by rw[aI (aE (ax q))];exact n)
    (fun c o hc' q=>⟨o,kp' c o hc' q⟩) (fun c vs q=>by rw[aI (bg q hp)];exact q) (fun c o v q=>by rw[aI (bg q hp)];exact q)
    (fun c ps q=>⟨#[],by rw[aI (bg q hp),q];simp⟩) (fun m hm=>?_) (fun c v q=>?_) I.bare
   ·obtain⟨f0,f1,f2,f3,f4,f5⟩:=hf c (sub4 c hc)
    exact⟨f3,f1,f4,f5⟩
   ·obtain⟨o,es',ep,q,r⟩:=hm
    refine⟨o,es',ep,kp' _ o (fun hc=>?_) q,r⟩;exact(hf _ (sub4 _ hc)).2.1 rfl
   ·by_cases hb:c=s.heap.objs.size
    ·subst hb
     rw[av]at q;cases q;exact⟨by show 2<=sizeLine;decide,[u,u2],.cons ru (.cons ru2 .nil),⟨_,b5,rfl,_,rfl⟩⟩
    ·rw[aI hb]at q
     refine(I.hok c v q).nP (fun d o hc' q'=>kp' d o (fun hd=>?_) q') (fun d q'=>by rw[aI (bg q' hp)];exact q') fun d vs q'=>by rw[aI (bg q' hp)];exact q'
     rcases hc' with zz|zz
     ·exact nn d (sub4 d hd) c v q zz.symm
     ·exact nn d (sub4 d hd) d _ zz rfl
  obtain⟨f0,f1,f2,f3,f4,f5⟩:=hf z (by simp);have fz:(upd H s.heap.objs.size (.tup [x,y])) z=none:=by rw[aI (aE (ax hz))];exact f0
  refine⟨_,rfl,wpAny_letOwnedTupleGo_zip (s:={s with heap:=h'}) b1 fun h'' hz'' hs''=>?_⟩;have I2:Inv X pins σ (upd H s.heap.objs.size (.tup [x,y])) {s with heap:=h''}:=I1.turned (t':=s.toks) (fun c o hb q=>hs''.extBut c o hb q) fz f1 f3 f4 f5;have hTI':IsPair h'' TI (.ref i1) (.ref i2):=hs''.extBut _ _ D.a1 (kp TI _ D.a1 D.a5 D.a6 D.a7 hTI);refine⟨.ref s.heap.objs.size,_,I2,rfl,⟨_,x,y,hp,rfl,rfl,fun vs hv=>by rw[I.mU hv hq1];exact hx,fun vs hv=>by rw[I.mU hv hq2];exact hy⟩,
   ⟨hz'',hTI',⟨_,_,hs''.extBut _ _ D.a2 b2⟩,b3.at fun o q=>hs''.extBut i1 o D.a3 q,b4.at fun o q=>hs''.extBut i2 o D.a4 q⟩,fun c hc=>?_⟩
  have hlt:c<s.heap.objs.size:=by
   simp only[aK,bA,or_false]at hc;rcases hc with rfl|rfl|rfl|rfl|rfl
   ·exact ax hz
   ·exact ax hTI
   ·exact ax hTO
   ·obtain⟨o,q,_⟩:=h1;exact ax q
   ·obtain⟨o,q,_⟩:=h2;exact ax q
  rw[aI (aE hlt)];exact(hf c hc).1
 done:=by
  intro X hP hw hK hc i pins s σ H E I hf st hg;subst hP hw hK;obtain⟨xs,ys,hq1,hq2,hx⟩:=hg;obtain⟨its,rv,pl,hz0⟩:=I.list hq1;obtain⟨its2,rv2,pl2,hz2⟩:=I.list hq2;have ZA:=sf D st pl.isList pl2.isList;obtain⟨hz,hTI,⟨o1,o2,hTO⟩,h1,h2⟩:=st;have l1:=rv.length;have l2:=rv2.length;refine wpAny_pyNext_zip_end (I.ok.hd hc) ZA hz hTI hTO h1 h2 pl.isList pl2.isList ?_ fun h' kp=>?_
  ·rcases hx with hx|hx
   ·exact .inl (by simp;omega)
   ·exact .inr (by simp;omega)
  ·exact⟨rfl,I.turnedL (ch:=[z,TO,i1,i2]) (fun c o hc' q=>kp c o (fun e=>hc' (by simp[e])) (fun e=>hc' (by simp[e])) (fun e=>hc' (by simp[e])) (fun e=>hc' (by simp[e])) q) fun c hc'=>hf c (by
    simp only[aK,bA,or_false]at hc'⊢;rcases hc' with h|h|h|h<;>simp[h])⟩
 self:=fun _ _ _ _ _ st h=>wpAny_pyIter_zip st.hz h
section
variable {X:Cx}{es:List Expr}{kk:Nat}{pp:Pos}
noncomputable def iZip(K:aa)(t:TA):TI:=fun σ H R=>t σ H fun vs H1=>∃a b,vs=[.ref a,.ref b]/\(∃xs,SqL K H1 a xs)/\(∃ys,SqL K H1 b ys)/\R (Itz K a b) H1
theorem apart_n(n:Nat):uR (n+4) (n+2) (n+3) n (n+1):=
 ⟨aE (by omega),aE (by omega),aE (by omega),aE (by omega),aE (by omega),cG (by omega),cG (by omega),cG (by omega),cG (by omega),aE (by omega)⟩
theorem boot_zip:dc "zip"=some (.type "zip"):=by decide+kernel
theorem pi_zip{l m:Expr}{t:TA}{p pos:Pos}(hg:Gl X "zip")(hm:X.mg "zip"=none)(ha:PA X [l,m] t)(hs:bC [l,m] X.env=(false,eval l X.env)::bC [m] X.env)(hpl:(backTo pos (bC [m] X.env)).any (·.1)=false):
  PI X (.Tuple es kk pp) (.Call (.Name "zip" p) [l,m] [] pos) (iZip X.K t):=by
 intro pins s σ H R I h;refine Call_ (iy I hg hm boot_zip (bT (thn (ha pos pins s σ H _ I h) fun us s1 ⟨vs,H1,I1,r1,q1⟩=>?_) hs hpl));obtain⟨a,b,rfl,⟨xs,hq1⟩,⟨ys,hq2⟩,q⟩:=q1;obtain⟨u,v,rfl,ru,rv⟩:=r1.two;cases ru;cases rv;obtain⟨its,r2,pl,hz⟩:=I1.list hq1;obtain⟨its2,r3,pl2,hz2⟩:=I1.list hq2;refine call_zip_2 pl.isList pl2.isList fun h' z1 z2 z3 z4 z5 z6 kp=>?_;refine wpAny_pyIter_zip (s:={s1 with heap:=h'}) z1 ?_;have I2:Inv X pins σ H1 {s1 with heap:=h',toks:=s1.toks}:=I1.kept kp;have D:uR (s1.heap.objs.size+4) (s1.heap.objs.size+2) (s1.heap.objs.size+3) s1.heap.objs.size (s1.heap.objs.size+1):=apart_n _;refine⟨_,_,_,_,H1,rfl,I2,BF a b _ _ _ _ _ D,⟨z1,z2,⟨_,_,z3⟩,z4,z5⟩,fun c hc=>?_,q⟩;have hbs:s1.heap.objs.size<=c:=by
  simp only[aK,bA,or_false]at hc;rcases hc with rfl|rfl|rfl|rfl|rfl
  ·exact fu _ _
  ·exact fu _ _
  ·exact fu _ _
  ·exact ar _
  ·exact fu _ _
 exact I1.pC hbs (I1.hok.fresh hbs)
end
noncomputable def DkIn(P:Program)(w:World)(K:aa)(a:Addr)(kvs:List (Key×V)):Prop:=
 (a==cL)=false/\∃vs,KV kvs vs/\∀h,K.In h->h.DictOf (bq P w) a vs
section
variable {X:Cx}{dic:Addr->Option (List (Key×V))}
noncomputable def rInG(dic:Addr->Option (List (Key×V))):R2:=fun x y H Q=>∃a kvs k,y=.ref a/\dic a=some kvs/\x=kV k/\Q (.bl (eL kvs k).isSome) H
noncomputable def rIxG(dic:Addr->Option (List (Key×V))):R2:=fun x y H Q=>∃a kvs k v,x=.ref a/\dic a=some kvs/\y=kV k/\eL kvs k=some v/\Q v H
end
noncomputable def fText(pre post:Str)(i:Int):Str:=Str.empty++pre++(toString i:Str)++post
noncomputable def tFst(pre post:Str)(t:TE):TE:=fun σ H Q=>(Str.empty++pre).length<=sizeLine/\t σ H fun x H1=>∃i,x=.int i/\i.natAbs.log2<1920/\(fText pre post i).length<=sizeLine/\Q (.str (fText pre post i)) H1
noncomputable def Itzt(K:aa)(a b:Addr):It:=
 ⟨fun i H=>∃xs ys x y,SqT K H a xs/\SqL K H b ys/\xs[i]? =some x/\ys[i]? =some y,
  fun i H v H'=>∃p x y,H p=none/\H'=upd H p (.tup [x,y])/\v=.ref p/\(∀xs,SqT K H a xs->xs[i]? =some x)/\∀ys,SqL K H b ys->ys[i]? =some y,
  fun i H=>∃xs,SqT K H a xs/\xs.length<=i⟩
section
variable {X:Cx}{es:List Expr}{kk:Nat}{pp:Pos}
noncomputable def iZipT(K:aa)(t:TA):TI:=fun σ H R=>t σ H fun vs H1=>∃a b,vs=[.ref a,.ref b]/\(∃xs,SqT K H1 a xs)/\(∃ys,SqL K H1 b ys)/\R (Itzt K a b) H1
end
end L2
namespace PySem
open Sem (wp)
local macro_rules | `(term| «the numeral») => return Lean.mkIdent (bU (bU (bU (Lean.Name.num (bU (bU (bU (bU (bU xk "_private") "PySem") "Builtin") "Int") "W0All") 0) "PySem") "Builtin") "readNumeral")
local macro_rules | `(term| «a value») => return Lean.mkIdent (bU (bU (bU (bU (Lean.Name.num (bU (bU (bU (bU (bU xk "_private") "PySem") "Builtin") "Int") "W0All") 0) "PySem") "Builtin") "Numeral") "value")
end PySem
namespace L2
open PySem PySem.Spec PyProof.Rows
inductive Fig:Str->Int->Prop
 |one {a:Nat} (h:a<10):Fig ⟨#[48+a]⟩ (a:Nat)
 |two {a b:Nat} (ha:a<10) (hb:b<10):Fig ⟨#[48+a,48+b]⟩ (10*a+b:Nat)
section
variable {X:Cx}{dic:Addr->Option (List (Key×V))}
noncomputable def upS(z:Str):Str:=⟨placed z fun _ c=>Unicode.upperOf c⟩
noncomputable def rUpper:V->List V->Hp->VK->Prop:=fun x vs H Q=>∃z:Str,x=.str z/\vs=[]/\(upS z).length<=100/\Q (.str (upS z)) H
noncomputable def rNiG(dic:Addr->Option (List (Key×V))):R2:=fun x y H Q=>∃a kvs k,y=.ref a/\dic a=some kvs/\x=kV k/\Q (.bl (!(eL kvs k).isSome)) H
end
end L2
namespace Q
open PySem PySem.Spec PySem.W PyProof.Rows L2
noncomputable def llt:List Int->List Int->Bool
 | [],[]=>false
 | [],_::_=>true
 |_::_,[]=>false
 |a::x,b::y=>decide (a<b)||(decide (a=b)&&llt x y)
noncomputable def ltL(ps:List (List Int))(i j:Nat):Bool:=llt (ps.getD i []) (ps.getD j [])
noncomputable def ordL(ps:List (List Int)):List Nat:=if ps.length<2 then aQ ps.length else(run (ltL ps) (dj ps.length)).toList
noncomputable def Ce{α:Type}(d:α)(ps:List (List Int))(ys:List α):List α:=(ordL ps).map fun i=>ys.getD i d
noncomputable def IntKeys(H:Hp)(ys:List V)(ps:List (List Int)):Prop:=Paired (fun v k=>∃a,v=V.ref a/\H a=some (.tup (k.map V.int))) ys ps
noncomputable def rSortL(K:aa):List V->Hp->VK->Prop:=fun xs H Q=>∃p ys ps m,xs=[V.ref p]/\SqL K H p ys/\ps.length<64/\ps.Nodup/\(∀k∈ps,k.length=m)/\IntKeys H ys ps/\∀l,H l=none->Q (.ref l) (upd H l (.lst (Ce .non ps ys)))
noncomputable def rMinL(K:aa):List V->Hp->VK->Prop:=fun xs H Q=>∃(p q:Addr)(a b:List Int),xs=[V.ref p,V.ref q]/\SqT K H p (a.map V.int)/\SqT K H q (b.map V.int)/\a.length=b.length/\Q (if llt b a=true then .ref q else .ref p) H
noncomputable def rMaxL(K:aa):List V->Hp->VK->Prop:=fun xs H Q=>∃(p q:Addr)(a b:List Int),xs=[V.ref p,V.ref q]/\SqT K H p (a.map V.int)/\SqT K H q (b.map V.int)/\a.length=b.length/\Q (if llt a b=true then .ref q else .ref p) H
noncomputable def cat2(k:List Int×List Int):List Int:=k.1++k.2
noncomputable def Es(H:Hp)(ys:List V)(ps:List (List Int×List Int)):Prop:=Paired (fun v k=>∃a x y rest,v=V.ref a/\H a=some (.tup (.ref x::.ref y::rest))/\H x=some (.tup (k.1.map V.int))/\H y=some (.tup (k.2.map V.int))) ys ps
noncomputable def rSortT(K:aa):List V->Hp->VK->Prop:=fun xs H Q=>∃(p:Addr)(ys:List V)(ps:List (List Int×List Int))(m:Nat),xs=[V.ref p]/\SqL K H p ys/\ps.length<64/\(ps.map cat2).Nodup/\(∀k∈ps,k.1.length=m/\k.2.length=m)/\Es H ys ps/\∀l,H l=none->Q (.ref l) (upd H l (.lst (Ce .non (ps.map cat2) ys)))
end Q
namespace L2
open PySem PySem.Spec PyProof.Rows
noncomputable def Itet(K:aa)(a:Addr):It:=
 ⟨fun i H=>∃xs x,SqT K H a xs/\xs[i]? =some x,fun i H v H'=>∃p x,H p=none/\H'=upd H p (.tup [.int i,x])/\v=.ref p/\∀xs,SqT K H a xs->xs[i]? =some x,fun i H=>∃xs,SqT K H a xs/\xs.length<=i⟩
section
variable {X:Cx}{es:List Expr}{kk:Nat}{pp:Pos}
noncomputable def iEnumT(K:aa)(t:TA):TI:=fun σ H R=>t σ H fun vs H1=>∃a,vs=[.ref a]/\(∃xs,SqT K H1 a xs)/\R (Itet K a) H1
end
end L2
namespace L2
open PySem PySem.Spec PySem.W PyProof.Rows
noncomputable def exO(e C:Addr)(d:Option Addr):HO:=.ext fun h=>∃x0,h.get? e=some {cls:=.ref C,dict:=d,data:=.fields #[.ref x0,.none,.none,.none,.bool false,.none]}
noncomputable def xdO(d:Addr)(fs:List (Str×V)):HO:=.ext fun h=>∃mA,h.Ns1 d mA/\(∀f,k7 (fs.lookup f) (mA f))/\yz mA (fs.map (·.1))
noncomputable def DY(K:aa)(C f:Addr)(bmB:List Value)(newId:String):Bool:=match K.lookup C with
 |some ⟨.type "type",_,.cls cd,sl⟩=>(match cd.mro,sl.toList with
  |.ref C'::bm,[_,_,_,_,some (.builtin n),_]=>C'==C&&n==newId&& !cd.hasDel&&tailIn K bmB bm&&nsOkIn K cd.ns&&nsIn K cd.ns "__init__"==some (some (.ref f))
  |_,_=>false)
 |_=>false
structure MkX(K:aa)(C f:Addr):Prop where
 ex:DY K C f bmV "ValueError.__new__"=true
 fn:∃o,K.lookup f=some o/\o.cls=.type "function"
 kp:keepIn K (.ref C)=true
end L2
namespace L2
open PySem PySem.Spec PySem.W PyProof.Rows PySem.Builtin PySem.Builtin.ObjectAttr
noncomputable def overX:List Value->Bool
 |.ref _::r=>overX r
 |l=>l==bmV
section
variable {prog:Program}{w:World}{K:aa}{A:Around}{E:Value->Shared->Prop}{s:Shared}{e C:Addr}{name:Str}{v:Value}{vs:Array Value}{Q:Unit->Shared->Prop}
structure StX(K:aa)(C:Addr)(name:Str):Prop where
 hs:findIn K (.ref C) "__setattr__"=some (some (.builtin "object.__setattr__"))
 hp:(clsIn K C).any (fun cd=>overX cd.mro)=true
 ht:takerIn K C name=some none
 hd:(clsIn K C).any (·.hasDict)=true
noncomputable abbrev exObj(C:Addr)(d:Option Addr)(vs:Array Value):Obj:={cls:=.ref C,dict:=d,data:=.fields vs}
end
end L2
namespace L2
open PySem PySem.Spec PySem.W PyProof.Rows
noncomputable def sFldX(K:aa)(ta tv:TE)(f:Str):TS:=fun D σ H=>tv σ H fun y H1=>ta σ H1 fun x H2=>∃a C,x=.ref a/\StX K C f/\
 ((H2 a=some (exO a C none)/\∀dd,H2 dd=none->D.nx σ (upd (upd H2 dd (xdO dd [(f,y)])) a (exO a C (some dd))))\/
  ∃dd fs,H2 a=some (exO a C (some dd))/\H2 dd=some (xdO dd fs)/\fs.length<1000/\D.nx σ (upd H2 dd (xdO dd (putF f y fs))))
structure BsX(K:aa)(B:Addr):Prop where
 ga:specialIn K (.ref B) "__getattribute__"=some (some (.builtin "type.__getattribute__"))
 rd:readsIn K B (.type "type")=true
 fd:findCls K (.ref B) (.type "type") "__init__"=some (.val (.builtin "ValueError.__init__"))
noncomputable def tBase(K:aa)(B:Addr)(t:TA):TE:=fun σ H Q=>BsX K B/\t σ H fun vs H1=>∃a C f us,vs=.ref a::us/\H1 a=some (exO a C none)/\us.length<=sizeLine/\DY K C f bmV "ValueError.__new__"=true/\Q .non H1
noncomputable def del(H:Hp)(a:Addr):Hp:=fun b=>if b=a then none else H b
section
variable {X:Cx}{pins:List (Addr×Obj)}{σ:St}{H:Hp}{s:Shared}
structure NewX(X:Cx)(pins:List (Addr×Obj))(H:Hp)(s:Shared)(a C:Addr)(d:Option Addr):Prop where
 at_:∃x0,s.heap.get? a=some (exObj C d #[.ref x0,.none,.none,.none,.bool false,.none])
 new:X.s₀.heap.get? a=none
 un:H a=none
 pins:∀p∈X.pn++pins,p.1≠a
theorem Au{M:Model}{E:Value->Shared->Prop}{Q:Unit->Shared->Prop}{a C:Addr}{d:Option Addr}(I:Inv X pins σ H s)(stk:X.stack=X.env::X.outer)(hf:X.env.frame=some X.env.locals)(n:NewX X pins H s a C d)
  (h:∀s2,Inv X pins σ H s2->Fly X.s₀.heap s2.heap H (X.pn++pins) a (.ref C) d->Q () s2):
  wpAny M X.A (jW (.ref a) X.env) (fun _ s'=>wpAny M X.A (wV (.ref a) none) Q E s') E s:=by
 obtain⟨x0,ht⟩:=n.at_;unfold jW;simp only[hf];refine af (w6 (x:=.none) ht rfl (by rfl) ?_);rw[if_neg (show ¬(bN != bN)=true by simp)];exact enter I stk hf ht rfl (by simp) n.new n.un n.pins h
noncomputable def Ew(X:Cx)(E:XS):Prop:=∀(pins:List (Addr×Obj))(σ:St)(H:Hp)(s:Shared)(a C:Addr)(d:Option Addr),Inv X pins σ H s->NewX X pins H s a C d->E σ (.ref C) d H->X.xe (.ref a) s
theorem yq{P:Program}{w:World}{K:aa}{mg:Str->Option Value}{base:Heap}{N:List Str}{qual:Str}{scope:Scope}{f:Addr}{cd:Value}{A:Around}{outer:List Env}{s:Shared}{H:Hp}{E:XK}:
  Ew (uE (CXx P w) P w K mg base N qual scope f cd A outer s H E) (fun _=>E):=by
 intro pins σ H1 s1 a C d I n q;show wpAny _ _ (leaving _ _) _ _ _;unfold leaving;refine af (Au I rfl rfl n fun s2 I2 F2=>?_);obtain⟨⟨T,oe,vs,oT,ts,h1,h2,h3,h4,h5,h6,h7,h8,h9,h10,h11,_⟩,b1,b2,_⟩:=F2;exact⟨a,.ref C,d,H1,rfl,I2.os,I2.bare,I2.base,I2.hok,⟨⟨T,oe,vs,oT,ts,h1,h2,h3,h4,h5,h6,h7,h8,h9,h10,h11,fun _ z=>nomatch z⟩,b1,b2,fun _ z=>nomatch z⟩,q⟩
noncomputable def sRaisX(C:Addr)(sp:Sp)(dvs:List V)(E:XS)(t:TA):TS:=fun _ σ H=>t σ H fun vs H1=>vs.length<=sizeLine/\∀a,H1 a=none->
 sp (.ref a::(vs++dvs)) (upd H1 a (exO a C none)) (fun v H2=>v=.non/\∃d,H2 a=some (exO a C d)/\E σ (.ref C) d (del H2 a)) (E σ)
end
noncomputable def fldOk(K:aa)(C:Addr)(f:Str):Bool:=
 excOk K C&&findIn K (.ref C) f==some none&&(match clsIn K C with |some cd=>cd.hasDict|none=>false)
noncomputable def rFld(K:aa)(f:Str):V->Hp->VK->Prop:=fun x H Q=>∃a C dd fs v,x=.ref a/\H a=some (DX a (.ref C) (some dd))/\H dd=some (xdO dd fs)/\fldOk K C f=true/\fs.lookup f=some v/\Q v H
noncomputable def tRepl(ta tb:TE)(i:Nat)(c d:Str)(tr:TA):TA:=fun σ H Q=>ta σ H fun x H1=>tb σ H1 fun y H2=>∃u v z:Str,x=.str u/\y=.str v/\(1<=u.length/\1<=v.length/\u.length+v.length<=sizeLine/\z.length<=1000)/\σ[i]? =some (some (.str z))/\
 tr σ H2 fun xs H3=>Q (.str (u++v)::.str (Txt.replace z c d)::xs) H3
section
variable {X:Cx}{a b:Expr}{es:List Expr}{ta tb:TE}{tr:TA}{i:Nat}{x c d:Str}{p1 np apos cpos p2 p3:Pos}{j1 j2:Nat}
noncomputable def tMkf(K:aa)(C:Addr)(sp:Sp)(dvs:List V)(E:XS)(fl:Str)(t:TA):TE:=fun σ H Q=>t σ H fun vs H1=>vs.length<=sizeLine/\∀a,H1 a=none->
 sp (.ref a::(vs++dvs)) (upd H1 a (exO a C none)) (fun v H2=>v=.non/\∃b dd fs w,V.ref a=.ref b/\H2 b=some (exO b C (some dd))/\H2 dd=some (xdO dd fs)/\fldOk K C fl=true/\fs.lookup fl=some w/\Q w H2) (E σ)
end
noncomputable def rSlW(K:aa):V->Option Int->Option Int->Hp->VK->Prop:=fun x lo hi H Q=>∃a xs,x=.ref a/\SqT K H a xs/\HT.sIx xs.length 0 lo=0/\HT.sIx xs.length xs.length hi=xs.length/\Q (.ref a) H
noncomputable def tMakeS(C:Addr)(sp:Sp)(dvs:List V)(E:XS)(t:TA):TE:=fun σ H Q=>tMake C sp dvs (E σ) t σ H Q
noncomputable def tMethS(C:Addr)(m:Str)(sp:Sp)(dvs:List V)(E:XS)(ta:TE)(t:TA):TE:=fun σ H Q=>tMeth C m sp dvs (E σ) ta t σ H Q
end L2
namespace L2
open PySem PySem.Spec PyProof.Rows
section
variable {X:Cx}{pins:List (Addr×Obj)}{σ:St}{H N:Hp}{s:Shared}{h':Heap}
noncomputable def tLZip(K:aa)(t:TA):TE:=fun σ H Q=>t σ H fun vs H1=>∃a b xs ys,vs=[.ref a,.ref b]/\SqL K H1 a xs/\SqL K H1 b ys/\xs.length<=1000/\∀H' p ws,aX H1 H'->H1 p=none->H' p=some (.lst ws)->ws.length=min xs.length ys.length->
 (∀(j:Nat)(x y:V),xs[j]? =some x->ys[j]? =some y->∃q,ws[j]? =some (.ref q)/\H1 q=none/\H' q=some (.tup [x,y]))->Q (.ref p) H'
end
end L2
namespace Q
open PySem
noncomputable def k6(xs:Array Nat):Prop:=xs.toList.Pairwise (·<·)
structure Parts(xs:Array Nat)(j p:Nat):Prop where
 le:p<=xs.size
 lo:∀i x,i<p->xs[i]? =some x->x<j
 hi:∀i x,p<=i->xs[i]? =some x->j<=x
theorem pQ{xs:Array Nat}(h:k6 xs){i k x y:Nat}(hik:i<k)(hx:xs[i]? =some x)(hy:xs[k]? =some y):x<y:=by
 have hx':xs.toList[i]? =some x:=by simpa using hx
 have hy':xs.toList[k]? =some y:=by simpa using hy
 obtain⟨h1,e1⟩:=bE.mp hx';obtain⟨h2,e2⟩:=bE.mp hy';have :=wZ.mp h i k h1 h2 hik;rw[e1,e2]at this;exact this
theorem qL{xs:Array Nat}(h:k6 xs)(j:Nat):∀(fuel lo hi:Nat),hi-lo<=fuel->lo<=hi->hi<=xs.size->(∀i x,i<lo->xs[i]? =some x->x<j)->(∀i x,hi<=i->xs[i]? =some x->j<=x)->Parts xs j (uX xs j fuel lo hi)
 | 0,lo,hi,hf,hl,hs,a,b=>by
  have e:lo=hi:=by omega
  subst e;exact⟨hs,a,b⟩
 |fuel+1,lo,hi,hf,hl,hs,a,b=>by
  unfold uX;by_cases c:lo<hi
  ·rw[if_pos c]
   have hm:(lo+hi)/2<xs.size:=by omega
   have em:xs[(lo+hi)/2]? =some xs[(lo+hi)/2]:=by simp[hm]
   have eg:xs.getD ((lo+hi)/2) j=xs[(lo+hi)/2]:=by simp[EI,hm]
   simp only[eg];by_cases d:xs[(lo+hi)/2]<j
   ·rw[if_pos d]
    refine qL h j fuel _ hi (by omega) (by omega) hs (fun i x hi' e=>?_) b;by_cases k:i=(lo+hi)/2
    ·subst k
     rw[em]at e;cases e;exact d
    ·exact fq (pQ h (by omega) e em) d
   ·rw[if_neg d]
    refine qL h j fuel lo _ (by omega) (by omega) (by omega) a fun i x hi' e=>?_;by_cases k:i=(lo+hi)/2
    ·subst k
     rw[em]at e;cases e;omega
    ·have :=pQ h (by omega:(lo+hi)/2<i) em e
     omega
  ·rw[if_neg c]
   have e:lo=hi:=by omega
   subst e;exact⟨hs,a,b⟩
theorem iT{xs:Array Nat}(h:k6 xs)(j:Nat):Parts xs j (b8 xs j):=
 qL h j xs.size 0 xs.size (by omega) (aM _) (ar _) (fun i x hi _=>absurd hi (iJ _)) fun i x hi e=>by
  have :=(cO.mp e).1
  omega
theorem v8{α:Type}(xs:Array α)(p:Nat)(x:α):(nK xs p x).toList=xs.toList.take p++x::xs.toList.drop p:=by
 unfold nK;simp;exact eF (by simp)
theorem vA{xs:Array Nat}{j:Nat}(h:k6 xs)(hj:∀i:Nat,xs[i]? ≠some j):k6 (nK xs (b8 xs j) j):=by
 have P:=iT h j;unfold k6;rw[v8];have sub:=h;unfold k6 at sub;rw[eX];refine⟨sub.sublist (p8 _ _),List.pairwise_cons.mpr ⟨fun y hy=>?_,sub.sublist (List.drop_sublist _ _)⟩,fun x hx y hy=>?_⟩
 ·obtain⟨i,hi⟩:=lW.mp hy
  rw[eG]at hi;have e:xs[b8 xs j+i]? =some y:=by simpa using hi
  have :=P.hi _ _ (fu _ _) e
  have ne:y≠j:=fun z=>hj _ (z▸e);omega
 ·obtain⟨i,hi⟩:=lW.mp hx
  have hip:i<b8 xs j:=by
   have :=(bE.mp hi).1
   rw[bb]at this;omega
  rw[xj hip]at hi;have e:xs[i]? =some x:=by simpa using hi
  have lx:=P.lo _ _ hip e;rcases aK.mp hy with rfl|hy
  ·exact lx
  ·obtain⟨k,hk⟩:=lW.mp hy
   rw[eG]at hk;have e2:xs[b8 xs j+k]? =some y:=by simpa using hk
   have :=P.hi _ _ (fu _ _) e2
   omega
theorem yt{xs:Array Nat}(h:k6 xs){i x:Nat}(e:xs[i]? =some x):b8 xs (x+1)=i+1:=by
 have P:=iT h (x+1);have hi:=(cO.mp e).1;apply uZ
 ·apply ft
  intro c;have hs:i+1<xs.size:=bf c P.le;have e2:xs[i+1]? =some xs[i+1]:=by simp[hs]
  have a:=P.lo _ _ c e2;have b:=pQ h (dy i) e e2;omega
 ·apply ft
  intro c;have :=P.hi i x (by omega) e;omega
theorem yr{xs:Array Nat}(h:k6 xs):b8 xs 0=0:=by
 have P:=iT h 0;apply uZ _ (aM _);apply ft;intro c;have hs:0<xs.size:=bf c P.le;have :=P.lo 0 xs[0] c (by simp[hs]);omega
theorem AZ{xs:Array Nat}(h:k6 xs){i x:Nat}(e:xs[i]? =some x):b8 xs x=i:=by
 have P:=iT h x;apply uZ
 ·apply ft
  intro c;exact dt _ (P.lo i x c e)
 ·apply ft
  intro c;have hs:b8 xs x<xs.size:=fq c (cO.mp e).1;have e2:xs[b8 xs x]? =some xs[b8 xs x]:=by simp[hs]
  have a:=P.hi _ _ (ar _) e2;have b:=pQ h c e2 e;omega
theorem xD(n:Nat):k6 (Array.range n):=by
 unfold k6;rw[Array.toList_range];exact zK
structure iE(t:bF):Prop where
 up:k6 t.place
 no:t.dummies= #[]
theorem slot_no{t:bF}(T:iE t)(j:Nat):t.slot j≠.dummy:=by
 unfold bF.slot;simp only[T.no];split
 ·simp
 ·split
  ·rename_i h
   exact absurd h (by simp[u4])
  ·simp
theorem zX{t:bF}(T:iE t){j:Nat}(h:t.slot j=.empty):∀i:Nat,t.place[i]? ≠some j:=fun i e=>by
 have :=AZ T.up e
 unfold bF.slot at h;simp only[this,e,beq_self_eq_true,if_true]at h;cases h
theorem r9(t:bF)(p:bF.Probe):(t.advance p).dummy=p.dummy:=by
 unfold bF.advance;split <;>rfl
theorem ql{t:bF}(T:iE t){f:Nat->Int}{h:Int}{j:Nat}{d:Option Nat}:∀(fuel:Nat)(p:bF.Probe),p.dummy=none->kW t f h fuel p=some (.empty j d)->t.slot j=.empty/\d=none
 | 0,p,_,e=>by simp[kW]at e
 |fuel+1,p,hp,e=>by
  unfold kW at e;cases hs:t.slot p.j with
  |empty=>
   rw[hs]at e;simp only[fG,bF.Met.empty.injEq]at e;exact⟨by rw[<-e.1];exact hs,by rw[<-e.2];exact hp⟩
  |dummy=>exact absurd hs (slot_no T _)
  |live i=>
   rw[hs]at e;simp only at e;split at e
   ·cases e
   ·exact ql T fuel _ (by rw[r9];exact hp) e
theorem rW{t:bF}(T:iE t){h:Int}{j:Nat}{b:Bool}(e:t.freeSlot h=some (j,b)):(∀i:Nat,t.place[i]? ≠some j)/\b=false:=by
 unfold bF.freeSlot at e;split at e
 ·rename_i j' d hm
  unfold bF.probe at hm;obtain⟨h1,h2⟩:=ql T _ _ (by rfl) hm;subst h2;simp only[p7,Option.isSome_none,fG,Prod.mk.injEq]at e;obtain⟨rfl,rfl⟩:=e;exact⟨zX T h1,rfl⟩
 ·cases e
theorem gT(t:bF)(n:Nat):iE (t.standIn n):=⟨xD n,rfl⟩
theorem CQ{t:bF}(T:iE t){j:Nat}(hj:∀i:Nat,t.place[i]? ≠some j):iE (t.put j).1:=by
 refine⟨vA T.up hj,?_⟩;show(if u4 t.dummies j=true then _ else t.dummies)= #[];rw[T.no];simp[u4]
theorem qp{t:bF}(T:iE t)(n:Nat):iE (t.orStandIn n):=by
 unfold zJ;split
 ·exact T
 ·exact gT t n
theorem v7{t:bF}(T:iE t)(es:Array (Int×Value))(h:Int)(x:Value):iE (layNew t es h x).2.1/\(layNew t es h x).2.2.1=false:=by
 unfold layNew;split
 ·rename_i j b e
  obtain⟨h1,h2⟩:=rW T e;subst h2;exact⟨qp (CQ T h1) _,rfl⟩
 ·exact⟨gT t _,rfl⟩
theorem sM{mask finger moves:Nat}{led plain:Bool}{hashes:Array Int}{t:bF}{order:Array Nat}(h:bF.laid mask finger moves led plain hashes=some (t,order)):iE t/\t.led=led/\t.plain=plain:=by
 unfold bF.laid at h;cases e:bF.layClean mask hashes with
 |none=>rw[e]at h;cases h
 |some owner=>
  rw[e]at h;have h':some (({mask,place:=(((aQ (mask+1)).filterMap fun j=>(owner.getD j none).map (j,·)).map (·.1)).toArray,dummies:= #[],finger,led,moves,plain}:bF),(((aQ (mask+1)).filterMap fun j=>(owner.getD j none).map (j,·)).map (·.2)).toArray)=some (t,order):=h;have h2:=(Prod.mk.inj (bh h')).1;subst h2;refine⟨⟨?_,rfl⟩,rfl,rfl⟩;show((((aQ (mask+1)).filterMap fun j=>(owner.getD j none).map (j,·)).map (·.1)).toArray).toList.Pairwise (·<·);rw[EE,gw,List.pairwise_filterMap];refine zK.imp fun{a b} hab x hx y hy=>?_;cases ha:owner.getD a none with
  |none=>rw[ha]at hx;cases hx
  |some u=>
   cases hb:owner.getD b none with
   |none=>rw[hb]at hy;cases hy
   |some v=>
    rw[ha]at hx;rw[hb]at hy;cases hx;cases hy;exact hab
theorem rP(t:bF)(es:Array (Int×Value))(wanted:Nat):iE (my t es wanted).2.1:=by
 unfold my;split
 ·rename_i t' order e
  simp only;split
  ·unfold EB at e
   exact(sM e).1
  ·exact gT t _
 ·exact gT t _
theorem put_led(t:bF)(j:Nat):(t.put j).1.led=t.led:=rfl
theorem rT(t:bF)(n:Nat):(t.orStandIn n).led=t.led:=by
 unfold zJ;split <;>rfl
theorem xV(t:bF)(es:Array (Int×Value))(h:Int)(x:Value):(layNew t es h x).2.1.led=t.led:=by
 unfold layNew;split
 ·exact(rT _ _).trans (put_led _ _)
 ·rfl
theorem t7(t:bF)(es:Array (Int×Value))(wanted:Nat):(my t es wanted).2.1.led=t.led:=by
 unfold my;split
 ·rename_i t' order e
  simp only;split
  ·unfold EB at e
   exact(sM e).2.1
  ·rfl
 ·rfl
section
variable {prog:Program}{w:World}{K:Type}[DecidableEq K]{knd:KeyKind prog w K}{A:Around}{E:Value->Shared->Prop}{s:Shared}
noncomputable def pE(knd:KeyKind prog w K)(h:Heap)(a:Addr)(S:K->Bool)(n:Nat)(led:Bool):Prop:=
 ∃o es ep t,h.get? a=some o/\o.ExactSet/\o.data=.set es ep t/\ElemsOf knd es.toList/\(∀k,S k=true↔∃e∈es.toList,knd.is k e.2=true)/\es.size<eW/\t.fits es.size=true/\es.size=n/\iE t/\t.led=led
theorem qh{h:Heap}{a:Addr}{o:Obj}{es:Array (Int×Value)}{ep:Nat}{t:bF}(ho:h.get? a=some o)(hx:o.ExactSet)(hd:o.data=.set es ep t){es':Array (Int×Value)}{t':bF}{S':K->Bool}(hl:ElemsOf knd es'.toList)(hm:∀k,S' k=true↔∃e∈es'.toList,knd.is k e.2=true)(hb:es'.size<eW)(hf:t'.fits es'.size=true)(ht:iE t'):
  pE knd (h.update a (Obj.putSet es' t')) a S' es'.size t'.led:=by
 have g:=(SetOf_store (knd:=knd) ho hx hd hl hm hb hf).1;exact⟨_,es',ep+1,t',g,hx,rfl,hl,hm,hb,hf,rfl,ht,rfl⟩
theorem wQ{g:Bool->Sem Unit}(hg:∀(b:Bool)(s₁:Shared)(Q':Unit->Shared->Prop),Q' () s₁->wpAny (model prog w) A (g b) Q' E s₁){a:Addr}{o:Obj}{es:Array (Int×Value)}{ep:Nat}{t:bF}(ho:s.heap.get? a=some o)(hx:o.ExactSet)(hd:o.data=.set es ep t)
  {es1:Array (Int×Value)}{t2:bF}{S':K->Bool}(hl:ElemsOf knd es1.toList)(hm:∀k',S' k'=true↔∃e∈es1.toList,knd.is k' e.2=true)(hb:es1.size<eW)(hf:t2.fits es1.size=true)(ht:iE t2){wasDummy:Bool}{R:Option Bool->Shared->Prop}
  (h:∀h',dH a s.heap h'->pE knd h' a S' es1.size t2.led->R (some true) {s with heap:=h'}):
  wpAny (model prog w) A (do
    storeSet a es1 t2
    if(!wasDummy&&t2.tooFull)=true then do
      g (my t2 es1 (dM es1.size)).2.2
      storeSet a (my t2 es1 (dM es1.size)).1 (my t2 es1 (dM es1.size)).2.1
      pure (some true)
     else pure (some true)) R E s:=by
 refine af (wpAny_storeSet_of ho hd ?_ (kU hb));have ho1:=(SetOf_store (knd:=knd) ho hx hd hl hm hb hf).1;have x1:=qh (knd:=knd) ho hx hd hl hm hb hf ht;have sb:=gG s.heap a (Obj.putSet es1 t2);split
 ·have hp:=relayAll_perm t2 es1 (dM es1.size)
  have hr:=relayAll_fits t2 es1 (dM es1.size);have hT:=rP t2 es1 (dM es1.size);have hL:=t7 t2 es1 (dM es1.size);generalize my t2 es1 (dM es1.size)=Rl at hp hr hT hL⊢;obtain⟨es2,t3,gave⟩:=Rl;dsimp only at hp hr hT hL⊢;have hz:es2.size=es1.size:=by rw[<-bR,hp.length_eq,bR]
  refine af (hg _ _ _ (af (wpAny_storeSet_of ho1 rfl ?_ (kU (by rw[hz];exact hb)))));have x2:=qh (knd:=knd) ho1 hx rfl (hl.perm hp) (fun k'=>(hm k').trans ⟨fun⟨e,he,q⟩=>⟨e,hp.mem_iff.mpr he,q⟩,fun⟨e,he,q⟩=>⟨e,hp.mem_iff.mp he,q⟩⟩) (by rw[hz];exact hb) hr hT;rw[hz,hL]at x2;exact aj (h _ (sb.trans (gG _ a _)) x2)
 ·exact aj (h _ sb x1)
theorem xH{t:bF}(T:iE t):iE {t with plain:=false}:=⟨T.up,T.no⟩
theorem addX{a:Addr}{S:K->Bool}{n:Nat}{led:Bool}{k:K}{x:Value}{Q:Bool->Shared->Prop}(hk:knd.is k x=true)(hsc:x.scannable=true)(hS:pE knd s.heap a S n led)(hroom:n+1<eW)
  (h:∀h',dH a s.heap h'->pE knd h' a (fun k'=>S k'||decide (k'=k)) (if S k then n else n+1) led->Q (!S k) {s with heap:=h'}):
  wpAny (model prog w) A (setAddHashed a x (knd.hash k)) Q E s:=by
 obtain⟨o,es,ep,t,ho,hx,hd,hl,hm,hb,hf,hn,ht,he⟩:=hS;have hb1:es.size+1<eW:=by rw[hn];exact hroom
 unfold setAddHashed setAddHashedIn;refine b7 (af (cT ho hd hf ?_));dsimp only;rw[byScan_of hsc hb hl];simp only[↓reduceIte];unfold setAddByScan;refine af ?_;refine af (nE (af (wpAny_setScan_of hk ho hd hf hl ?_)));cases hr:List.findIdx? (fun e=>knd.is k e.2) es.toList with
 |some j=>
  dsimp only;obtain⟨hj,hp,_⟩:=List.findIdx?_eq_some_iff_getElem.mp hr;have hSk:S k=true:=(hm k).mpr ⟨es.toList[j],du hj,hp⟩;refine aj (aj ?_);have :=h s.heap (dH.refl a s.heap) ⟨o,es,ep,t,ho,hx,hd,hl,fun k'=>by
   rw[di,decide_eq_true_eq,<-hm k'];exact⟨fun q=>q.elim id (fun e=>e▸hSk),.inl⟩,hb,hf,by rw[hSk];exact hn,ht,he⟩
  rw[hSk]at this;exact this
 |none=>
  dsimp only;have hSk:S k=false:=by
   cases q:S k with
   |false=>rfl
   |true=>
    obtain⟨e,m1,m2⟩:=(hm k).mp q;have :=List.findIdx?_eq_none_iff.mp hr e m1;rw[m2]at this;cases this
  have hw:∀(b:Bool){s₁:Shared}{Q':Unit->Shared->Prop},Q' () s₁->wpAny (model prog w) A (match b with |true=>rule "set.scan.the-table-gave-way" |false=>pure ()) Q' E s₁:=fun b s₁ Q' q=>by cases b<;>first |exact aj q|exact nE q
  have hp:=layNew_perm t es (knd.hash k) x;have hfit:=layNew_fits t es (knd.hash k) x;have hT:=(v7 ht es (knd.hash k) x).1;have hL:=xV t es (knd.hash k) x;generalize layNew t es (knd.hash k) x=L at hp hfit hT hL⊢;obtain⟨es1,t1,wd,gave⟩:=L;dsimp only at hp hfit hT hL⊢;rw[Array.toList_push]at hp;have l1:ElemsOf knd es1.toList:=(hl.push hk hsc).perm hp;have m1:∀k',(S k'||decide (k'=k))=true↔∃e∈es1.toList,knd.is k' e.2=true:=mem_push_iff hk hm hp;have z1:es1.size=n+1:=by rw[<-bR,hp.length_eq,aG,bR,hn];rfl
  have b1:es1.size<eW:=by rw[z1];exact hroom
  refine af (hw _ ?_);have fin:∀h',dH a s.heap h'->pE knd h' a (fun k'=>S k'||decide (k'=k)) es1.size led->Q true {s with heap:=h'}:=fun h' sb x=>by
   have :=h h' sb
   rw[hSk]at this;rw[z1]at x;exact this x
  split
  ·refine af ?_
   rw[hashByValue_scannable 8 hsc];refine aj (wQ ?_ ho hx hd l1 m1 b1 ?_ ?_ ?_)
   ·intro b s₁ Q' q;cases b<;>first |exact aj q|exact nE q
   ·split
    ·exact hfit
    ·exact bF.fits_plain_off hfit
   ·split
    ·exact hT
    ·exact xH hT
   ·intro h' sb x
    refine aj (fin h' sb ?_);split at x
    ·rw[hL,he]at x;exact x
    ·have e2:({t1 with plain:=false}:bF).led=led:=hL.trans he
     rw[e2]at x;exact x
  ·refine af (aj ?_)
   simp only[↓reduceIte];refine wQ ?_ ho hx hd l1 m1 b1 hfit hT ?_
   ·intro b s₁ Q' q;cases b<;>first |exact aj q|exact nE q
   ·intro h' sb x
    rw[hL,he]at x;exact aj (fin h' sb x)
end
end Q
set_option maxHeartbeats 3200000
namespace Q
open PySem PySem.Spec PySem.W PyProof.Rows L2
section
variable {prog:Program}{w:World}{A:Around}{R:Result->Shared->Prop}{I:Addr}{fp wr:List Addr}{G:Array Bi->Array Bi->Prop}{n:Nat}{P:Nat->Value->Prop}{St:Nat->Shared->Prop}
theorem sv{led:Bool}(W:WalksS prog w A.in1 I fp wr G n P St)(S:Addr)(hSf:S∉fp)(ks:List Key)(hn:ks.length=n)(hv:∀i v,P i v->∃k,ks[i]? =some k/\RelV (kV k) v)(hb:n+1<eW):
  ∀(m i:Nat)(s:Shared),n-i=m->i<=n->St i s->pE (bq prog w) s.heap S (has (met (ks.take i))) (met (ks.take i)).length led->
   (∀s',Moved (S::wr) G s s'->pE (bq prog w) s'.heap S (has (met ks)) (met ks).length led->R (.ok (.ret .none)) s')->
   jH (model prog w) A (.builtin "set.update.loop" ⟨[.ref S,.ref I],[]⟩) R s
 | 0,i,s,hm,hi,st,hS,hR=>by
  obtain rfl:i=n:=by omega
  rw[<-hn,bY]at hS;refine dQ jX ?_;rw[cX eJ _];show wpAny _ A.in1 (pyNext (.ref I)>>=_) _ _ s;refine af (W.done s _ _ st fun s' mv=>?_);obtain⟨o,es,ep,t,ho,rest⟩:=hS;exact aj (hR s' (mv.mono fun b hb=>aF _ hb) ⟨o,es,ep,t,mv.heap S _ (fun z=>hSf (W.sub _ z)) ho,rest⟩)
 |m+1,i,s,hm,hi,st,hS,hR=>by
  have hlt:i<n:=by omega
  refine dQ jX ?_;rw[cX eJ _];show wpAny _ A.in1 (pyNext (.ref I)>>=_) _ _ s;refine af (W.item i s _ _ hlt st fun v s' hP st' mv=>?_);obtain⟨k,hk,rv⟩:=hv i v hP;have hS1:pE (bq prog w) s'.heap S (has (met (ks.take i))) (met (ks.take i)).length led:=by
   obtain⟨o,es,ep,t,ho,rest⟩:=hS;exact⟨o,es,ep,t,mv.heap S _ (fun z=>hSf (W.sub _ z)) ho,rest⟩
  have hsc:v.scannable=true:=by
   cases k with
   |inl j=>obtain⟨t,rfl⟩:=rv;rfl
   |inr x=>obtain⟨t,rfl⟩:=rv;rfl
  show wpAny _ A.in1 (holding [v] (setAdd S v)>>=_) _ _ s';refine af (b7 ?_);unfold setAdd;refine b7 (af ((bq prog w).pyHash (k:=k) (jO rv) ?_));have hle:=DG (ks.take i);rw[bb]at hle;refine addX (knd:=bq prog w) (led:=led) (s:={s' with toks:=s'.toks+1}) (jO rv) hsc hS1 (by omega) fun h' hsb hS2=>?_;have et:ks.take (i+1)=ks.take i++[k]:=by rw[bM,hk];rfl
  have hS3:pE (bq prog w) h' S (has (met (ks.take (i+1)))) (met (ks.take (i+1))).length led:=by
   rw[et,DD];obtain⟨o,es,ep,t,ho,hex,hd,hel,hmem,hbb,hf,hnn,htt⟩:=hS2;refine⟨o,es,ep,t,ho,hex,hd,hel,fun j=>?_,hbb,hf,by rw[vU];exact hnn,htt⟩;rw[<-hmem j,kR,vW,di,kR,decide_eq_true_eq]
  refine aj ⟨gk eJ _,sv W S hSf ks hn hv hb m (i+1) _ (by omega) hlt (W.frame _ s' _ _ st' (eE _) fun b hq o e=>?_) hS3 fun s'' mv2 hS4=>?_⟩
  ·rw[hsb.2 b (fun z:b=S=>hSf (by rw[<-z];exact hq))]
   exact e
  ·refine hR s'' (Moved.trans W.gtrans ((mv.mono fun b hb=>aF _ hb).then_heap (eE _) fun b o hq e=>?_) mv2) hS4
   rw[hsb.2 b (fun z:b=S=>hq (by rw[z];exact au))];exact e
end
section
variable {prog:Program}{w:World}{A:Around}{E:Value->Shared->Prop}{s:Shared}
theorem AQ(a:Value){Q₁:Value->Shared->Prop}(h:Q₁ (.ref s.heap.objs.size) {s with heap:=s.heap.push (j4 (!w.params.followText "set-order"))}):jH (model prog w) A (.call (.builtin "set.__new__") ⟨[.type "set",a],[]⟩) (wants Q₁ E) s:=by
 refine codeAny_of_tree ?_;show wpAny _ A.in1 (do checkBuiltinCall "set.__new__" ⟨[.type "set",a],[]⟩;again (.builtin "set.__new__" ⟨[.type "set",a],[]⟩)) _ _ s;refine af (wpAny_of_eq (F.newCall_set_1 a) (aj ⟨gk F.plain_set_new _,dQ F.entry_set_new ?_⟩));rw[cX F.plain_set_new _];unfold Builtin.«set.__new__» Builtin.Frozenset.newClass;have hsub:=sub_set_self;obtain⟨hp,g,d,tk,os⟩:=s;dsimp only;wp_walk;refine cN (aj ?_);dsimp only;simp only[newObj];exact af (wpAny_alloc (aj (aj h)))
theorem z0{l:Addr}{items:Array Value}{P:Bool->Heap->Prop}{Q:Value->Shared->Prop}(hl:s.heap.IsList l items)
  (hloop:∀(led:Bool)(R:Result->Shared->Prop),(∀s',Moved (s.heap.objs.size::[(s.heap.push (j4 led)).objs.size]) (fun a b=>b=a) {s with heap:=(s.heap.push (j4 led)).push {cls:=.type "list_iterator",data:=.fields #[.ref l,.int 0 0]}} s'->P led s'.heap->R (.ok (.ret .none)) s')->jH (model prog w) A.in1.in1 (.builtin "set.update.loop" ⟨[.ref s.heap.objs.size,.ref (s.heap.push (j4 led)).objs.size],[]⟩) R {s with heap:=(s.heap.push (j4 led)).push {cls:=.type "list_iterator",data:=.fields #[.ref l,.int 0 0]}})
  (h:∀(h':Heap)(tk:Nat),P (!w.params.followText "set-order") h'->(∀b o,b<s.heap.objs.size->s.heap.get? b=some o->h'.get? b=some o)->Q (.ref s.heap.objs.size) {s with heap:=h',toks:=tk}):
  wpAny (model prog w) A (call (.type "set") [.ref l]) Q E s:=by
 have c0:=F.called_set;obtain⟨c,tl,hmro⟩:=c0.mro;have f1:=c0.made;have f2:=c0.sub;have f3:=c0.notType;have f4:=c0.canCreate;have f5:=F.typeCall_set_1 (.ref l);refine wpAny_call (codeAny_of_tree ?_);show wpAny _ _ (callAny (.type "set") _) _ _ _;refine aj ⟨Code.quiet_builtin _ (by decide+kernel),dQ F.entry_type_call ?_⟩;rw[Around.under_plain (weight_type_call_type "set" [.ref l] []) rfl];repeat(any_goals (first |assumption|wp_step))
 refine jG (AQ (.ref l) (E:=E) (Q₁:=fun obj s1=>∃led:Bool,led=(!w.params.followText "set-order")/\obj=.ref s.heap.objs.size/\s1={s with heap:=s.heap.push (j4 led)}) ⟨_,rfl,rfl,rfl⟩) fun r s1 hr=>?_;rcases r with e|fl
 ·exact hr
 rcases fl with _|_|_|obj
 ·exact hr.elim
 ·exact hr.elim
 ·exact hr.elim
 obtain⟨led,hled,rfl,rfl⟩:=hr;rw[<-hled]at h;have hS:(s.heap.push (j4 led)).get? s.heap.objs.size=some (j4 led):=aC _ rfl;have hT:Shared.TypeIs {s with heap:=s.heap.push (j4 led)} (.ref s.heap.objs.size) "set":=⟨_,hS,rfl⟩;have f6:=c0.init.lookup;have f7:=c0.init.bind (.ref s.heap.objs.size);repeat(any_goals (first |assumption|wp_step))
 refine jG (codeAny_call_builtin (R:=wants (fun r s2=>r=.none/\∃h' tk,s2={s with heap:=h',toks:=tk}/\P led h'/\
  (∀b o,b<s.heap.objs.size->s.heap.get? b=some o->h'.get? b=some o)) E) c0.init.plain F.entry_set_init (check_set_init_1 hT ?_)) fun r2 s2 hr2=>?_
 ·obtain⟨ol,hol,hcl,nl,hdl⟩:=hl
  obtain⟨oc,od,odt,osl⟩:=ol;obtain rfl:oc=.type "list":=hcl;obtain rfl:odt=.seq items nl:=hdl;have hol':(s.heap.push (j4 led)).get? l=some {cls:=.type "list",dict:=od,data:=.seq items nl,slots:=osl}:=ae _ hol;have g1:=F.sub_list_set;have g2:=F.sub_list_frozenset;have g3:(dI "list"==dI "dict")=false:=by decide
  have hl1:(s.heap.push (j4 led)).IsList l items:=⟨_,hol',rfl,nl,rfl⟩;unfold Builtin.«set.__init__» noKeywords Builtin.Frozenset.updateFrom;generalize hPI:pyIter=PI
  wp_walk
  subst hPI;refine gW hl1 (af (wpAny_runValue ?_));have hlt:l<s.heap.objs.size:=ax hol;have hz:(s.heap.push (j4 led)).objs.size=s.heap.objs.size+1:=cQ _ _;refine hloop led _ fun s' mv hS'=>?_
  ·obtain⟨h',g',d',tk',os'⟩:=s'
   obtain rfl:g'=s.gens:=mv.gens;obtain rfl:d'=s.drawn:=mv.drawn;obtain rfl:os'=s.os:=mv.os;show wpAny _ _ _ _ _ _;refine aj ?_;show wpAny _ _ (ret bN) _ _ _;refine aj ⟨rfl,h',tk',rfl,hS',fun b o hq e=>mv.heap b o (fun z=>?_) (ae _ (ae _ e))⟩;rcases aK.mp z with z|z
   ·exact aE hq z
   ·exact aE (bG hq) ((aq.mp z).trans hz)
 ·rcases r2 with e|fl2
  ·exact hr2
  rcases fl2 with _|_|_|v
  ·exact hr2.elim
  ·exact hr2.elim
  ·exact hr2.elim
  obtain⟨rfl,h',tk,rfl,hS',hk'⟩:=hr2;repeat(any_goals (first |assumption|wp_step))
  exact h _ _ hS' hk'
theorem zZ{l:Addr}{items:Array Value}{ks:List Key}{Q:Value->Shared->Prop}(hh:A.handled=none)(hl:s.heap.IsList l items)(hk:ks.length=items.size)
  (hv:∀(i:Nat)(v:Value),items[i]? =some v->∃k,ks[i]? =some k/\RelV (kV k) v)(hb:items.size+1<eW)
  (h:∀(h':Heap)(tk:Nat),pE (bq prog w) h' s.heap.objs.size (has (met ks)) (met ks).length (!w.params.followText "set-order")->(∀b o,b<s.heap.objs.size->s.heap.get? b=some o->h'.get? b=some o)->Q (.ref s.heap.objs.size) {s with heap:=h',toks:=tk}):
  wpAny (model prog w) A (call (.type "set") [.ref l]) Q E s:=by
 have hlt:l<s.heap.objs.size:=let⟨_,e,_⟩:=hl;ax e;refine z0 (P:=fun led h=>pE (bq prog w) h s.heap.objs.size (has (met ks)) (met ks).length led) hl (fun led R hR=>?_) h;have h3:A.in1.in1.in1.handled=none:=by simp[hh]
 have hz:(s.heap.push (j4 led)).objs.size=s.heap.objs.size+1:=cQ _ _;have hne:l≠(s.heap.push (j4 led)).objs.size:=by rw[hz];exact aE (bG hlt)
 have hnf:s.heap.objs.size∉[(s.heap.push (j4 led)).objs.size,l]:=by
  rw[hz];intro z;rcases aK.mp z with z|z
  ·exact aE (dy _) z
  ·exact cG hlt (aq.mp z)
 have hS:(s.heap.push (j4 led)).get? s.heap.objs.size=some (j4 led):=aC _ rfl;refine sv (led:=led) ((Walks.list h3 _ l hne items).toS) s.heap.objs.size hnf ks hk hv hb (items.size-0) 0 _ (by omega) (aM _) ⟨⟨_,aC _ rfl,rfl,rfl⟩,(hl.push _).push _⟩ ?_ hR;exact⟨j4 led,#[],0,_,ae _ hS,⟨rfl,rfl,rfl⟩,rfl,fun e he=>by simp at he,fun k=>by simp[met,has],by decide,by rfl,rfl,⟨lp,rfl⟩,rfl⟩
end
end Q
set_option maxHeartbeats 1000000
namespace Q
open PySem
theorem mh{α:Type}:∀{l:List α}{i:Nat}(h:i<l.length),(l[i]::l.eraseIdx i).Perm l
 |a::l,0,_=>fW _
 |a::l,i+1,h=>by
  have hi:i<l.length:=by simpa using h
  have ih:=mh hi;show(l[i]::a::l.eraseIdx i).Perm (a::l);exact(EH _ _ _).trans (ih.cons a)
theorem yU{α:Type}(next :Nat->Nat):∀(fuel k:Nat)(left:List α)(out:Array α),left.length<=fuel->(uU next fuel k left out).toList.Perm (out.toList++left)
 | 0,k,left,out,h=>by
  have e:left=[]:=dY.mp (by omega);subst e;simp[uU]
 |fuel+1,k,left,out,h=>by
  unfold uU;cases left with
  |nil=>simp
  |cons a l=>
   have hi:next k%(a::l).length<(a::l).length:=Nat.mod_lt _ (by simp)
   rw[ai hi];dsimp only;refine(yU next fuel (k+1) _ _ (by rw[vc hi];simp at h⊢;omega)).trans ?_;rw[Array.toList_push,df];exact List.Perm.append_left _ (mh hi)
theorem kO{α:Type}(next :Nat->Nat)(xs:Array α):(fS next xs).toList.Perm xs.toList:=by
 unfold fS;exact(yU next xs.size 0 xs.toList #[] (by simp)).trans (by simp)
section
variable {M:Model}{A:Around}{E:Value->Shared->Prop}
theorem rN{s:Shared}{src:Source}{n:Nat}{Q:Nat->Shared->Prop}(h:n≠0)(q:∀i d,i<n->Q i {s with drawn:=d}):wpAny M A (choose src n) Q E s:=fun Γ p hΓ=>by
 unfold choose;rw[Sem.wp_choose];exact⟨h,q _ _ (Nat.mod_lt _ (Nat.pos_of_ne_zero h))⟩
theorem sW{α:Type}:∀(n:Nat)(xs:List α)(s:Shared)(Q:List α->Shared->Prop),xs.length<=n->(∀ys d,ys.Perm xs->Q ys {s with drawn:=d})->wpAny M A (drawOrder n xs) Q E s
 | 0,xs,s,Q,h,q=>by
  have e:xs=[]:=dY.mp (by omega);subst e;unfold drawOrder;exact aj (q [] s.drawn (fW _))
 |n+1,[],s,Q,h,q=>by
  unfold drawOrder;exact aj (q [] s.drawn (fW _))
 |n+1,a::l,s,Q,h,q=>by
  unfold drawOrder;refine af (rN (by simp) fun i d hi=>?_);rw[ai hi];dsimp only;refine af (sW n _ _ _ (by rw[vc hi];simp at h⊢;omega) fun ys d' hy=>aj ?_);exact q _ d' ((hy.cons _).trans (mh hi))
end
end Q
set_option maxHeartbeats 3200000
namespace Q
open PySem PySem.Spec PySem.W PyProof.Rows L2
theorem dR:Slot "set_iterator" "__next__" "set_iterator.__next__":=
 .of (owner:="set_iterator") (n:="__next__") (by rw[gr,dE];kernel_rfl) (by decide+kernel) (by decide+kernel) (by decide+kernel) (by first |exact .inl (by decide+kernel) |exact .inr (by decide+kernel)) (by rw[gY];kernel_rfl)
theorem lE:entryFor table "set_iterator.__next__"=some Builtin.«set_iterator.__next__»:=entryFor_of_tree (by kernel_rfl)
theorem ny(a:Value):argsOk "set_iterator.__next__" ⟨[a],[]⟩:=by unfold argsOk;kernel_rfl
theorem pD:entryFor table "set.__iter__"=some Builtin.«frozenset.__iter__»:=entryFor_alias (id':="frozenset.__iter__") (by kernel_rfl) rfl (by decide+kernel) (by kernel_rfl)
noncomputable abbrev siO(S:Addr)(first :Value)(i n ep:Nat):Obj:={cls:=.type "set_iterator",dict:=none,data:=.fields #[first,.int i 0,.ref S,.int n 0,.int ep 0],slots:= #[]}
section
variable {prog:Program}{w:World}{A:Around}{E:Value->Shared->Prop}{s:Shared}
noncomputable def gm(es:Array (Int×Value))(t:bF):Bool:= !t.plain&&es.size>1
theorem mE{a:Addr}{o:Obj}{es:Array (Int×Value)}{ep:Nat}{t:bF}{Q:Bool->Shared->Prop}(ho:s.heap.get? a=some o)(hd:o.data=.set es ep t)(hf:t.fits es.size=true)(h:Q (!w.params.followText "set-order"&&gm es t) s):
  wpAny (model prog w) A (setDrawn a) Q E s:=by
 unfold setDrawn j8;refine af (cT ho hd hf ?_);dsimp only;refine af (af (cN (aj (aj ?_))));exact h
theorem DK{S:Addr}{o:Obj}{es:Array (Int×Value)}{ep:Nat}{t:bF}{Q:Value->Shared->Prop}(ho:s.heap.get? S=some o)(hc:o.cls=.type "set")(hd:o.data=.set es ep t)(hf:t.fits es.size=true)(hsb:es.size<eW)
  (h1:(!w.params.followText "set-order"&&gm es t)=false->Q (.ref s.heap.objs.size) {s with heap:=s.heap.push (siO S (.int 0 0) 0 es.size ep)})
  (h2:(!w.params.followText "set-order"&&gm es t)=true->∀(ps:List Nat)(d:Drawn),ps.Perm (aQ es.size)->Q (.ref (s.heap.objs.size+1)) {s with drawn:=d,heap:=(s.heap.push {cls:=.type "tuple",data:=.seq (ps.map fun(i:Nat)=>rawInt i).toArray}).push (siO S (.ref s.heap.objs.size) 0 es.size ep)}):
  wpAny (model prog w) A (pyIter (.ref S)) Q E s:=by
 have hT:s.TypeIs (.ref S) "set":=⟨o,ho,hc⟩;refine wpAny_pyIter_slot hT F.slot_set_iter (eI F.slot_set_iter hT pD ?_ (F.args_set_iter_1 _));unfold Builtin.«frozenset.__iter__» Builtin.Frozenset.slot0 Builtin.Frozenset.sizeOf
 wp_walk
 have hfc:(t.place.size != es.size||decide (t.fill>t.mask))=false:=by
  simp only[bF.fits,aP,beq_iff_eq,decide_eq_true_eq]at hf;simp[hf.1,Nat.not_lt.mpr hf.2]
 rw[hd];dsimp only;rw[if_neg (by rw[hfc];decide)];refine aj (aj (aj ?_));refine af (mE ho hd hf ?_);dsimp only;cases hb:(!w.params.followText "set-order"&&gm es t)with
 |false=>
  rw[if_neg (by decide)];refine af (aj (af (wpAny_setEpoch_of ho hd hf ?_)));refine af (cC (aj ⟨_,rfl,"set_iterator",_,⟨_,aC _ rfl,rfl⟩,dR.lookup,h1 hb⟩))
 |true=>
  rw[if_pos rfl];refine af (sW _ _ _ _ (by simp) fun ps d hp=>?_);refine af (cC ?_ (by show(ps.map fun(i:Nat)=>rawInt i).toArray.size<=sizeLine;rw[ay,ag,hp.length_eq,dG];exact kU hsb));have ho1:(s.heap.push {cls:=.type "tuple",data:=.seq (ps.map fun(i:Nat)=>rawInt i).toArray}).get? S=some o:=ae _ ho;refine af (wpAny_setEpoch_of (s:={s with drawn:=d,heap:=s.heap.push {cls:=.type "tuple",data:=.seq (ps.map fun(i:Nat)=>rawInt i).toArray}}) ho1 hd hf ?_);have hz:(s.heap.push {cls:=.type "tuple",data:=.seq (ps.map fun(i:Nat)=>rawInt i).toArray}).objs.size=s.heap.objs.size+1:=cQ ..;refine af (cC (aj ⟨_,rfl,"set_iterator",_,⟨_,aC _ rfl,rfl⟩,dR.lookup,?_⟩));have :=h2 hb ps d hp;rw[<-hz]at this;exact this
end
section
variable {prog:Program}{w:World}{A:Around}{E:Value->Shared->Prop}{s:Shared}
structure iU(h:Heap)(S:Addr)(es:Array (Int×Value))(ep:Nat)(t:bF):Prop where
 ob:∃o,h.get? S=some o/\o.cls=.type "set"/\o.data=.set es ep t
 fit:t.fits es.size=true
theorem hO{I S:Addr}{first :Value}{i ep:Nat}{es:Array (Int×Value)}{t:bF}{Q:fc->Shared->Prop}(hi:s.heap.get? I=some (siO S first i es.size ep))(hs:iU s.heap S es ep t)
  (h:wpAny (model prog w) A (match first with
   |.int slot _=>do
    match<-setNext S slot.toNat i ep with
    |some (x,next)=>do
     pI (.ref I) 0 (rawInt next)
     pI (.ref I) 1 (rawInt ((i:Int)+1))
     ret x
    |none=>do
     pI (.ref I) 2 .none
     A8 (<-newExc (.type "StopIteration") [])
   |_=>do
    let some places<-seqItems? first |unsupported "internal:set_iterator"
    match places[i]? with
    |some (.int place _)=>do
     let x<-setNextDrawn S place.toNat ep
     pI (.ref I) 1 (rawInt ((i:Int)+1))
     ret x
    |some _=>unsupported "internal:set_iterator"
    |none=>do
     pI (.ref I) 0 (rawInt 0)
     pI (.ref I) 2 .none
     A8 (<-newExc (.type "StopIteration") [])) Q E s):
  wpAny (model prog w) A (Builtin.«set_iterator.__next__» ⟨[.ref I],[]⟩) Q E s:=by
 obtain⟨⟨o,ho,hc,hd⟩,hf⟩:=hs;unfold Builtin.«set_iterator.__next__»;show wpAny _ _ (fieldsOf (.ref I)>>=_) _ _ _;refine af (wpAny_fieldsOf hi rfl ?_);dsimp only;refine af (wpAny_setEntries_of ho hd hf ?_);rw[if_neg (by simp)];exact h
theorem nextA{I S:Addr}{k i ep:Nat}{es:Array (Int×Value)}{t:bF}{x:Int×Value}{Q:fc->Shared->Prop}(hw:w.params.followText "set-order"=true)(hi:s.heap.get? I=some (siO S (.int k 0) i es.size ep))(hs:iU s.heap S es ep t)
  (hx:(fS (w.params.setOrder S ep) es)[i]? =some x)(h:∀h',h'.get? I=some (siO S (.int k 0) (i+1) es.size ep)->dH I s.heap h'->Q (.done (.ret x.2)) {s with heap:=h'}):
  wpAny (model prog w) A (Builtin.«set_iterator.__next__» ⟨[.ref I],[]⟩) Q E s:=by
 refine hO hi hs ?_;obtain⟨⟨o,ho,hc,hd⟩,hf⟩:=hs;dsimp only;refine af ?_;unfold setNext j8;refine af (cT ho hd hf ?_);dsimp only;refine af (af (cN (aj ?_)));dsimp only;rw[show(model prog w).w.params.followText "set-order"=true from hw];simp only[if_true,bne_self_eq_false,bO,if_false];refine af ?_;unfold setWalk j8;refine af (cT ho hd hf ?_);dsimp only;refine af (af (cN (aj ?_)));dsimp only;rw[show(model prog w).w.params.followText "set-order"=true from hw];simp only[if_true];refine af (cN (aj (aj ?_)));rw[show(fS ({program:=(model prog w).prog,params:=(model prog w).w.params:Setting}.params.setOrder S ep) es)[i]? =some x from hx];simp only[hX,dh];refine af (cK hi (by simp) fun h1 e1 s1=>?_);have e1:h1.get? I=some (siO S (.int k 0) i es.size ep):=e1;refine af (cK e1 (by simp) fun h2 e2 s2=>?_);have e2:h2.get? I=some (siO S (.int k 0) (i+1) es.size ep):=e2;exact aj (h h2 e2 (s1.trans s2))
theorem nextB{I S:Addr}{k i ep:Nat}{es:Array (Int×Value)}{t:bF}{x:Int×Value}{Q:fc->Shared->Prop}(hw:w.params.followText "set-order"=false)(hdr:gm es t=false)(hled:t.led=true)(hi:s.heap.get? I=some (siO S (.int k 0) i es.size ep))(hs:iU s.heap S es ep t)
  (hk:b8 t.place k=i)(hx:es[i]? =some x)(h:∀h' j,t.place[i]? =some j->h'.get? I=some (siO S (.int (j+1:Nat) 0) (i+1) es.size ep)->dH I s.heap h'->Q (.done (.ret x.2)) {s with heap:=h'}):
  wpAny (model prog w) A (Builtin.«set_iterator.__next__» ⟨[.ref I],[]⟩) Q E s:=by
 refine hO hi hs ?_;obtain⟨⟨o,ho,hc,hd⟩,hf⟩:=hs;dsimp only;refine af ?_;unfold setNext j8;refine af (cT ho hd hf ?_);dsimp only;refine af (af (cN (aj ?_)));dsimp only;rw[show(model prog w).w.params.followText "set-order"=false from hw];simp only[bO,if_false];have hsz:t.place.size=es.size:=by
  simp only[bF.fits,aP,beq_iff_eq]at hf;exact hf.1
 have hil:i<es.size:=(cO.mp hx).1;have hj:t.place[i]? =some (t.place[i]'(by omega)):=by simp[show i<t.place.size by omega]
 rw[if_neg (fun z=>by have z':gm es t=true:=z;rw[hdr]at z';cases z')];refine af (show wpAny _ _ (if(!t.led&& !es.isEmpty)=true then unsupported "set:maker-not-led" else pure ()) _ _ _ from ?_);rw[if_neg (by rw[hled];simp)];refine aj (aj ?_);simp only[dh,hk,hx,hj];refine af (cK hi (by simp) fun h1 e1 s1=>?_);have e1:h1.get? I=some (siO S (.int (t.place[i]'(by omega)+1:Nat) 0) i es.size ep):=e1;refine af (cK e1 (by simp) fun h2 e2 s2=>?_);have e2:h2.get? I=some (siO S (.int (t.place[i]'(by omega)+1:Nat) 0) (i+1) es.size ep):=e2;exact aj (h h2 _ hj e2 (s1.trans s2))
theorem nextC{I S T:Addr}{i ep p:Nat}{tk:Tok}{es:Array (Int×Value)}{t:bF}{ps:Array Value}{m:Nat}{oT:Obj}{x:Int×Value}{Q:fc->Shared->Prop}(hi:s.heap.get? I=some (siO S (.ref T) i es.size ep))(hs:iU s.heap S es ep t)
  (hT:s.heap.get? T=some oT)(hTd:oT.data=.seq ps m)(hp:ps[i]? =some (.int p tk))(hx:es[p]? =some x)(h:∀h',h'.get? I=some (siO S (.ref T) (i+1) es.size ep)->dH I s.heap h'->Q (.done (.ret x.2)) {s with heap:=h'}):
  wpAny (model prog w) A (Builtin.«set_iterator.__next__» ⟨[.ref I],[]⟩) Q E s:=by
 refine hO hi hs ?_;obtain⟨⟨o,ho,hc,hd⟩,hf⟩:=hs;dsimp only;refine af (A3 hT hTd ?_);simp only[hp,dh];refine af ?_;unfold setNextDrawn;refine af (cT ho hd hf ?_);simp only[bne_self_eq_false,bO,if_false,hx];refine aj ?_;refine af (cK hi (by simp) fun h2 e2 s2=>?_);have e2:h2.get? I=some (siO S (.ref T) (i+1) es.size ep):=e2;exact aj (h h2 e2 s2)
end
section
variable {prog:Program}{w:World}{A:Around}{E:Value->Shared->Prop}{s:Shared}
theorem l5{α:Type}{Q:α->Shared->Prop}(hh:A.handled=none)(h:∀h' e,(∀c o,s.heap.get? c=some o->h'.get? c=some o)->(∃o,h'.get? e=some o/\o.cls=.type "StopIteration")->E (.ref e) {s with heap:=h'}):
  wpAny (model prog w) A (newExc (.type "StopIteration") []>>=fun x=>A8 x) Q E s:=by
 refine af ?_;simp only[newExc,newTuple];refine af (cC ?_ (by size_fits));refine af (m:=pJ _ _) (wpAny_of_eq (a:=bN) (by first |rfl| (simp only[pJ];rfl)) ?_);refine cC ?_ (by size_fits);simp only[A8];refine af (wpAny_handled ?_);rw[hh];refine af (aj (wpAny_throw ?_));exact h _ _ (fun c o e=>ae _ (ae _ e)) ⟨_,aC _ rfl,rfl⟩
noncomputable def Ends(E:Value->Shared->Prop)(I:Addr)(s:Shared):Prop:=∀h' e,(∀c o,c≠I->s.heap.get? c=some o->h'.get? c=some o)->(∃o,h'.get? e=some o/\o.cls=.type "StopIteration")->E (.ref e) {s with heap:=h'}
theorem endA{I S:Addr}{k ep:Nat}{es:Array (Int×Value)}{t:bF}{Q:fc->Shared->Prop}(hh:A.handled=none)(hw:w.params.followText "set-order"=true)(hi:s.heap.get? I=some (siO S (.int k 0) es.size es.size ep))(hs:iU s.heap S es ep t)(h:Ends E I s):
  wpAny (model prog w) A (Builtin.«set_iterator.__next__» ⟨[.ref I],[]⟩) Q E s:=by
 have hx:(fS (w.params.setOrder S ep) es)[es.size]? =none:=by
  have :=(kO (w.params.setOrder S ep) es).length_eq
  simp at this⊢;omega
 refine hO hi hs ?_;obtain⟨⟨o,ho,hc,hd⟩,hf⟩:=hs;dsimp only;refine af ?_;unfold setNext j8;refine af (cT ho hd hf ?_);dsimp only;refine af (af (cN (aj ?_)));dsimp only;rw[show(model prog w).w.params.followText "set-order"=true from hw];simp only[if_true,bne_self_eq_false,bO,if_false];refine af ?_;unfold setWalk j8;refine af (cT ho hd hf ?_);dsimp only;refine af (af (cN (aj ?_)));dsimp only;rw[show(model prog w).w.params.followText "set-order"=true from hw];simp only[if_true];refine af (cN (aj (aj ?_)));rw[show(fS ({program:=(model prog w).prog,params:=(model prog w).w.params:Setting}.params.setOrder S ep) es)[es.size]? =none from hx];simp only[Option.map_none];refine af (cK hi (by simp) fun h1 e1 s1=>?_);exact l5 (s:={s with heap:=h1}) hh fun h' e kp he=>h h' e (fun c o c1 q=>kp c o (s1.extBut c o c1 q)) he
theorem endB{I S:Addr}{k ep:Nat}{es:Array (Int×Value)}{t:bF}{Q:fc->Shared->Prop}(hh:A.handled=none)(hw:w.params.followText "set-order"=false)(hdr:gm es t=false)(hled:t.led=true)(hi:s.heap.get? I=some (siO S (.int k 0) es.size es.size ep))(hs:iU s.heap S es ep t)
  (hk:b8 t.place k=es.size)(h:Ends E I s):wpAny (model prog w) A (Builtin.«set_iterator.__next__» ⟨[.ref I],[]⟩) Q E s:=by
 refine hO hi hs ?_;obtain⟨⟨o,ho,hc,hd⟩,hf⟩:=hs;dsimp only;refine af ?_;unfold setNext j8;refine af (cT ho hd hf ?_);dsimp only;refine af (af (cN (aj ?_)));dsimp only;rw[show(model prog w).w.params.followText "set-order"=false from hw];simp only[bO,if_false];rw[if_neg (fun z=>by have z':gm es t=true:=z;rw[hdr]at z';cases z')];refine af (show wpAny _ _ (if(!t.led&& !es.isEmpty)=true then unsupported "set:maker-not-led" else pure ()) _ _ _ from ?_);rw[if_neg (by rw[hled];simp)];refine aj (aj ?_);have hn:es[es.size]? =none:=by simp
 simp only[dh,hk,hn];refine af (cK hi (by simp) fun h1 e1 s1=>?_);exact l5 (s:={s with heap:=h1}) hh fun h' e kp he=>h h' e (fun c o c1 q=>kp c o (s1.extBut c o c1 q)) he
theorem endC{I S T:Addr}{ep:Nat}{es:Array (Int×Value)}{t:bF}{ps:Array Value}{m:Nat}{oT:Obj}{Q:fc->Shared->Prop}(hh:A.handled=none)(hi:s.heap.get? I=some (siO S (.ref T) es.size es.size ep))(hs:iU s.heap S es ep t)(hT:s.heap.get? T=some oT)(hTd:oT.data=.seq ps m)(hp:ps.size=es.size)(h:Ends E I s):
  wpAny (model prog w) A (Builtin.«set_iterator.__next__» ⟨[.ref I],[]⟩) Q E s:=by
 refine hO hi hs ?_;dsimp only;refine af (A3 hT hTd ?_);have hn:ps[es.size]? =none:=by simp;omega
 simp only[hn];refine af (cK hi (by simp) fun h1 e1 s1=>?_);have e1:h1.get? I=some (siO S (.int 0 0) es.size es.size ep):=e1;refine af (cK e1 (by simp) fun h2 e2 s2=>?_);exact l5 (s:={s with heap:=h2}) hh fun h' e kp he=>h h' e (fun c o c1 q=>kp c o (s2.extBut c o c1 (s1.extBut c o c1 q))) he
end
theorem mJ:Slot "set_iterator" "__iter__" "set_iterator.__iter__":=
 .of (owner:="set_iterator") (n:="__iter__") (by rw[gr,dE];kernel_rfl) (by decide+kernel) (by decide+kernel) (by decide+kernel) (by first |exact .inl (by decide+kernel) |exact .inr (by decide+kernel)) (by rw[gY];kernel_rfl)
theorem rX:entryFor table "set_iterator.__iter__"=some Builtin.«dict_keyiterator.__iter__»:=
 entryFor_alias (id':="dict_keyiterator.__iter__") (by kernel_rfl) (by first |rfl|decide+kernel) (by decide+kernel) (by kernel_rfl)
theorem uN(a:Value):argsOk "set_iterator.__iter__" ⟨[a],[]⟩:=by unfold argsOk;kernel_rfl
section
variable {prog:Program}{w:World}{A:Around}{E:Value->Shared->Prop}{s:Shared}
theorem tX{I:Addr}{Q:Option Value->Shared->Prop}(hT:s.TypeIs (.ref I) "set_iterator")(h:∀(Q':fc->Shared->Prop)(E':Value->Shared->Prop),(∀v h',Q (some v) {s with heap:=h'}->Q' (.done (.ret v)) {s with heap:=h'})->wpAny (model prog w) A.in1 (Builtin.«set_iterator.__next__» ⟨[.ref I],[]⟩) Q' E' s):
  wpAny (model prog w) A (pyNext (.ref I)) Q E s:=by
 unfold pyNext;exact af (wpAny_attempt (wpAny_callSpecial?_slot (name:=cF "__next__") hT dR (eI dR hT lE (h _ _ fun v h' q=>⟨_,rfl,aj q⟩) (ny _))))
theorem tY{I:Addr}{Q:Option Value->Shared->Prop}(hT:s.TypeIs (.ref I) "set_iterator")(h:∀(Q':fc->Shared->Prop)(E':Value->Shared->Prop),(∀h' e,(∀c o,c≠I->s.heap.get? c=some o->h'.get? c=some o)->(∃o,h'.get? e=some o/\o.cls=.type "StopIteration")->E' (.ref e) {s with heap:=h'})->wpAny (model prog w) A.in1 (Builtin.«set_iterator.__next__» ⟨[.ref I],[]⟩) Q' E' s)
  (q:∀h',(∀c o,c≠I->s.heap.get? c=some o->h'.get? c=some o)->Q none {s with heap:=h'}):wpAny (model prog w) A (pyNext (.ref I)) Q E s:=by
 unfold pyNext;refine af (wpAny_attempt (wpAny_callSpecial?_slot (name:=cF "__next__") hT dR (eI dR hT lE (h _ _ fun h' e kp he=>?_) (ny _))));obtain⟨o,e1,e2⟩:=he;exact af (wU (T:="StopIteration") (b:=true) ⟨o,e1,e2⟩ isSubtype_stop (aj (q _ kp)))
theorem tW{I:Addr}{Q:Value->Shared->Prop}(hT:s.TypeIs (.ref I) "set_iterator")(h:Q (.ref I) s):wpAny (model prog w) A (pyIter (.ref I)) Q E s:=by
 refine wpAny_pyIter_slot hT mJ (eI mJ hT rX ?_ (uN _));show wpAny _ _ (ret (.ref I)) _ _ s;exact aj ⟨_,rfl,"set_iterator",_,hT,dR.lookup,h⟩
end
theorem iU.at{h h':Heap}{S:Addr}{es:Array (Int×Value)}{ep:Nat}{t:bF}(x:iU h S es ep t)(k:∀o,h.get? S=some o->h'.get? S=some o):iU h' S es ep t:=let⟨⟨o,a,b,c⟩,f⟩:=x;⟨⟨o,k o a,b,c⟩,f⟩
variable {prog:Program}{w:World}{A:Around}
theorem walkA(hh:A.handled=none)(hw:w.params.followText "set-order"=true){I S:Addr}(ne:S≠I)(es:Array (Int×Value))(ep:Nat)(t:bF):
  Walks prog w A I [I,S] [I] es.size (fun i v=>((fS (w.params.setOrder S ep) es).toList.map (·.2))[i]? =some v) (fun i h=>iU h S es ep t/\∃k:Nat,h.get? I=some (siO S (.int k 0) i es.size ep)) where
 sub:=fun b hb=>by simp at hb⊢;exact .inl hb
 frame:=fun i h h' ⟨x,k,e⟩ kp=>⟨x.at fun o q=>kp S (by simp) o q,k,kp I (by simp) _ e⟩
 item:=fun i s Q E hi ⟨x,k,e⟩ hQ=>by
  have hl:=(kO (w.params.setOrder S ep) es).length_eq;simp only[bR]at hl;have hx:(fS (w.params.setOrder S ep) es)[i]? =some ((fS (w.params.setOrder S ep) es)[i]'(by omega)):=by simp[show i<(fS (w.params.setOrder S ep) es).size by omega]
  refine tX ⟨_,e,rfl⟩ fun Q' E' q=>nextA hw e x hx fun h' e' sb=>q _ h' ?_;exact hQ _ h' s.toks (by simp[hx]) ⟨x.at fun o z=>sb.extBut S o ne z,k,e'⟩ fun b o hb z=>sb.extBut b o (by simpa using hb) z
 done:=fun s Q E ⟨x,k,e⟩ hQ=>tY ⟨_,e,rfl⟩ (fun Q' E' q=>endA (by simp[hh]) hw e x q) fun h' kp=>hQ h' s.toks fun b o hb z=>kp b o (by simpa using hb) z
 self:=fun i s Q E ⟨x,k,e⟩ q=>tW ⟨_,e,rfl⟩ q
theorem walkB(hh:A.handled=none)(hw:w.params.followText "set-order"=false){I S:Addr}(ne:S≠I)(es:Array (Int×Value))(ep:Nat)(t:bF)(hd:gm es t=false)(hl:t.led=true)(hT:iE t):
  Walks prog w A I [I,S] [I] es.size (fun i v=>(es.toList.map (·.2))[i]? =some v) (fun i h=>iU h S es ep t/\∃k:Nat,b8 t.place k=i/\h.get? I=some (siO S (.int k 0) i es.size ep)) where
 sub:=fun b hb=>by simp at hb⊢;exact .inl hb
 frame:=fun i h h' ⟨x,k,hk,e⟩ kp=>⟨x.at fun o q=>kp S (by simp) o q,k,hk,kp I (by simp) _ e⟩
 item:=fun i s Q E hi ⟨x,k,hk,e⟩ hQ=>by
  have hx:es[i]? =some es[i]:=by simp[hi]
  refine tX ⟨_,e,rfl⟩ fun Q' E' q=>nextB hw hd hl e x hk hx fun h' j hj e' sb=>q _ h' ?_;exact hQ _ h' s.toks (by simp[hx]) ⟨x.at fun o z=>sb.extBut S o ne z,j+1,yt hT.up hj,e'⟩ fun b o hb z=>sb.extBut b o (by simpa using hb) z
 done:=fun s Q E ⟨x,k,hk,e⟩ hQ=>tY ⟨_,e,rfl⟩ (fun Q' E' q=>endB (by simp[hh]) hw hd hl e x hk q) fun h' kp=>hQ h' s.toks fun b o hb z=>kp b o (by simpa using hb) z
 self:=fun i s Q E ⟨x,k,hk,e⟩ q=>tW ⟨_,e,rfl⟩ q
theorem walkC(hh:A.handled=none){I S T:Addr}(ne:S≠I)(neT:T≠I)(es:Array (Int×Value))(ep:Nat)(t:bF)(ps:List Nat)(hp:ps.Perm (aQ es.size)):
  Walks prog w A I [I,S,T] [I] es.size (fun i v=>(ps.map fun p=>(es.getD p (0,.none)).2)[i]? =some v) (fun i h=>iU h S es ep t/\h.get? T=some {cls:=.type "tuple",data:=.seq (ps.map fun(i:Nat)=>rawInt i).toArray}/\h.get? I=some (siO S (.ref T) i es.size ep)) where
 sub:=fun b hb=>by simp at hb⊢;exact .inl hb
 frame:=fun i h h' ⟨x,z,e⟩ kp=>⟨x.at fun o q=>kp S (by simp) o q,kp T (by simp) _ z,kp I (by simp) _ e⟩
 item:=fun i s Q E hi ⟨x,z,e⟩ hQ=>by
  have hl:ps.length=es.size:=by rw[hp.length_eq,dG]
  have hil:i<ps.length:=by omega
  have hm:ps[i]<es.size:=dX.mp (hp.mem_iff.mp (du hil));have hx:es[ps[i]]? =some es[ps[i]]:=by simp[hm]
  refine tX ⟨_,e,rfl⟩ fun Q' E' q=>nextC (p:=ps[i]) (tk:=0) e x z rfl (by simp[hil,rawInt]) hx fun h' e' sb=>q _ h' ?_;exact hQ _ h' s.toks (by simp[hil,hm,EI]) ⟨x.at fun o y=>sb.extBut S o ne y,sb.extBut T _ neT z,e'⟩ fun b o hb y=>sb.extBut b o (by simpa using hb) y
 done:=fun s Q E ⟨x,z,e⟩ hQ=>tY ⟨_,e,rfl⟩ (fun Q' E' q=>endC (by simp[hh]) e x z rfl (by simp[hp.length_eq]) q) fun h' kp=>hQ h' s.toks fun b o hb y=>kp b o (by simpa using hb) y
 self:=fun i s Q E ⟨x,z,e⟩ q=>tW ⟨_,e,rfl⟩ q
end Q
namespace Q
open PySem PySem.Spec PySem.W PyProof.Rows L2
section
variable {prog:Program}{w:World}{A:Around}{E:Value->Shared->Prop}{s:Shared}
theorem ite_yes{α:Type}{M:Model}{b:Bool}{x y:Sem α}{Q:α->Shared->Prop}(hb:b=true)(h:wpAny M A x Q E s):wpAny M A (if b=true then x else y) Q E s:=by rw[if_pos hb];exact h
theorem v9{S:Addr}{Q:Bool->Shared->Prop}(hT:s.TypeIs (.ref S) "set")(h:Q false s):wpAny (model prog w) A (d9 (.ref S)) Q E s:=by
 unfold d9;refine af (nH hT F.slot_set_len.lookup ?_);generalize hid:("set.__len__":String)=id0
 (fail_if_success (clear hid id0))
 wp_delta
 rw[show splitId id0=some ("set","__len__")from by subst hid;decide+kernel];subst hid;refine af (wU (b:=true) hT (by rw[gY];kernel_rfl) ?_);rw[if_neg (by decide)];refine ite_yes (by decide+kernel) (af (nC hT ?_));exact aj h
noncomputable abbrev gN(acc:Array Value)(c:Nat):Obj:={cls:=.type "list",dict:=none,data:=.seq acc c,slots:= #[]}
theorem touch{L:Addr}{acc:Array Value}{c:Nat}{Q:Unit->Shared->Prop}(hL:s.heap.get? L=some (gN acc c))(hz:acc.size<=5000)(h:∀h' c',h'.get? L=some (gN acc c')->dH L s.heap h'->Q () {s with heap:=h'}):wpAny (model prog w) A (jg (.ref L)) Q E s:=by
 have hz1:acc.size<=sizeLine:=aU hz (by decide);unfold jg;refine af (k8 hL rfl ?_ hz1 (by simp;omega));have e1:∃c1,(s.heap.update L (bW fun x=>x.push bN)).get? L=some (gN (acc.push .none) c1):=⟨_,by rw[cU _ hL rfl];rfl⟩;obtain⟨c1,e1⟩:=e1;refine k8 (s:={s with heap:=s.heap.update L (bW fun x=>x.push bN)}) e1 rfl ?_ (by simp;exact aU (by omega:acc.size+1<=5001) (by decide)) (by simp;omega);have e2:∃c2,((s.heap.update L (bW fun x=>x.push bN)).update L (bW fun x=>x.pop)).get? L=some (gN acc c2):=⟨_,by rw[cU _ e1 rfl];simp[bW];rfl⟩;obtain⟨c2,e2⟩:=e2;exact h _ c2 e2 ((gG ..).trans (gG ..))
theorem qD{L I:Addr}{fp wr:List Addr}{n:Nat}{P:Nat->Value->Prop}{St:Nat->Heap->Prop}{res:Value}{c:Nat}{R:Result->Shared->Prop}{Qf:fc->Shared->Prop}(hq:∀c' s',c'.quiet=true/\jH (model prog w) A c' R s'->Qf (.again c') s')(W:Walks prog w A.in1 I fp wr n P St)(hn:n<=sizeLine)(hLf:L∉fp)(hL:s.heap.get? L=some (gN #[] c))(st:St 0 s.heap)
  (h:∀s' acc c',(∀b o,b∉L::wr->s.heap.get? b=some o->s'.heap.get? b=some o)->s'.gens=s.gens->s'.drawn=s.drawn->s'.os=s.os->s'.heap.get? L=some (gN acc c')->zM P acc n->R (.ok (.ret res)) s'):
  wpAny (model prog w) A.in1 (do
   rule "list.extend.makes-room"
   let __r<-jg (.ref L)
   (fun(__r:Unit)=>again (Code.builtin "list.extend.loop" {pos:=[bI L,bI I,res]})) __r) Qf E s:=by
 refine af (nE (af (touch hL (by simp) fun h1 c1 e1 sb=>?_)));have st1:=W.frame 0 s.heap h1 st fun b hb o e=>sb.extBut b o (fun z=>hLf (z▸hb)) e;refine aj (hq _ _ ⟨gk F.plain_extend_loop _,codeAny_extend_loopS W.toS hn _ hLf _ n 0 _ _ _ rfl (aM _) st1 e1 (zM.nil P) fun s' acc' c' hm hS' hacc=>?_⟩);exact h s' acc' c' (fun b o hb e=>hm.heap b o hb (sb.extBut b o (fun z=>hb (by rw[z];exact au)) e)) hm.gens hm.drawn hm.os hS' hacc
end
theorem x3{vs:List Value}{acc:Array Value}(h:zM (fun i v=>vs[i]? =some v) acc vs.length):acc.toList=vs:=by
 obtain⟨h1,h2⟩:=h;apply dv
 ·simpa using h1
 ·intro i a b
  have :vs[i]? =some acc[i]:=h2 i acc[i] (by simp);rw[ai b]at this;simpa using(bh this).symm
theorem es_map(es:Array (Int×Value)):((aQ es.size).map fun p=>(es.getD p (0,.none)).2)=es.toList.map (·.2):=by
 apply dv
 ·simp
 ·intro i a b
  have hi:i<es.size:=by simpa using a
  simp[hi,EI]
section
variable {prog:Program}{w:World}{A:Around}{E:Value->Shared->Prop}{s:Shared}
theorem wu{S:Addr}{o:Obj}{es:Array (Int×Value)}{ep:Nat}{t:bF}{Q:List Value->Shared->Prop}(hh:A.handled=none)(ho:s.heap.get? S=some o)(hc:o.cls=.type "set")(hd:o.data=.set es ep t)(hf:t.fits es.size=true)(hsb:es.size<eW)(hT:iE t)(hled:w.params.followText "set-order"=false->t.led=true)
  (hQ:∀(vs:List Value) s',vs.Perm (es.toList.map (·.2))->(∀b o,s.heap.get? b=some o->s'.heap.get? b=some o)->s'.gens=s.gens->s'.os=s.os->s.heap.objs.size<s'.heap.objs.size->Q vs s'):wpAny (model prog w) A (collect (.ref S)) Q E s:=by
 have hSl:S<s.heap.objs.size:=ax ho;have hn:es.size<=sizeLine:=kU hsb;unfold collect;refine af (wpAny_runValue (dQ F.entry_proto_collect ?_));rw[cX F.plain_proto_collect _];show wpAny _ A.in1 (newList []>>=fun l=>again (.builtin "list.__iadd__" ⟨[l,.ref S],[]⟩)) _ _ s;refine af (cC ?_);refine aj ⟨gk F.plain_list_iadd _,dQ F.entry_list_iadd ?_⟩;rw[cX F.plain_list_iadd _];have hL:(s.heap.push (gN #[] 0)).get? s.heap.objs.size=some (gN #[] 0):=aC _ rfl;have ho1:(s.heap.push (gN #[] 0)).get? S=some o:=ae _ ho;have hz:(s.heap.push (gN #[] 0)).objs.size=s.heap.objs.size+1:=cQ ..;have hT1:Shared.TypeIs {s with heap:=s.heap.push (gN #[] 0)} (.ref S) "set":=⟨o,ho1,hc⟩;show wpAny _ A.in1 (da (.ref s.heap.objs.size) (.ref S) (.ref s.heap.objs.size)) _ _ {s with heap:=s.heap.push (gN #[] 0)};unfold da;refine af (nC hT1 ?_);rw[if_neg (by simp[iC];exact cG hSl)];have fin:∀(vs:List Value)(s':Shared)(acc:Array Value)(c':Nat),vs.length=es.size->vs.Perm (es.toList.map (·.2))->(∀b o,s.heap.get? b=some o->s'.heap.get? b=some o)->s'.gens=s.gens->s'.os=s.os->s'.heap.get? s.heap.objs.size=some (gN acc c')->zM (fun i v=>vs[i]? =some v) acc es.size->
   wpAny (model prog w) A (load s.heap.objs.size>>=fun x=>match x.data with |.seq xs _=>pure xs.toList|_=>unsupported "internal:collect") Q E s':=fun vs s' acc c' hl hp k1 k2 k3 e it=>by
  refine af (wpAny_load e ?_);rw[<-hl]at it;have :=x3 it;exact aj (by rw[this];exact hQ vs s' hp k1 k2 k3 (ax e))
 refine af (DK ho1 hc hd hf hsb (fun hm=>?_) fun hm ps d hp=>?_)
 ·rw[hz]
  refine af (b7 (v9 ⟨o,ae _ ho1,hc⟩ ?_));refine ite_yes (by decide+kernel) ?_;have hI:((s.heap.push (gN #[] 0)).push (siO S (.int 0 0) 0 es.size ep)).get? (s.heap.objs.size+1)=some (siO S (.int 0 0) 0 es.size ep):=by rw[<-hz];exact aC _ rfl
  have hSA:iU ((s.heap.push (gN #[] 0)).push (siO S (.int 0 0) 0 es.size ep)) S es ep t:=⟨⟨o,ae _ ho1,hc,hd⟩,hf⟩;have nfp:s.heap.objs.size∉[s.heap.objs.size+1,S]:=by
   simp only[aK,bA,or_false,not_or];exact⟨aE (dy _),cG hSl⟩
  have kp:∀(s':Shared),(∀b o,b∉s.heap.objs.size::[s.heap.objs.size+1]->((s.heap.push (gN #[] 0)).push (siO S (.int 0 0) 0 es.size ep)).get? b=some o->s'.heap.get? b=some o)->∀b o,s.heap.get? b=some o->s'.heap.get? b=some o:=fun s' k b o e=>by
   have hb:=ax e;refine k b o ?_ (ae _ (ae _ e));simp only[aK,bA,or_false,not_or];exact⟨aE hb,aE (bG hb)⟩
  cases hw:w.params.followText "set-order" with
  |true=>
   have hl:((fS (w.params.setOrder S ep) es).toList.map (·.2)).length=es.size:=by
    have :=(kO (w.params.setOrder S ep) es).length_eq
    simpa using this
   refine qD (s:={s with heap:=(s.heap.push (gN #[] 0)).push (siO S (.int 0 0) 0 es.size ep)}) (fun c' s' h=>h) (walkA (A:=A.in1) (by simp[hh]) hw (aE (bG hSl)) es ep t) hn nfp (ae _ hL) ⟨hSA,0,hI⟩ fun s' acc c' k1 k2 k3 k4 e it=>?_;exact fin _ s' acc c' hl ((kO (w.params.setOrder S ep) es).map _) (kp s' k1) k2 k4 e it
  |false=>
   have hdr:gm es t=false:=by rw[hw]at hm;simpa using hm
   refine qD (s:={s with heap:=(s.heap.push (gN #[] 0)).push (siO S (.int 0 0) 0 es.size ep)}) (fun c' s' h=>h) (walkB (A:=A.in1) (by simp[hh]) hw (aE (bG hSl)) es ep t hdr (hled hw) hT) hn nfp (ae _ hL) ⟨hSA,0,yr hT.up,hI⟩ fun s' acc c' k1 k2 k3 k4 e it=>?_;exact fin _ s' acc c' (by simp) (fW _) (kp s' k1) k2 k4 e it
 ·rw[hz]
  have hz2:((s.heap.push (gN #[] 0)).push {cls:=.type "tuple",data:=.seq (ps.map fun(i:Nat)=>rawInt i).toArray}).objs.size=s.heap.objs.size+1+1:=by rw[cQ,hz]
  have hT2:((s.heap.push (gN #[] 0)).push {cls:=.type "tuple",data:=.seq (ps.map fun(i:Nat)=>rawInt i).toArray}).get? (s.heap.objs.size+1)=some {cls:=.type "tuple",data:=.seq (ps.map fun(i:Nat)=>rawInt i).toArray}:=by rw[<-hz];exact aC _ rfl
  have ho2:((s.heap.push (gN #[] 0)).push {cls:=.type "tuple",data:=.seq (ps.map fun(i:Nat)=>rawInt i).toArray}).get? S=some o:=ae _ ho1;have hL2:((s.heap.push (gN #[] 0)).push {cls:=.type "tuple",data:=.seq (ps.map fun(i:Nat)=>rawInt i).toArray}).get? s.heap.objs.size=some (gN #[] 0):=ae _ hL;have kp2:∀b o,s.heap.get? b=some o->((s.heap.push (gN #[] 0)).push {cls:=.type "tuple",data:=.seq (ps.map fun(i:Nat)=>rawInt i).toArray}).get? b=some o:=fun b o e=>ae _ (ae _ e);generalize(s.heap.push (gN #[] 0)).push {cls:=.type "tuple",data:=.seq (ps.map fun(i:Nat)=>rawInt i).toArray}=h2 at *;refine af (b7 (v9 ⟨o,ae _ ho2,hc⟩ ?_));refine ite_yes (by decide+kernel) ?_;have hI:(h2.push (siO S (.ref (s.heap.objs.size+1)) 0 es.size ep)).get? (s.heap.objs.size+1+1)=some (siO S (.ref (s.heap.objs.size+1)) 0 es.size ep):=by rw[<-hz2];exact aC _ rfl
  have nfp:s.heap.objs.size∉[s.heap.objs.size+1+1,S,s.heap.objs.size+1]:=by
   simp only[aK,bA,or_false,not_or];exact⟨aE (bG (dy _)),cG hSl,aE (dy _)⟩
  have hl:(ps.map fun p=>(es.getD p (0,.none)).2).length=es.size:=by rw[ag,hp.length_eq,dG]
  refine qD (s:={s with drawn:=d,heap:=h2.push (siO S (.ref (s.heap.objs.size+1)) 0 es.size ep)}) (fun c' s' h=>h) (walkC (A:=A.in1) (by simp[hh]) (aE (bG (bG hSl))) (aE (dy _)) es ep t ps hp) hn nfp (ae _ hL2)
   ⟨⟨⟨o,ae _ ho2,hc,hd⟩,hf⟩,ae _ hT2,hI⟩ fun s' acc c' k1 k2 k3 k4 e it=>?_
  refine fin _ s' acc c' hl ((hp.map _).trans (by rw[es_map])) (fun b o q=>?_) k2 k4 e it;have hb:=ax q;refine k1 b o ?_ (ae _ (kp2 b o q));simp only[aK,bA,or_false,not_or];exact⟨aE hb,aE (bG (bG hb))⟩
end
theorem DE(ks:List Key):(met ks).Nodup:=by
 unfold met;have g:∀(l acc:List Key),acc.Nodup->(l.foldl more acc).Nodup:=by
  intro l
  induction l with
  |nil=>exact fun _ h=>h
  |cons k l ih=>
   intro acc h;refine ih _ ?_;unfold more;split
   ·exact h
   ·rename_i c
    refine cf.mpr ⟨h,by simp,fun a ha b hb=>?_⟩;rw[aq]at hb;subst hb;intro z;subst z;exact c (kR.mpr ha)
 exact g ks [] cA
theorem nU{α:Type}[DecidableEq α]:∀{m l:List α},m.Nodup->(∀x∈m,x∈l)->l.length=m.length->l.Perm m
 | [],l,_,_,h=>by
  rw[fV]at h;rw[iq h]
 |a::m,l,nd,hs,h=>by
  have ha:a∈l:=hs a au;have p:=Bq ha;rw[cb]at nd;have hl:=p.length_eq;rw[bj]at hl h;have q:=nU (m:=m) (l:=l.erase a) nd.2 (fun x hx=>(Bs (fun z:x=a=>nd.1 (by rw[<-z];exact hx))).mpr (hs x (aF _ hx))) (by omega);exact p.trans (q.cons a)
end Q
namespace L2
open PySem PySem.Spec PyProof.Rows Q
section
variable {X:Cx}
theorem Inv.same{pins:List (Addr×Obj)}{σ:List (Option V)}{H:Hp}{s s':Shared}(I:Inv X pins σ H s)(h1:s'.heap=s.heap)(h2:s'.gens=s.gens)(h3:s'.os=s.os):Inv X pins σ H s':=by
 obtain⟨h,g,d,t,o⟩:=s;obtain⟨h',g',d',t',o'⟩:=s';obtain rfl:h'=h:=h1;obtain rfl:g'=g:=h2;obtain rfl:o'=o:=h3;exact⟨I.ok,I.os,I.bare,I.base,I.loc,I.cell,I.free,I.freeC,I.pin,I.hok,I.len⟩
noncomputable def tSortSet(K:aa)(ta:TA):TE:=fun σ H Q=>ta σ H fun vs H1=>∃(p:Addr)(ns:List Int),vs=[V.ref p]/\SqL K H1 p (ns.map V.int)/\ns.length<64/\
 ∀(ms:List Int) l,ms.Nodup->(∀x,x∈ms↔x∈ns)->H1 l=none->Q (.ref l) (upd H1 l (.lst (sortI ms)))
theorem uK:dc "sorted"=some (.builtin "sorted"):=by decide+kernel
theorem AW:dc "set"=some (.type "set"):=by decide+kernel
end
section
variable {X:Cx}
noncomputable def tSortSetL(K:aa)(ta:TA):TE:=fun σ H Q=>ta σ H fun vs H1=>∃(p:Addr)(ys:List V)(ps:List (List Int))(m:Nat),vs=[V.ref p]/\SqL K H1 p ys/\ps.length<=18/\(∀k∈ps,k.length=m)/\IntKeys H1 ys ps/\
 ∀(zs:List V)(qs:List (List Int)) l,qs.Nodup->(∀x,x∈qs↔x∈ps)->IntKeys H1 zs qs->H1 l=none->Q (.ref l) (upd H1 l (.lst (Ce .non qs zs)))
end
end L2
set_option maxHeartbeats 1000000
namespace L2
open PySem PySem.Spec PyProof.Rows
section
variable {X:Cx}{pos:Pos}
noncomputable def gLst(K:aa)(n:Nat)(t:TGs):TG:=fun v σ H Q=>∃a xs,v=.ref a/\SqL K H a xs/\xs.length=n/\t xs σ H Q
theorem pg_lst{es:List Expr}{k:Nat}{t:TGs}{n:Nat}(hc:X.calm=true)(h:PGs X es t)
  (hn:(dD es X.env).length=n:=by rfl) (hst:(dD es X.env).findIdx? (·.1)=none:=by rfl):PG X (.Tuple es k pos) (gLst X.K n t):=by
 intro pins s σ H v u Q I r hw;obtain⟨a,xs,e1,hq,hl,hw⟩:=hw;subst e1;cases r;obtain⟨its,rv,ht,hz⟩:=I.list hq;rw[assign_Tuple];refine af (iV ?_);unfold unpack;rw[show(dD es X.env).length=its.toArray.size by simp[hn,<-hl,rv.length],hst];refine af (b7 (PySem.W.kun_itemsOf (I.ok.hd hc) ht.isList fun h' hx=>?_));have I1:Inv X pins σ H {s with heap:=h'}:=I.kept (t':=s.toks) fun b o e=>hx b o (aE (ax e)) e;exact h pins _ σ H xs _ Q I1 (by simpa using rv) hw
end
end L2
set_option maxHeartbeats 3200000
namespace Q
open PySem PySem.Spec PySem.W PyProof.Rows L2
theorem nM:∀{vs:List Value}{ms:List Str},fT vs ms->bJ (ms.map V.str) vs
 |_,_,.nil=>.nil
 |_,_,.cons _ t h=>.cons ⟨t,rfl⟩ (nM h)
theorem zU{vs xs:List Value}(p:vs.Perm xs):∀{ks:List Str},fT xs ks->∃ms:List Str,ms.Perm ks/\fT vs ms:=by
 induction p with
 |nil=>intro ks h;exact⟨ks,fW _,h⟩
 |cons x p ih=>
  intro ks h;cases h with
  |cons k t h=>
   obtain⟨ms,a,b⟩:=ih h;exact⟨k::ms,a.cons k,.cons k t b⟩
 |swap x y l=>
  intro ks h;cases h with
  |cons k t h=>cases h with
   |cons k' t' h=>exact⟨k'::k::_,EH _ _ _,.cons k' t' (.cons k t h)⟩
 |trans p q ih1 ih2=>
  intro ks h;obtain⟨ms,a,b⟩:=ih2 h;obtain⟨ms',a',b'⟩:=ih1 b;exact⟨ms',a'.trans a,b'⟩
section
variable {prog:Program}{w:World}{A:Around}{E:Value->Shared->Prop}{s:Shared}
theorem vx{S:Addr}{o:Obj}{es:Array (Int×Value)}{ep:Nat}{t:bF}{ks:List Str}{Q:Value->Shared->Prop}(hh:A.handled=none)(ho:s.heap.get? S=some o)(hc:o.cls=.type "set")(hd:o.data=.set es ep t)(hf:t.fits es.size=true)(h64:es.size<64)(hT:iE t)(hled:w.params.followText "set-order"=false->t.led=true)
  (hk:fT (es.toList.map (·.2)) ks)(nd:ks.Nodup)
  (h:∀(ms:List Str)(vs:List Value)(s':Shared)(l:Addr)(c:Nat),ms.Perm ks->fT vs ms->(∀b o,s.heap.get? b=some o->s'.heap.get? b=some o)->s'.gens=s.gens->s'.os=s.os->s.heap.objs.size<=l->s'.heap.get? l=some (seqObj "list" (iu (jC ms) vs).toArray c)->Q (.ref l) s'):
  wpAny (model prog w) A (call (.builtin "sorted") [.ref S]) Q E s:=by
 refine ju kind_sorted plain_sorted entry_sorted (args_sorted1 _) ?_;unfold Builtin.«sorted»;refine af (m:=checkCount "sorted" 1 1 _) (aj (af (wu (by simp[hh]) ho hc hd hf (fq h64 (by decide)) hT hled fun vs s' hp kp k2 k3 k4=>af (rG ?_ ?_))))
 ·obtain⟨ms,m1,m2⟩:=zU hp hk
  have hl:vs.length=ms.length:=kg m2;have hv:vs.length<64:=by
   have :=hp.length_eq
   simp at this;omega
  have hg:(s'.heap.push (seqObj "list" vs.toArray 0)).get? s'.heap.objs.size=some (seqObj "list" vs.toArray 0):=aC _ rfl;have ndm:ms.Nodup:=m1.nodup_iff.mpr nd;show wpAny _ _ _ _ _ {s' with heap:=s'.heap.push (seqObj "list" vs.toArray 0)};refine af (b7 (eI A6 ⟨_,hg,rfl⟩ yy (tU (lt:=jC ms) (h0:=s'.heap) (by rw[hl];exact lY ndm) hg (fun b o e=>⟨ae _ e,aE (ax e)⟩) hv (fun h2=>oj m2 h2) ⟨_,rfl,?_⟩) (A9 _)));refine aj ⟨_,rfl,?_⟩;obtain⟨c,hc'⟩:=sortedHeap_at (out:=(iu (jC ms) vs).toArray) hg;refine h ms vs _ _ c m1 m2 (fun b o e=>?_) k2 k3 (gF k4) hc';have e':=kp b o e;have hb:=ax e';show(A5 (s'.heap.push (seqObj "list" vs.toArray 0)) s'.heap.objs.size vs (iu (jC ms) vs).toArray).get? b=some o;rw[sortedHeap_old (aE hb) (by rw[size_push'];exact bG hb)];exact ae _ e'
 ·have :=hp.length_eq
  simp at this;exact aU (by omega:vs.length<=64) (by decide)
end
section
variable {prog:Program}{w:World}
theorem uz{k:Str}{v:Value}(h:(bq prog w).is (.inr k) v=true):∃t,v=.str k t:=by
 rw[qA]at h;exact nF h
theorem DJ{l:List (Int×Value)}(h:ElemsOf (bq prog w) l)(hi:∀e∈l,∀k,(bq prog w).is k e.2=true->∃n:Str,k=.inr n):∃ms:List Str,fT (l.map (·.2)) ms:=by
 induction l with
 |nil=>exact⟨[],.nil⟩
 |cons e l ih=>
  obtain⟨ms,r⟩:=ih h.tail fun e' he'=>hi e' (aF _ he');obtain⟨⟨k,hk,_⟩,_⟩:=h.head;obtain⟨n,rfl⟩:=hi e au k hk;obtain⟨t,e2⟩:=uz hk;refine⟨n::ms,?_⟩;rw[aN,e2];exact .cons n t r
theorem BZ:∀{vs:List Value}{ms:List Str},fT vs ms->∀n,n∈ms↔∃v∈vs,(bq prog w).is (.inr n) v=true:=by
 intro vs ms r
 induction r with
 |nil=>simp
 |cons k t r ih=>
  intro n;rw[aK,ih n];constructor
  ·rintro(rfl|⟨v,hv,e⟩)
   ·exact⟨_,au,oJ _ _ _ _⟩
   ·exact⟨v,aF _ hv,e⟩
  ·rintro⟨v,hv,e⟩
   rcases aK.mp hv with rfl|hv
   ·obtain⟨t',e'⟩:=uz e
    cases e';exact .inl rfl
   ·exact .inr ⟨v,hv,e⟩
theorem z7{h:Heap}{a:Addr}{ns:List Str}{led:Bool}(x:pE (bq prog w) h a (has (met (ns.map .inr))) (met (ns.map .inr)).length led):
  ∃o es ep t ms,h.get? a=some o/\o.cls=.type "set"/\o.data=.set es ep t/\t.fits es.size=true/\es.size=(met (ns.map .inr)).length/\iE t/\t.led=led/\fT (es.toList.map (·.2)) ms/\ms.Nodup/\∀n,n∈ms↔n∈ns:=by
 obtain⟨o,es,ep,t,ho,hx,hd,hl,hm,hb,hf,hn,hT,hL⟩:=x;have hle:=DG (ns.map (dg:Str->Key));rw[ag]at hle;have inl:∀e∈es.toList,∀k,(bq prog w).is k e.2=true->∃n:Str,n∈ns/\k=.inr n:=fun e he k hk=>by
  have :=uu.mp (kR.mp ((hm k).mpr ⟨e,he,hk⟩))
  obtain⟨n,hn,rfl⟩:=aH.mp this;exact⟨n,hn,rfl⟩
 obtain⟨ms,r⟩:=DJ hl fun e he k hk=>let⟨n,_,e⟩:=inl e he k hk;⟨n,e⟩;have mem:∀n,n∈ms↔n∈ns:=fun n=>by
  rw[BZ (prog:=prog) (w:=w) r n];constructor
  ·rintro⟨v,hv,e⟩
   obtain⟨e',he',rfl⟩:=aH.mp hv;obtain⟨n',hn',z⟩:=inl e' he' _ e;cases z;exact hn'
  ·intro h
   obtain⟨e,he,hk⟩:=(hm (.inr n)).mp (kR.mpr (uu.mpr (bS h)));exact⟨e.2,bS he,hk⟩
 have len:ms.length=es.size:=by
  have :=kg r
  simp at this;omega
 have p:(ms.map (dg:Str->Key)).Perm (met (ns.map .inr)):=nU (DE _) (fun x hx=>by
  obtain⟨n,hn,rfl⟩:=aH.mp (uu.mp hx);exact bS ((mem n).mpr hn)) (by rw[ag];omega)
 have nd:(ms.map (dg:Str->Key)).Nodup:=p.nodup_iff.mpr (DE _);exact⟨o,es,ep,t,ms,ho,hx.1,hd,hf,by omega,hT,hL,r,(gw.mp nd).imp fun h z=>h (congrArg _ z),mem⟩
end
end Q
namespace L2
open PySem PySem.Spec PyProof.Rows Q
section
variable {X:Cx}
noncomputable def fN(ks:List Str):List V:=sortBy .non ks (ks.map V.str)
noncomputable def nO(K:aa)(ta:TA):TE:=fun σ H Q=>ta σ H fun vs H1=>∃(p:Addr)(ns:List Str),vs=[V.ref p]/\SqL K H1 p (ns.map V.str)/\ns.length<1000/\(∃ms:List Str,ms.length<64/\∀x∈ns,x∈ms)/\
 ∀(ms:List Str) l,ms.Nodup->(∀x,x∈ms↔x∈ns)->H1 l=none->Q (.ref l) (upd H1 l (.lst (fN ms)))
theorem mL{α:Type}[DecidableEq α]:∀{l m:List α},l.Nodup->(∀x∈l,x∈m)->l.length<=m.length
 | [],_,_,_=>aM _
 |a::l,m,nd,h=>by
  rw[cb]at nd;have ha:=h a au;have p:=(Bq ha).length_eq;have :=mL (m:=m.erase a) nd.2 fun x hx=>(Bs fun z:x=a=>nd.1 (z▸hx)).mpr (h x (aF _ hx));rw[bj]at p⊢;omega
theorem vG{a:Expr}{ta:TA}{p p' pos pos':Pos}(hc:X.calm=true)(hg:Gl X "sorted")(hm:X.mg "sorted"=none)(hg':Gl X "set")(hm':X.mg "set"=none)(ha:PA X [a] ta)(hs:bC [a] X.env=[(false,eval a X.env)]:=by rfl):
  PE X (.Call (.Name "sorted" p) [.Call (.Name "set" p') [a] [] pos'] [] pos) (nO X.K ta):=by
 intro pins s σ H Q I h;refine Call_ (iy I hg hm uK (mB (eA ?_) rfl rfl));refine Call_ (iy I hg' hm' AW (bT (thn (ha pos' pins s σ H _ I h) fun us s1 ⟨vs,H1,I1,r1,q1⟩=>?_) hs rfl));obtain⟨pl,ns,e,hq,h1k,⟨mm,h64,hmm⟩,q⟩:=q1;subst e;obtain⟨u,rfl,rx⟩:=vals1 r1;cases rx;obtain⟨its,r',plist,_⟩:=I1.list hq;have hlen:=r'.length;rw[ag]at hlen;have r2:bJ ((ns.map (dg:Str->Key)).map kV) its:=by
  rw[bK];exact r'
 refine zZ (ks:=ns.map .inr) (I1.ok.hd hc) plist.isList (by rw[ay,ag];exact hlen) (fun i v e=>zc r2 i v (by simpa using e)) (by rw[ay,<-hlen];unfold eW;omega) fun h' tk hS kp=>?_;obtain⟨o,es,ep,t,ms,ho,hx,hd,hf,hsz,hT,hL,r,nd,mem⟩:=z7 hS;have hmz:ms.length=es.size:=by
  have :=kg r
  simp at this;omega
 have hle64:=mL nd fun x hx=>hmm x ((mem x).mp hx);refine aj ?_;refine vx (s:={s1 with heap:=h',toks:=tk}) (I1.ok.hd hc) ho hx hd hf (by omega) hT (fun z=>by rw[hL,z];rfl) r nd fun ms' vs s' l c hp hv kp' k2 k3 k4 k5=>?_;have nd':ms'.Nodup:=hp.nodup_iff.mpr nd;have hlm:=hp.length_eq;have kk:∀b o,s1.heap.get? b=some o->s'.heap.get? b=some o:=fun b o e=>kp' b o (kp b o (ax e) e);have hlt:s1.heap.objs.size<h'.objs.size:=ax ho;have hle:s1.heap.objs.size<=l:=aU (gF hlt) k4;have hz2:(fN ms').length<=sizeLine:=by
  unfold fN sortBy;rw[ag,uh _ nd'];exact iM (by omega)
 exact⟨.ref l,_,(I1.laid (h':=s'.heap) (t':=s1.toks) kk hle (show cJ X.prog X.w _ _ _ (.lst (fN ms'))from⟨hz2,_,c,qo nd' (by rw[ag]) (nM hv),k5⟩)).same rfl k2 k3,rfl,q _ _ nd' (fun x=>(hp.mem_iff).trans (mem x)) (I1.hok.fresh hle)⟩
end
end L2
set_option maxHeartbeats 1000000
namespace L2
open PySem PySem.Spec PyProof.Rows
theorem DL{P:Program}{w:World}{k:Key}{u:Value}(h:(bq P w).is k u=true):RelV (kV k) u:=by
 rw[qA]at h;cases k with
 |inl i=>exact Value.isInt_shape h
 |inr x=>exact nF h
section
variable {X:Cx}{pins:List (Addr×Obj)}{σ:St}{H:Hp}{s:Shared}{d:Addr}{kvs:List (Key×V)}{o:Obj}
theorem Inv.freeze(I:Inv X pins σ H s)(e:H d=some (.dK kvs))(ho:s.heap.get? d=some o):Inv X pins σ (upd H d (.frz o (.dK kvs))) s:=by
 have ne:∀b u,H b=some u->(∀k,u≠.dK k)->b≠d:=fun b u q z y=>by subst y;rw[e]at q;cases q;exact z _ rfl
 have hk:∀b u,b≠d->H b=some u->upd H d (.frz o (.dK kvs)) b=some u:=fun b u z q=>by rw[aI z];exact q
 have st:∀b u,H b=some u->cJ X.prog X.w (upd H d (.frz o (.dK kvs))) s.heap b u:=fun b u q=>(I.hok b u q).nP (fun _ _ _ q=>q) (fun c q=>hk c _ (ne c _ q fun _ z=>nomatch z) q) fun c xs q=>hk c _ (ne c _ q fun _ z=>nomatch z) q;refine(I.un (t':=s.toks) (h':=s.heap) ⟨fun b u q n _ _=>q,fun b u q n _ _=>⟨u.slots,q⟩,fun b u q n _=>?_,fun b u q _=>⟨u,q⟩,fun b xs q=>hk b _ (ne b _ q fun _ z=>nomatch z) q,fun b ob u q=>hk b _ (ne b _ q fun _ z=>nomatch z) q,fun b ps q=>⟨#[],by rw[hk b _ (ne b _ q fun _ z=>nomatch z) q];simp⟩⟩ fun b u q=>?_)
 ·rw[aI (fun z=>by rw[z,e]at n;cases n)]
  exact n
 ·by_cases hb:b=d
  ·subst hb
   rw[av]at q;cases q;exact⟨ho,st b _ e⟩
  ·rw[aI hb]at q
   exact st b u q
theorem Inv.frozen{es:Array DictEntry}{ep:Nat}(I:Inv X pins σ H s)(e:H d=some (.frz o (.dK kvs)))(hd:o.data=.dict es ep):s.heap.get? d=some o/\(d==cL)=false/\∃vs,KV kvs vs/\s.heap.DictAt (bq X.prog X.w) d vs ep:=by
 obtain⟨ho,z,lo,vs,r,o',es',ep',ho',hx,hd',rest⟩:=(show s.heap.get? d=some o/\kvs.length<=sizeLine/\(d==cL)=false/\∃vs,KV kvs vs/\s.heap.DictOf (bq X.prog X.w) d vs from I.hok d _ e);rw[ho]at ho';cases ho';rw[hd]at hd';cases hd';exact⟨ho,lo,vs,r,o,es,ho,hx,hd,rest⟩
theorem xW:∀{kvs:List (Key×V)}{vs:List (Key×Value)},KV kvs vs->∀{i:Nat}{k:Key}{v:V},kvs[i]? =some (k,v)->∃u,vs[i]? =some (k,u)/\RelV v u
 |_,_,.nil,_,_,_,h=>nomatch h
 |_,_,.cons (b:=(k',u)) r _,0,_,_,h=>by
  cases h;obtain⟨e,q⟩:=r;cases e;exact⟨u,rfl,q⟩
 |_,_,.cons _ t,i+1,_,_,h=>xW t (i:=i) h
end
noncomputable def Itk(d:Addr)(o:Obj)(kvs:List (Key×V)):It:=
 ⟨fun i H=>H d=some (.frz o (.dK kvs))/\i<kvs.length,fun i H x H'=>H'=H/\∃k v,kvs[i]? =some (k,v)/\x=kV k,fun i H=>H d=some (.frz o (.dK kvs))/\kvs.length<=i⟩
theorem zQ{P:Program}{w:World}{K:aa}{tg:Expr}{d it:Addr}{o:Obj}{kvs:List (Key×V)}{es:Array DictEntry}{ep:Nat}(hd:o.data=.dict es ep):Turn P w K tg (Itk d o kvs) [it] it (fun i h=>h.IsKeyIter it d i kvs.length ep) where
 mem:=by simp
 obj:=fun i h st b hb=>by
  have e:b=it:=by simpa using hb
  subst e;obtain⟨o,e,c,d⟩:=st;exact⟨o,e,fun v z=>by rw[d]at z;cases z⟩
 keep:=fun i h h' st k=>st.at fun o e=>k it (by simp) o e
 item:=by
  intro X hP hw hK hc i pins s σ H E I hf st hg;subst hP hw hK;obtain⟨hH,hi⟩:=hg;obtain⟨ho,lo,vs,r,hm⟩:=I.frozen hH hd;obtain⟨⟨k,v⟩,hx⟩:∃p,kvs[i]? =some p:=⟨kvs[i],by simp[hi]⟩;obtain⟨u,hu,_⟩:=xW r hx;obtain⟨f0,f1,f2,f3,f4,f5⟩:=hf it (by simp);rw[r.length]at st;refine wpAny_pyNext_dict_item st hm hu fun key h' hkey st' sb=>?_;have I1:Inv X pins σ H {s with heap:=h'}:=I.turned (t':=s.toks) (fun b o hb e=>(sb.2 b hb).trans e) f0 f1 f3 f4 f5;obtain⟨o',e,c,d'⟩:=id st';exact⟨key,rfl,sT (s:={s with heap:=h'}) e c d' (by decide) ⟨kV k,H,I1,DL hkey,⟨rfl,k,v,hx,rfl⟩,by rw[r.length];exact st',fun b hb=>(hf b hb).1⟩⟩
 done:=by
  intro X hP hw hK hc i pins s σ H E I hf st hg;subst hP hw hK;obtain⟨hH,hi⟩:=hg;obtain⟨ho,lo,vs,r,hm⟩:=I.frozen hH hd;obtain⟨f0,f1,f2,f3,f4,f5⟩:=hf it (by simp);rw[r.length]at st hi;exact wpAny_pyNext_dict_end (I.ok.hd hc) st hm (by simpa using hi) fun h' eb=>⟨rfl,I.turned (t':=s.toks) (fun b o hb e=>eb b o hb e) f0 f1 f3 f4 f5⟩
 self:=fun _ _ _ _ _ st h=>wpAny_pyIter_keyiter st h
noncomputable def Iti(d:Addr)(o:Obj)(kvs:List (Key×V)):It:=
 ⟨fun i H=>H d=some (.frz o (.dK kvs))/\i<kvs.length,fun i H x H'=>∃p k v,H p=none/\H'=upd H p (.tup [kV k,v])/\x=.ref p/\kvs[i]? =some (k,v),fun i H=>H d=some (.frz o (.dK kvs))/\kvs.length<=i⟩
theorem xq{P:Program}{w:World}{K:aa}{es':List Expr}{kk:Nat}{pp:Pos}{d it:Addr}{o:Obj}{kvs:List (Key×V)}{es:Array DictEntry}{ep:Nat}(hd:o.data=.dict es ep):
  Turn P w K (.Tuple es' kk pp) (Iti d o kvs) [it] it (fun i h=>∃ok ov,IsItemIter h it d i kvs.length ep ok ov) where
 mem:=by simp
 obj:=fun i h st b hb=>by
  have e:b=it:=by simpa using hb
  subst e;obtain⟨ok,ov,e⟩:=st;exact⟨_,e,fun v z=>by cases z⟩
 keep:=fun i h h' st k=>let⟨ok,ov,e⟩:=st;⟨ok,ov,k it (by simp) _ e⟩
 item:=by
  intro X hP hw hK hc i pins s σ H E I hf st hg;subst hP hw hK;obtain⟨hH,hi⟩:=hg;obtain⟨ho,lo,vs,r,hm⟩:=I.frozen hH hd;obtain⟨⟨k,v⟩,hx⟩:∃p,kvs[i]? =some p:=⟨kvs[i],by simp[hi]⟩;obtain⟨u,hu,ru⟩:=xW r hx;obtain⟨f0,f1,f2,f3,f4,f5⟩:=hf it (by simp);obtain⟨ok,ov,st⟩:=st;rw[r.length]at st;refine wpAny_pyNext_items_item st hm hu fun key h' hkey st' ht hz kp=>?_;have hp:H s.heap.objs.size=none:=I.hok.fresh (ar _);have I1:Inv X pins σ (upd H s.heap.objs.size (.tup [kV k,v])) {s with heap:=h'}:=by
   have nit:∀b u,H b=some u->b≠it:=fun b u e z=>by rw[z,f0]at e;cases e
   refine I.step (g':=s.gens) (d':=s.drawn) (ch:=[it]) (fun c hc=>?_) (fun c o _ _ hc' q _=>kp c o (fun z=>hc' (by simp[z])) q)
    (fun c o _ _ hc' q _=>⟨o.slots,kp c o (fun z=>hc' (by simp[z])) q⟩) (fun c o _ q n=>by rw[aI (aE (ax q))];exact n)
    (fun c o hc' q=>⟨o,kp c o (fun z=>hc' (by simp[z])) q⟩) (fun c vs q=>by rw[aI (bg q hp)];exact q) (fun c o v q=>by rw[aI (bg q hp)];exact q)
    (fun c ps q=>⟨#[],by rw[aI (bg q hp),q];simp⟩) (fun m hm=>?_) (fun c v q=>?_) I.bare
   ·have e:c=it:=by simpa using hc
    subst e;exact⟨f3,f1,f4,f5⟩
   ·obtain⟨o,es',ep,q,r⟩:=hm
    exact⟨o,es',ep,kp _ o (cz f1) q,r⟩
   ·by_cases hb:c=s.heap.objs.size
    ·subst hb
     rw[av]at q;cases q;exact⟨by show 2<=sizeLine;decide,[key,u],.cons (DL hkey) (.cons ru .nil),⟨_,ht,rfl,_,rfl⟩⟩
    ·rw[aI hb]at q
     refine(I.hok c v q).nP (fun d o hc' q'=>kp d o (fun hd=>?_) q') (fun d q'=>by rw[aI (bg q' hp)];exact q') fun d vs q'=>by rw[aI (bg q' hp)];exact q'
     rcases hc' with zz|zz
     ·exact nit c v q (zz.symm.trans hd)
     ·exact nit d _ zz hd
  have fz:(upd H s.heap.objs.size (.tup [kV k,v])) it=none:=by rw[aI (aE (ax st))];exact f0
  refine⟨_,rfl,wpAny_letOwnedTupleGo_items (s:={s with heap:=h'}) st' fun h'' st'' hs''=>?_⟩;have I2:Inv X pins σ (upd H s.heap.objs.size (.tup [kV k,v])) {s with heap:=h''}:=I1.turned (t':=s.toks) (fun c o hb q=>hs''.extBut c o hb q) fz f1 f3 f4 f5;exact⟨.ref s.heap.objs.size,_,I2,rfl,⟨_,k,v,hp,rfl,rfl,hx⟩,⟨_,_,by rw[r.length];exact st''⟩,fun c hc=>by
   have e:c=it:=by simpa using hc
   rw[e];exact fz⟩
 done:=by
  intro X hP hw hK hc i pins s σ H E I hf st hg;subst hP hw hK;obtain⟨hH,hi⟩:=hg;obtain⟨ho,lo,vs,r,hm⟩:=I.frozen hH hd;obtain⟨f0,f1,f2,f3,f4,f5⟩:=hf it (by simp);obtain⟨ok,ov,st⟩:=st;rw[r.length]at st hi;exact wpAny_pyNext_items_end (I.ok.hd hc) st hm (by simpa using hi) fun h' eb=>⟨rfl,I.turned (t':=s.toks) (fun b o hb e=>eb b o hb e) f0 f1 f3 f4 f5⟩
 self:=fun _ _ _ _ _ st h=>let⟨_,_,e⟩:=st;PySem.W.kcp_self e h
noncomputable def Frz(H:Hp)(d:Addr)(kvs:List (Key×V))(R:Obj->Hp->Prop):Prop:=(H d=some (.dK kvs)/\∀o,R o (upd H d (.frz o (.dK kvs))))\/∃o,H d=some (.frz o (.dK kvs))/\R o H
section
variable {X:Cx}{pins:List (Addr×Obj)}{σ:St}{H:Hp}{s:Shared}{d:Addr}{kvs:List (Key×V)}{tg:Expr}{es:List Expr}{kk:Nat}{pp apos cpos:Pos}
theorem Inv.zh{R:Obj->Hp->Prop}(I:Inv X pins σ H s)(h:Frz H d kvs R):∃o es ep H2,Inv X pins σ H2 s/\H2 d=some (.frz o (.dK kvs))/\o.data=.dict es ep/\R o H2:=by
 rcases h with⟨e,h⟩ |⟨o,e,h⟩
 ·obtain⟨_,_,vs,r,o,es,ep,ho,_,hd,_⟩:=wk I.hok e
  exact⟨o,es,ep,_,I.freeze e ho,av,hd,h o⟩
 ·obtain⟨ho,_,_,vs,r,o',es,ep,ho',_,hd,_⟩:=(show s.heap.get? d=some o/\kvs.length<=sizeLine/\(d==cL)=false/\∃vs,KV kvs vs/\s.heap.DictOf (bq X.prog X.w) d vs from I.hok d _ e)
  rw[ho]at ho';cases ho';exact⟨o,es,ep,H,I,e,hd,h⟩
noncomputable def DR(tl:TE):TI:=fun σ H R=>tl σ H fun x H1=>∃d kvs,x=.ref d/\Frz H1 d kvs fun o H2=>R (Itk d o kvs) H2
noncomputable def x9(tl:TE):TI:=fun σ H R=>tl σ H fun x H1=>∃d kvs,x=.ref d/\Frz H1 d kvs fun o H2=>R (Iti d o kvs) H2
theorem pi_keys{l:Expr}{tl:TE}(hl:PE X l tl):PI X tg l (DR tl):=by
 intro pins s σ H R I h;refine thn (hl pins s σ H _ I h) fun v s1 ⟨x,H1,I1,r1,q1⟩=>?_;obtain⟨d,kvs,rfl,q⟩:=q1;cases r1;obtain⟨o,es,ep,H2,I2,hH,hd,hR⟩:=I1.zh q;obtain⟨ho,lo,vs,r,hm⟩:=I2.frozen hH hd;refine wpAny_pyIter_dict lo hm ?_;refine⟨s1.heap.objs.size,[s1.heap.objs.size],_,_,H2,rfl,I2.kept (t':=s1.toks) fun b o e=>ae _ e,zQ hd,⟨_,aC _ rfl,rfl,by rw[r.length];rfl⟩,fun b hb=>?_,hR⟩;have e:b=s1.heap.objs.size:=by simpa using hb
 subst e;exact I2.pC (ar _) (I2.hok.fresh (ar _))
theorem C6{b:Expr}{tl:TE}(hl:PE X b tl)(hbase:iW b "items" X.env (eval b X.env)=eval b X.env)(hline:(apos.endLine==cpos.line)=true):PI X (.Tuple es kk pp) (.Call (.Attribute b "items" apos) [] [] cpos) (x9 tl):=by
 intro pins s σ H R I h;refine wpAny_Call_method0_late hbase hline (thn (hl pins s σ H _ I h) fun v s1 ⟨x,H1,I1,r1,q1⟩=>?_);obtain⟨d,kvs,rfl,q⟩:=q1;cases r1;obtain⟨o,es,ep,H2,I2,hH,hd,hR⟩:=I1.zh q;obtain⟨ho,lo,vs,r,hm⟩:=I2.frozen hH hd;refine⟨"dict","dict.items",dP,u5,PySem.F.type_dict_items,hm.dictOf.typeIs,hm.dictOf.mapOf.noDict,eB rfl (Bk ?_)⟩;refine hE u5 hm.dictOf.typeIs PySem.F.entry_dict_items (PySem.F.args_dict_items_1 _) (meets_dict_items (bq X.prog X.w) d lo) ⟨⟨vs,hm.dictOf⟩,?_⟩;refine wpAny_pyIter_items (s:={s1 with heap:=s1.heap.push {cls:=.type "dict_items",data:=.fields #[.ref d]}}) (v:=s1.heap.objs.size) ⟨_,aC _ rfl,rfl,rfl⟩ (hm.push _) ?_;have I3:Inv X pins σ H2 {s1 with heap:=s1.heap.push {cls:=.type "dict_items",data:=.fields #[.ref d]}}:=I2.kept (t':=s1.toks) fun b o e=>ae _ e;refine⟨_,[_],_,_,H2,rfl,I3.kept (t':=s1.toks) fun b o e=>ae _ e,xq hd,⟨.none,.none,?_⟩,fun b hb=>?_,hR⟩
 ·rw[r.length]
  exact aC _ rfl
 have e:b=(s1.heap.push {cls:=.type "dict_items",data:=.fields #[.ref d]}).objs.size:=by simpa using hb
 subst e;exact I3.pC (ar _) (I3.hok.fresh (ar _))
end
section
variable {prog:Program}{w:World}{A:Around}{E:Value->Shared->Prop}{s:Shared}
theorem DS{z:Addr}{Q:Bool->Shared->Prop}(hT:s.TypeIs (.ref z) "list_reverseiterator")(h:Q false s):wpAny (model prog w) A (d9 (.ref z)) Q E s:=by
 unfold d9;refine af (nH (r:=none) hT (by rw[gr,dE];kernel_rfl) ?_);show wpAny _ _ (specialOf (.ref z) "__length_hint__">>=_) _ _ _;refine af (nH (r:=some (.builtin "list_reverseiterator.__length_hint__")) hT (by rw[gr,dE];kernel_rfl) ?_);dsimp only;have hs:splitId "list_reverseiterator.__length_hint__"=some ("list_reverseiterator","__length_hint__"):=by decide+kernel
 rw[hs];dsimp only;refine af (wU (b:=true) hT (by rw[gY];kernel_rfl) ?_);refine nI (fun hab=>absurd hab (by decide)) (fun _=>?_);refine nI (fun _=>?_) (fun hab=>absurd (by decide+kernel) hab);refine nI (fun hab=>absurd hab (by decide+kernel)) (fun _=>aj h)
theorem CD{S it l:Addr}{items:Array Value}{R:Result->Shared->Prop}(hh:A.handled=none)(hit:s.heap.IsRevIter it l ((items.size:Int)-1))(hl:s.heap.IsList l items)(hne:l≠it)(hSi:S≠it)(hSl:S≠l)(hn:items.size<=sizeLine)(hS:s.heap.get? S=some {cls:=.type "list",data:=.seq #[]})
  (hR:∀h' tk acc' c',(∀b o,b≠S->b≠it->s.heap.get? b=some o->h'.get? b=some o)->h'.get? S=some {cls:=.type "list",dict:=none,data:=.seq acc' c',slots:= #[]}->zM (fun i v=>items[items.size-1-i]? =some v) acc' items.size->R (.ok (.ret .none)) {s with heap:=h',toks:=tk}):
  wpAny (model prog w) A.in1 (Builtin.«list.__init__» ⟨[.ref S,.ref it],[]⟩)
   (fun fin s'=>match fin with |.done f=>R (.ok f) s'|.again c'=>c'.quiet=true/\jH (model prog w) A c' R s') (fun e s'=>R (.error e) s') s:=by
 show wpAny _ _ (do let old<-rL (.ref S);Builtin.List.listUpdate (.ref S) (fun _=> #[]);letGo old.toList.reverse;da (.ref S) (.ref it) .none) _ _ s;refine af ?_;unfold rL;refine af (A3 hS rfl (aj ?_));show wpAny _ _ (updateSeq S (fun _=> #[])>>=fun _=>letGo (#[]:Array Value).toList.reverse>>=fun _=>da (.ref S) (.ref it) .none) _ _ s;refine af (wpAny_updateSeq hS rfl ?_);have hS₂:=cU (bW (fun _=>(#[]:Array Value))) hS rfl;have oth:∀b o,b≠S->s.heap.get? b=some o->(s.heap.update S (bW (fun _=>(#[]:Array Value)))).get? b=some o:=fun b o hb e=>(bx _ _ (cz hb)).trans e;refine af (wpAny_letGo ?_);have hit2:Heap.IsRevIter (s.heap.update S (bW (fun _=>(#[]:Array Value)))) it l ((items.size:Int)-1):=hit.at fun o e=>oth it o hSi.symm e;unfold da;refine af (nC (T:="list_reverseiterator") (rE (s:={s with heap:=s.heap.update S _}) hit2) ?_);have h1:iC (.ref S) (.ref it)=false:=by simp[iC,hSi]
 have h2:(dI "list_reverseiterator"==dI "list")=false:=by decide
 have h3:(dI "list_reverseiterator"==dI "tuple")=false:=by decide
 simp only[h1,h2,h3,xl,bO,if_false];refine af (pG (s:={s with heap:=s.heap.update S _}) hit2 ?_);refine af (b7 (DS (rE (s:={s with heap:=s.heap.update S _}) hit2) ?_));refine nI (fun hab=>absurd hab bp) (fun _=>aj ⟨gk F.plain_extend_loop _,?_⟩);have W:=Walks.listRev (prog:=prog) (w:=w) (A:=A.in1) hh it l hne items;refine codeAny_extend_loopS W.toS hn S (by simp only[aK,bA,or_false,not_or];exact⟨hSi,hSl⟩) .none items.size 0 _ _ _ (lg _) (aM _) ⟨aM _,by rw[show(items.size:Int)-1-((0:Nat):Int)=(items.size:Int)-1 by omega];exact hit2,hl.at fun o e=>oth l o hSl.symm e⟩ hS₂ (zM.nil _) fun s' acc' c' hm hS' hacc=>?_;rw[Moved.eq_with hm];refine hR s'.heap s'.toks acc' c' (fun b o hb hi e=>hm.heap b o (fun hmem=>?_) (oth b o hb e)) hS' hacc;rcases aK.mp hmem with e'|hmem
 ·exact hb e'
 ·exact hi (aq.mp hmem)
theorem r8{it l:Addr}{items:Array Value}{Q:Value->Shared->Prop}(hh:A.handled=none)(hit:s.heap.IsRevIter it l ((items.size:Int)-1))(hl:s.heap.IsList l items)(hne:l≠it)(hn:items.size<=sizeLine)
  (hQ:∀h' tk acc' c',(∀b o,b≠it->s.heap.get? b=some o->h'.get? b=some o)->h'.get? s.heap.objs.size=some {cls:=.type "list",dict:=none,data:=.seq acc' c',slots:= #[]}->zM (fun i v=>items[items.size-1-i]? =some v) acc' items.size->Q (.ref s.heap.objs.size) {s with heap:=h',toks:=tk}):
  wpAny (model prog w) A (call (.type "list") [.ref it]) Q E s:=by
 refine callType_codes (Q₁:=fun obj s₁=>obj=.ref s.heap.objs.size/\s₁={s with heap:=s.heap.push {cls:=.type "list",data:=.seq #[]}}) F.called_list (F.typeCall_list_1 _) F.entry_list_init
  (code_list_new _ ⟨rfl,rfl⟩) fun obj s₁ h₁=>?_
 obtain⟨rfl,rfl⟩:=h₁;have hS:(s.heap.push {cls:=.type "list",data:=.seq #[]}).get? s.heap.objs.size=some {cls:=.type "list",data:=.seq #[]}:=aC _ rfl;have l1:it<s.heap.objs.size:=let⟨_,e,_⟩:=hit;ax e;have l2:l<s.heap.objs.size:=let⟨_,e,_⟩:=hl;ax e;refine⟨⟨_,hS,rfl⟩,F.args_list_init_2 _ _,CD (A:=A.in1) hh (hit.at fun o e=>ae _ e) (hl.at fun o e=>ae _ e) hne (cG l1) (cG l2) hn hS fun h' tk acc' c' hk hS' hacc=>⟨rfl,hQ h' tk acc' c' (fun b o hb e=>hk b o (aE (ax e)) hb (ae _ e)) hS' hacc⟩⟩
end
theorem Ad{its:List Value}{acc:Array Value}(h:zM (fun i v=>its.toArray[its.toArray.size-1-i]? =some v) acc its.toArray.size):acc.toList=its.reverse:=by
 obtain⟨h1,h2⟩:=h;rw[ay]at h1;apply dv
 ·rw[dk]
  exact h1
 ·intro i a b
  have :=h2 i acc[i] (by simp)
  rw[ay,Bg,ai (by simp at b;omega)]at this;rw[List.getElem_reverse];simpa using(bh this).symm
theorem qF:∀{kvs:List (Key×V)}{vs:List (Key×Value)}{P:Program}{w:World},KV kvs vs->∀{l:List Value},l.length=vs.length->(∀(i:Nat) v,l[i]? =some v->∃k x,vs[i]? =some (k,x)/\(bq P w).is k v=true)->bJ (kvs.map fun kv=>kV kv.1) l
 |_,_,_,_,.nil,l,h,_=>by
  rw[fV]at h;rw[iq h];exact .nil
 | (k0,v0)::kvs,(k1,v1)::vs,P,w,.cons r t,l,h,hq=>by
  cases l with
  |nil=>cases h
  |cons u l=>
   obtain⟨k,x,e,hk⟩:=hq 0 u rfl;cases e;obtain⟨e,_⟩:=r;cases e;exact .cons (DL hk) (qF t (hZ h) fun i v e=>hq (i+1) v e)
section
variable {X:Cx}
theorem AU:eD X (.builtin "len") (fun xs H Q=>∃a kvs,xs=[V.ref a]/\Rd H a (.dK kvs)/\Q (.int kvs.length) H):=by
 intro pins s σ H xs us Q I r h;obtain⟨a,kvs,rfl,ha,q⟩:=h;obtain⟨u,rfl,ru⟩:=vals1 r;cases ru;exact d_len I ha fun t s' I'=>⟨.int kvs.length,H,I',⟨t,rfl⟩,q⟩
theorem yn(hc:X.calm=true):eD X (.type "list") (fun xs H Q=>∃a kvs,xs=[V.ref a]/\Rd H a (.dK kvs)/\∀l,H l=none->Q (.ref l) (upd H l (.lst (kvs.map fun kv=>kV kv.1)))):=by
 intro pins s σ H xs us Q I r h;obtain⟨a,kvs,rfl,ha,q⟩:=h;obtain⟨u,rfl,ru⟩:=vals1 r;cases ru;obtain⟨hz,lo,vs,rv,dd⟩:=iQ I.hok ha;obtain⟨ep,hm⟩:=dd.dictAt;refine PySem.W.kdl_call (PySem.W.kdl_dict lo) (I.ok.hd hc) hm (by rw[<-rv.length];exact hz) fun h' tk acc' c' hk hS hacc=>?_;refine⟨.ref _,_,I.laid (t':=tk) (o:=.lst (kvs.map fun kv=>kV kv.1)) hk (ar _) ⟨by rw[ag];exact hz,acc'.toList,c',qF rv (by rw[bR];exact hacc.1) fun i v e=>hacc.2 i v (by rw[<-gI];exact e),hS⟩,rfl,q _ (I.hok.fresh (ar _))⟩
theorem yp:eD X (.type "dict") (fun xs H Q=>∃a kvs,xs=[V.ref a]/\Rd H a (.dK kvs)/\∀l,H l=none->Q (.ref l) (upd H l (.dK kvs))):=by
 intro pins s σ H xs us Q I r h;obtain⟨a,kvs,rfl,ha,q⟩:=h;obtain⟨u,rfl,ru⟩:=vals1 r;cases ru;obtain⟨hz,lo,vs,rv,dd⟩:=iQ I.hok ha;refine kt_call_dict lo dd (by rw[<-rv.length];exact hz) fun h' hd hs=>?_;have hk:∀b o,s.heap.get? b=some o->h'.get? b=some o:=fun b o e=>hs.extBut b o (aE (ax e)) (ae _ e);exact⟨.ref _,_,I.laid (t':=s.toks) (o:=.dK kvs) hk (ar _) ⟨hz,beq_eq_false_iff_ne.mpr (cz (aE I.big)),vs,rv,hd⟩,rfl,q _ (I.hok.fresh (ar _))⟩
noncomputable def BQ(K:aa)(ta:TA):TE:=fun σ H Q=>ta σ H fun vs H1=>∃a xs,vs=[.ref a]/\SqL K H1 a xs/\∀p,H1 p=none->Q (.ref p) (upd H1 p (.lst xs.reverse))
theorem boot_reversed:dc "reversed"=some (.type "reversed"):=by decide+kernel
theorem pe_lrev{a:Expr}{ta:TA}{p p' pos pos':Pos}(hc:X.calm=true)(hg':Gl X "list")(hm':X.mg "list"=none)(hg:Gl X "reversed")(hm:X.mg "reversed"=none)(ha:PA X [a] ta)(hs:bC [a] X.env=[(false,eval a X.env)]:=by rfl):
  PE X (.Call (.Name "list" p) [.Call (.Name "reversed" p') [a] [] pos'] [] pos) (BQ X.K ta):=by
 intro pins s σ H Q I h;refine Call_ (iy I hg' hm' fB (bT (eA ?_) rfl rfl));refine Call_ (iy I hg hm boot_reversed (bT (thn (ha pos' pins s σ H _ I h) fun us s1 ⟨vs,H1,I1,r1,q1⟩=>?_) hs rfl));obtain⟨b,xs,rfl,hq,q⟩:=q1;obtain⟨u,rfl,ru⟩:=r1.one;cases ru;obtain⟨its,rv,pl,hz⟩:=I1.list hq;have hl:=rv.length;refine call_reversed_list pl.isList ?_;refine aj ?_;have I2:Inv X pins σ H1 {s1 with heap:=s1.heap.push (revObj b ((its.toArray.size:Int)-1))}:=I1.kept (t':=s1.toks) fun b o e=>ae _ e;obtain⟨o,eo,ho⟩:=id pl.isList;have hb:b<s1.heap.objs.size:=ax eo;refine r8 (s:={s1 with heap:=s1.heap.push (revObj b ((its.toArray.size:Int)-1))}) (I1.ok.hd hc) ⟨_,aC _ rfl,rfl,rfl⟩ (pl.isList.at fun o e=>ae _ e) (aE hb) (by rw[ay];omega) fun h' tk acc' c' hk hS hacc=>?_;have hsz:s1.heap.objs.size<=(s1.heap.push (revObj b ((its.toArray.size:Int)-1))).objs.size:=by rw[cQ];exact eE _
 exact⟨.ref _,_,I1.laid (t':=tk) (o:=.lst xs.reverse) (fun c o e=>hk c o (aE (ax e)) (ae _ e)) hsz ⟨by rw[dk];exact hz,acc'.toList,c',by rw[Ad hacc];exact rv.reverse,hS⟩,rfl,q _ (I1.hok.fresh hsz)⟩
end
noncomputable def Itv(K:aa)(a:Addr)(xs:List V):It:=
 ⟨fun i H=>SqL K H a xs/\i<xs.length,fun i H x H'=>H'=H/\xs.reverse[i]? =some x,fun i H=>xs.length<=i⟩
theorem BH{P:Program}{w:World}{K:aa}{tg:Expr}(a it:Addr)(xs:List V):Turn P w K tg (Itv K a xs) [it] it (fun i h=>h.IsRevIter it a ((xs.length:Int)-1-i)/\i<=xs.length) where
 mem:=by simp
 obj:=fun i h st b hb=>by
  have e:b=it:=by simpa using hb
  subst e;obtain⟨⟨o,e,c,d⟩,_⟩:=st;exact⟨o,e,fun v z=>by rw[d]at z;cases z⟩
 keep:=fun i h h' st k=>⟨st.1.at fun o e=>k it (by simp) o e,st.2⟩
 item:=by
  intro X hP hw hK hc i pins s σ H E I hf st hg;subst hP hw hK;obtain⟨hq,hi⟩:=hg;obtain⟨its,rv,p,hz⟩:=I.list hq;have hl:=rv.length;obtain⟨u,hu,ru⟩:=rv.get (ai (show xs.length-1-i<xs.length by omega));obtain⟨f0,f1,f2,f3,f4,f5⟩:=hf it (by simp);obtain⟨st,_⟩:=st;rw[show(xs.length:Int)-1-i=((xs.length-1-i:Nat):Int) by omega]at st;refine wpAny_pyNext_rev_item st p.isList (x:=u) (by simpa using hu) fun h' st' sb=>?_;have I1:Inv X pins σ H {s with heap:=h'}:=I.turned (t':=s.toks) (fun b o hb e=>(sb.2 b hb).trans e) f0 f1 f3 f4 f5;obtain⟨o,e,c,d⟩:=id st';refine⟨u,rfl,sT (s:={s with heap:=h'}) e c d (by decide) ⟨_,H,I1,ru,⟨rfl,?_⟩,⟨?_,by omega⟩,fun b hb=>(hf b hb).1⟩⟩
  ·rw[Bh hi,ai]
  ·rw[show(xs.length:Int)-1-((i+1:Nat):Int)=((xs.length-1-i:Nat):Int)-1 by omega]
   exact st'
 done:=by
  intro X hP hw hK hc i pins s σ H E I hf st hg;subst hP hw hK;obtain⟨f0,f1,f2,f3,f4,f5⟩:=hf it (by simp);obtain⟨st,h2⟩:=st;have hg:xs.length<=i:=hg;rw[show(xs.length:Int)-1-i= -1 by omega]at st;exact wpAny_pyNext_rev_end (I.ok.hd hc) st fun h' eb=>⟨rfl,I.turned (t':=s.toks) (fun b o hb e=>eb b o hb e) f0 f1 f3 f4 f5⟩
 self:=fun _ _ _ _ _ st h=>pG st.1 h
section
variable {X:Cx}{tg:Expr}
noncomputable def iRev(K:aa)(t:TA):TI:=fun σ H R=>t σ H fun vs H1=>∃a xs,vs=[.ref a]/\SqL K H1 a xs/\R (Itv K a xs) H1
theorem pi_rev{l:Expr}{t:TA}{p pos:Pos}(hg:Gl X "reversed")(hm:X.mg "reversed"=none)(ha:PA X [l] t)(hs:bC [l] X.env=[(false,eval l X.env)]:=by rfl):PI X tg (.Call (.Name "reversed" p) [l] [] pos) (iRev X.K t):=by
 intro pins s σ H R I h;refine Call_ (iy I hg hm boot_reversed (bT (thn (ha pos pins s σ H _ I h) fun us s1 ⟨vs,H1,I1,r1,q1⟩=>?_) hs rfl));obtain⟨a,xs,rfl,hq,q⟩:=q1;obtain⟨u,rfl,ru⟩:=r1.one;cases ru;obtain⟨its,rv,pl,hz⟩:=I1.list hq;have hl:=rv.length;refine call_reversed_list pl.isList ?_;refine pG (s:={s1 with heap:=s1.heap.push (revObj a ((its.toArray.size:Int)-1))}) (l:=a) ⟨_,aC _ rfl,rfl,rfl⟩ ?_;refine⟨s1.heap.objs.size,[s1.heap.objs.size],_,_,H1,rfl,I1.kept (t':=s1.toks) fun b o e=>ae _ e,BH a _ xs,⟨⟨_,aC _ rfl,rfl,?_⟩,aM _⟩,fun b hb=>?_,q⟩
 ·show Data.fields #[.ref a,rawInt ((its.toArray.size:Int)-1)]=_
  rw[ay,hl];simp
 ·have e:b=s1.heap.objs.size:=by simpa using hb
  subst e;exact I1.pC (ar _) (I1.hok.fresh (ar _))
end
end L2
namespace PySem
open Sem (wp)
theorem uv:A4 (.type "list") "keys"=pure none:=by rw[gr,dE];kernel_rfl
theorem rV:A4 (.type "list") "__getattr__"=pure none:=by rw[gr,dE];kernel_rfl
section
variable {prog:Program}{w:World}{A:Around}{E:Value->Shared->Prop}{h:Heap}{g:Array Bi}{d:Drawn}{t:Nat}{os:OsState}{a:Addr}{o:Obj}
theorem xZ{tk:Tok}{xs:Array Value}{n:Nat}{Q:Fin->Shared->Prop}(hx:h.get? a=some {cls:=.type "list",data:=.seq xs n}) (hh:A.handled=none) (hq:∀h' t' x ox,(∀b u,h.get? b=some u->h'.get? b=some u)->h'.get? x=some ox->ox.cls=.type "AttributeError"->E (.ref x) ⟨h',g,d,t',os⟩):
  wpAny (model prog w) A (Builtin.«object.__getattribute__» ⟨[.ref a,.str "keys" tk],[]⟩) Q E ⟨h,g,d,t,os⟩:=by
 have hT:(⟨h,g,d,t,os⟩:Shared).TypeIs (.ref a) "list":=⟨_,hx,rfl⟩;have f4:=uv;repeat(any_goals (first |assumption|wp_step))
 generalize hmm:(cF _++cF "keys"++cF "'")=msg;have hml:msg.length<=sizeLine:=by rw[<-hmm];decide+kernel
 unfold raiseAttrError;refine af ?_;refine wpAny_mkStr ?_ hml;refine af ?_;simp only[newExc,newTuple];refine af (cC ?_ (by size_fits));refine af (m:=pJ _ _) (wpAny_of_eq (a:=bN) (by first |rfl| (simp only[pJ];rfl)) ?_);refine cC ?_ (by size_fits);have sub:isSubtype (.type "AttributeError") (.type "AttributeError")=pure true:=by rw[gY];kernel_rfl
 have om:ownMembersOf (dI "AttributeError") [iX msg t]= #[unsetMember,unsetMember]:=by rfl
 rw[om];dsimp only;repeat(any_goals (first |assumption|wp_step))
 simp only[A8];refine af (wpAny_handled ?_);rw[hh];refine af (aj (wpAny_throw ?_));refine hq _ _ _ _ (fun b u e=>?_) (cU _ (aC _ rfl) rfl) rfl;have hb:=ax e;rw[bx _ _ (cG (by rw[cQ];exact bG hb))];exact ae _ (ae _ e)
theorem AB{xs:Array Value}{n:Nat}{Q:Option Value->Shared->Prop}(hx:h.get? a=some {cls:=.type "list",data:=.seq xs n}) (hh:A.handled=none) (hq:∀h' t',(∀b u,h.get? b=some u->h'.get? b=some u)->Q none ⟨h',g,d,t',os⟩):
  wpAny (model prog w) A (getAttr? (.ref a) "keys") Q E ⟨h,g,d,t,os⟩:=by
 have hT:∀t,(⟨h,g,d,t,os⟩:Shared).TypeIs (.ref a) "list":=fun _=>⟨_,hx,rfl⟩;have f2:=gc.lookup;have f3:=gc.bind (.ref a);have f5:=rV;have hT1:=hT (t+1);unfold getAttr? getAttrBy?;repeat(any_goals (first |assumption|wp_step))
 refine codeAny_call_builtin gc.plain F.entry_list_ga (gc.check _ _ _ _ _ _ _ _ hT1 (F.args_list_getattribute_2 _ _) (xZ hx hh fun h' t' x ox kp hox hcx=>?_));have sub:isSubtype (.type "AttributeError") (.type "AttributeError")=pure true:=by rw[gY];kernel_rfl
 have hTx:∀t,(⟨h',g,d,t,os⟩:Shared).TypeIs (.ref x) "AttributeError":=fun _=>⟨ox,hox,hcx⟩;have hTx1:=hTx t';have q:=hq h' t' kp;repeat(any_goals (first |assumption|wp_step))
end
end PySem
namespace L2
open PySem PySem.Spec PyProof.Rows
theorem stored_new{kvs:List (Key×Value)}{k:Key}{v:Value}(h:k∉kvs.map (·.1)):stored kvs k v=kvs++[(k,v)]:=by
 unfold stored;rw[if_neg];intro z;obtain⟨q,hq,e⟩:=fj.mp z;exact h (aH.mpr ⟨q,hq,of_decide_eq_true e⟩)
theorem jP:entryFor table "dict.update.loop"=some Builtin.«dict.update.loop»:=entryFor_of_tree (by kernel_rfl)
theorem fe:plainId "dict.update.loop"=true:=by decide+kernel
section
variable {prog:Program}{w:World}{A:Around}{E:Value->Shared->Prop}{s:Shared}
noncomputable def PrAt(P:Program)(w:World)(h:Heap)(its:List Value)(ps:List (Key×Value)):Prop:=∀(i:Nat)(k:Key)(v:Value),ps[i]? =some (k,v)->∃(p:Addr)(o:Obj)(ku:Value)(n:Nat),its[i]? =some (bI p)/\h.get? p=some o/\o.cls=.type "tuple"/\o.data=.seq #[ku,v] n/\(bq P w).is k ku=true
theorem sX{d it l:Addr}{its:List Value}{ps:List (Key×Value)}{R:Result->Shared->Prop}(hh:A.handled=none)(hl:its.length=ps.length)(nd:(ps.map (·.1)).Nodup)(hn:ps.length<=sizeLine)(hdi:d≠it)(hli:l≠it)(hld:l≠d):
  ∀(m i:Nat)(s:Shared)(t0:Tok),ps.length-i=m->i<=ps.length->s.heap.IsListIter it l i->s.heap.IsList l its.toArray->s.heap.DictOf (bq prog w) d (ps.take i)->PrAt prog w s.heap its ps->(∀p,bI p∈its->p≠d/\p≠it)->
   (∀h' tk,(∀b o,b≠d->b≠it->s.heap.get? b=some o->h'.get? b=some o)->h'.DictOf (bq prog w) d ps->R (.ok (.ret .none)) {s with heap:=h',toks:=tk})->
   jH (model prog w) A (.builtin "dict.update.loop" ⟨[.ref d,.ref it,.int i t0,.none],[]⟩) R s
 | 0,i,s,t0,hm,hi,st,sl,hd,hp,hne,hR=>by
  obtain rfl:i=ps.length:=by omega
  rw[bY]at hd;refine dQ jP ?_;rw[cX fe _];show wpAny _ A.in1 (pyNext (.ref it)>>=_) _ _ s;refine af (wpAny_pyNext_list_end hh st sl (by simp[hl]) fun h' eb=>?_);show wpAny _ _ (Builtin.Dict.addKeywords d []>>=_) _ _ _;exact af (aj (aj (hR h' s.toks (fun b o _ hb e=>eb b o hb e) (hd.extBut eb hdi))))
 |m+1,i,s,t0,hm,hi,st,sl,hd,hp,hne,hR=>by
  have hlt:i<ps.length:=by omega
  obtain⟨⟨k,v⟩,hx⟩:∃q,ps[i]? =some q:=⟨ps[i],by simp[hlt]⟩;obtain⟨p,o,ku,n,e1,e2,e3,e4,e5⟩:=hp i k v hx;have hpn:=hne p (aS e1);refine dQ jP ?_;rw[cX fe _];show wpAny _ A.in1 (pyNext (.ref it)>>=_) _ _ s;refine af (wpAny_pyNext_list_item st sl (x:=.ref p) (by simpa using e1) fun h' st' sb=>?_);have e2':h'.get? p=some o:=(sb.2 p hpn.2).trans e2;refine af (b7 ?_);refine af ?_;refine wpAny_tryCatch ?_;unfold Builtin.Dict.pairItems;refine af (nC (T:="tuple") ⟨o,e2',e3⟩ ?_);rw[if_pos (by decide)];refine af ?_;unfold seqItems?;refine af (wpAny_load e2' ?_);rw[e4];refine aj (aj ?_);show wpAny _ _ (holding [ku,v] (dictSet d ku v)) _ _ _;have hd':h'.DictOf (bq prog w) d (ps.take i):=hd.extBut sb.extBut hdi;refine b7 (wpAny_dictSet_pairs (s:={s with heap:=h'}) (hsz:=by rw[bb];omega) e5 hd' fun h2 hd2 sb2=>?_);have nk:k∉(ps.take i).map (·.1):=fun z=>by
   obtain⟨q,hq,e⟩:=aH.mp z;obtain⟨j,hj,ej⟩:=aT.mp hq;rw[bb]at hj;rw[gy]at ej;have a1:(ps.map (·.1))[j]'(by rw[ag];omega)=(ps.map (·.1))[i]'(by rw[ag];exact hlt):=by
    rw[bL,bL,ej,e];rw[ai hlt]at hx;rw[bh hx]
   have :=(cc nd).mp a1
   omega
  rw[stored_new nk,show ps.take i++[(k,v)]=ps.take (i+1) by rw[bM,hx];rfl]at hd2;have kp:∀b o,b≠d->b≠it->s.heap.get? b=some o->h2.get? b=some o:=fun b o hb hb2 e=>(sb2.2 b hb).trans ((sb.2 b hb2).trans e);refine aj ⟨gk fe _,?_⟩;refine sX (its:=its) (ps:=ps) hh hl nd hn hdi hli hld m (i+1) {s with heap:=h2,toks:=s.toks+1} _ (by omega) hlt (st'.at fun o e=>(sb2.2 it hdi.symm).trans e) (sl.at fun o e=>kp l o hld hli e) hd2 (fun j k' v' hj=>?_) hne fun h3 tk kp3 hd3=>hR h3 tk (fun b o hb hb2 e=>kp3 b o hb hb2 (kp b o hb hb2 e)) hd3;obtain⟨p',o',ku',n',f1,f2,f3,f4,f5⟩:=hp j k' v' hj;have hpn':=hne p' (aS f1);exact⟨p',o',ku',n',f1,kp p' o' hpn'.1 hpn'.2 f2,f3,f4,f5⟩
theorem rY{l:Addr}{its:List Value}{n0:Nat}{ps:List (Key×Value)}{Q:Value->Shared->Prop}(hh:A.handled=none)(hx:s.heap.get? l=some {cls:=.type "list",data:=.seq its.toArray n0}) (hl:its.length=ps.length) (nd:(ps.map (·.1)).Nodup) (hn:ps.length<=sizeLine) (hp:PrAt prog w s.heap its ps)
  (hQ:∀h' tk,(∀b o,s.heap.get? b=some o->h'.get? b=some o)->h'.DictOf (bq prog w) s.heap.objs.size ps->Q (.ref s.heap.objs.size) {s with heap:=h',toks:=tk}):
  wpAny (model prog w) A (call (.type "dict") [.ref l]) Q E s:=by
 refine callType_codes (Q₁:=fun obj s₁=>obj=.ref s.heap.objs.size/\s₁={s with heap:=s.heap.push {cls:=.type "dict",data:=.dict #[]}}) F.kt_called_dict (F.kt_typeCall_dict_1 _) F.entry_dict_init (kt_code_dict_new _ ⟨rfl,rfl⟩) ?_;rintro obj s₁ ⟨rfl,rfl⟩;have hnew:(s.heap.push {cls:=.type "dict",data:=.dict #[]}).DictOf (bq prog w) s.heap.objs.size []:=zO s.heap;have hx1:(s.heap.push {cls:=.type "dict",data:=.dict #[]}).get? l=some {cls:=.type "list",data:=.seq its.toArray n0}:=ae _ hx;refine⟨hnew.typeIs,F.args_dict_init_2 _ _,?_⟩;unfold Builtin.«dict.__init__»;refine af ?_;unfold Builtin.Dict.selfAndRest;refine af (wpAny_notOrdered_dict hnew.typeIs ?_);show wpAny _ _ (pure (s.heap.objs.size,[bI l])) _ _ _;refine aj ?_;show wpAny _ _ (rF "dict.__init__" s.heap.objs.size (.ref l) [] .none) _ _ _;unfold rF;refine af (nC (T:="list") ⟨_,hx1,rfl⟩ ?_);rw[if_pos (by decide)];refine af (AB hx1 hh fun h2 t2 kp=>?_);rw[if_pos (by rfl)];refine af (nE ?_);have hl2:h2.IsList l its.toArray:=⟨_,kp _ _ hx1,rfl,_,rfl⟩;refine af (gW (s:={s with heap:=h2,toks:=t2}) hl2 ?_);refine aj ⟨gk fe _,?_⟩;have lsz:l<s.heap.objs.size:=ax hx;have dsz:s.heap.objs.size<h2.objs.size:=ax (kp _ _ (aC (o:={cls:=.type "dict",data:=.dict #[]}) _ rfl));have kp1:∀b o,s.heap.get? b=some o->h2.get? b=some o:=fun b o e=>kp b o (ae _ e);obtain⟨od,es,ep,ho,rest⟩:=hnew;refine sX (A:=A.in1) (its:=its) (ps:=ps) hh hl nd hn (aE dsz) (aE (fq lsz dsz)) (aE lsz) ps.length 0 {s with heap:=h2.push {cls:=.type "list_iterator",data:=.fields #[.ref l,.int 0 0]},toks:=t2} 0 (lg _) (aM _) ⟨_,aC _ rfl,rfl,rfl⟩ (hl2.at fun o e=>ae _ e) ⟨od,es,ep,ae _ (kp _ _ ho),rest⟩ (fun j k v hj=>?_) (fun p hpm=>?_) fun h3 tk kp3 hd3=>⟨rfl,hQ h3 tk (fun b o e=>kp3 b o (aE (ax e)) (aE (fq (ax e) dsz)) (ae _ (kp1 b o e))) hd3⟩
 ·obtain⟨p',o',ku',n',f1,f2,f3,f4,f5⟩:=hp j k v hj
  exact⟨p',o',ku',n',f1,ae _ (kp1 _ _ f2),f3,f4,f5⟩
 ·obtain⟨j,hj,ej⟩:=aT.mp hpm
  obtain⟨⟨k,v⟩,hq⟩:∃q,ps[j]? =some q:=⟨ps[j]'(by omega),ai _⟩;obtain⟨p',o',ku',n',f1,f2,_⟩:=hp j k v hq;rw[ai hj,ej]at f1;cases f1;have :=ax f2;exact⟨aE this,aE (fq this dsz)⟩
end
section
variable {X:Cx}
theorem yo(hc:X.calm=true):eD X (.type "dict") (fun xs H Q=>∃a ys kvs,xs=[V.ref a]/\H a=some (.lst ys)/\Paired (fun y (kv:Key×V)=>∃p,y=V.ref p/\H p=some (.tup [kV kv.1,kv.2])) ys kvs/\(kvs.map (·.1)).Nodup/\∀l,H l=none->Q (.ref l) (upd H l (.dK kvs))):=by
 intro pins s σ H xs us Q I r h;obtain⟨a,ys,kvs,rfl,hq,hp,nd,q⟩:=h;obtain⟨u,rfl,ru⟩:=vals1 r;cases ru;obtain⟨hz,its,n,rv,_,e⟩:=I.qC hq;have key:∀{ys:List V}{kvs:List (Key×V)},Paired (fun y (kv:Key×V)=>∃p,y=V.ref p/\H p=some (.tup [kV kv.1,kv.2])) ys kvs->∀{its:List Value},bJ ys its->∃ps,KV kvs ps/\PrAt X.prog X.w s.heap its ps:=by
  intro ys kvs hp
  induction hp with
  |nil=>
   intro its rv;cases rv;exact⟨[],.nil,fun i k v z=>nomatch z⟩
  |cons r t ih=>
   intro its rv;obtain⟨p,rfl,hH⟩:=r;cases rv with
   |cons r1 rv=>
    cases r1;obtain⟨ps,a1,a2⟩:=ih rv;obtain⟨_,tv,r2,o,e1,e2,n,e3⟩:=I.hok p _ hH;obtain⟨u1,u2,rfl,s1,s2⟩:=r2.two;refine⟨(_,u2)::ps,.cons ⟨rfl,s2⟩ a1,fun i k v z=>?_⟩;cases i with
    |zero=>
     cases z;exact⟨p,o,u1,n,rfl,e1,e2,e3,jO s1⟩
    |succ i=>exact a2 i k v z
 obtain⟨ps,a1,a2⟩:=key hp rv;have l1:=rv.length;have l2:=hp.length;have l3:=a1.length;have hz2:kvs.length<=sizeLine:=by omega
 refine rY (ps:=ps) (n0:=n) (I.ok.hd hc) e (by omega) (by rw[<-a1.keys];exact nd) (by omega) a2 fun h' tk hk hd=>?_;exact⟨.ref _,_,I.laid (t':=tk) (o:=.dK kvs) hk (ar _) ⟨hz2,beq_eq_false_iff_ne.mpr (cz (aE I.big)),ps,a1,hd⟩,rfl,q _ (I.hok.fresh (ar _))⟩
end
section
variable {X:Cx}{pins:List (Addr×Obj)}{σ:St}{H:Hp}{s:Shared}{d:Addr}{kvs:List (Key×V)}{o:Obj}
theorem Inv.tM(I:Inv X pins σ H s)(h0:∀o u,X.H₀ d≠some (.frz o u))(e:H d=some (.frz o (.dK kvs))):Inv X pins σ (upd H d (.dK kvs)) s:=by
 have ne:∀b u,H b=some u->(∀o v,u≠.frz o v)->b≠d:=fun b u q z y=>by subst y;rw[e]at q;cases q;exact z _ _ rfl
 have hk:∀b u,b≠d->H b=some u->upd H d (.dK kvs) b=some u:=fun b u z q=>by rw[aI z];exact q
 have st:∀b u,cJ X.prog X.w H s.heap b u->cJ X.prog X.w (upd H d (.dK kvs)) s.heap b u:=fun b u q=>q.nP (fun _ _ _ q=>q) (fun c q=>hk c _ (ne c _ q fun _ _ z=>nomatch z) q) fun c xs q=>hk c _ (ne c _ q fun _ _ z=>nomatch z) q;have fr:∀b,H b=none->upd H d (.dK kvs) b=none:=fun b n=>by rw[aI (fun z=>by rw[z,e]at n;cases n)];exact n
 refine⟨I.ok,I.os,I.bare,⟨I.base.keep,I.base.slot,fun b u q n hx=>fr b (I.base.free b u q n hx),I.base.there,fun b xs q=>hk b _ (ne b _ (I.base.tups b xs q) fun _ _ z=>nomatch z) (I.base.tups b xs q),fun b ob u q=>hk b _ (fun z=>h0 ob u (by rw[<-z];exact q)) (I.base.frzs b ob u q),fun b ps q=>?_⟩,I.loc,I.cell,fr _ I.free,fun x c q=>fr c (I.freeC x c q),fun p hp=>?_,fun b u q=>?_,I.len⟩
 ·obtain⟨m,z⟩:=I.base.tbls b ps q
  exact⟨m,hk b _ (ne b _ z fun _ _ z=>nomatch z) z⟩
 ·obtain⟨p1,p2,p3⟩:=I.pin p hp
  exact⟨p1,fr _ p2,p3⟩
 ·by_cases hb:b=d
  ·subst hb
   rw[av]at q;cases q;obtain⟨_,z⟩:=(show s.heap.get? b=some o/\cJ X.prog X.w H s.heap b (.dK kvs)from I.hok b _ e);exact st b _ z
  ·rw[aI hb]at q
   exact st b u (I.hok b u q)
theorem Inv.warm(I:Inv X pins σ H s)(e:H d=some (.dK kvs)):∀o u,X.H₀ d≠some (.frz o u):=fun o u z=>by
 have :=I.base.frzs d o u z
 rw[e]at this;cases this
end
section
variable {X:Cx}{e:Expr}{st:Stmt}{t:TE}{ts:TS}
noncomputable def BL(t:TE):TE:=fun σ H Q=>∃d kvs,H d=some (.dK kvs)/\t σ H fun x H'=>∃o,H' d=some (.frz o (.dK kvs))/\Q x (upd H' d (.dK kvs))
theorem pe_thaw(h:PE X e t):PE X e (BL t):=by
 intro pins s σ H Q I hw;obtain⟨d,kvs,hd,hw⟩:=hw;refine thn (h pins s σ H _ I hw) fun v s1 ⟨x,H1,I1,r1,o,h1,q⟩=>?_;exact⟨x,_,I1.tM (I.warm hd) h1,r1,q⟩
noncomputable def Ci(t:TS):TS:=fun D σ H=>∃d kvs,H d=some (.dK kvs)/\t {D with nx:=fun σ' H'=>∃o,H' d=some (.frz o (.dK kvs))/\D.nx σ' (upd H' d (.dK kvs))} σ H
theorem ps_thaw(h:PS X st ts):PS X st (Ci ts):=by
 intro pins s σ H D I hw;obtain⟨d,kvs,hd,hw⟩:=hw;refine dm (h pins s σ H _ I hw) (fun f s1 z=>?_) fun _ _ z=>z;cases f with
 |next =>
  obtain⟨σ',H',I',o,h1,q⟩:=z;exact⟨σ',_,I'.tM (I.warm hd) h1,q⟩
 |_=>exact z
end
end L2
namespace Q
open PySem PySem.Spec PySem.W PyProof.Rows L2
theorem sO{P:Program}{w:World}:∀{ks:List Str}{kvs:List (Key×Value)}{l:List Value},kvs.map (·.1)=ks.map dg->l.length=kvs.length->(∀(i:Nat) v,l[i]? =some v->∃k x,kvs[i]? =some (k,x)/\(bq P w).is k v=true)->fT l ks
 | [],[],l,_,h,_=>by
  rw[iq h];exact .nil
 | [],_::_,_,e,_,_=>nomatch e
 |_::_,[],_,e,_,_=>nomatch e
 |k::ks,(k1,x1)::kvs,[],_,h,_=>nomatch h
 |k::ks,(k1,x1)::kvs,u::l,e,h,hq=>by
  obtain⟨e1,e2⟩:=List.cons.inj e;obtain⟨k',x,z,hk⟩:=hq 0 u rfl;cases z;cases e1;obtain⟨t,rfl⟩:=uz hk;exact .cons k t (sO e2 (hZ h) fun i v z=>hq (i+1) v z)
section
variable {prog:Program}{w:World}{A:Around}{E:Value->Shared->Prop}{s:Shared}
theorem tT{d:Addr}{kvs:List (Key×Value)}{ep:Nat}{ms:List Str}{Q:Value->Shared->Prop}(hh:A.handled=none)(lo:(d==cL)=false)(hm:s.heap.DictAt (bq prog w) d kvs ep)(hk:kvs.map (·.1)=ms.map dg)(nd:ms.Nodup)(h64:ms.length<64)
  (h:∀(vs:List Value)(h1:Heap)(tk:Nat)(s':Shared)(l:Addr)(c:Nat),fT vs ms->(∀b o,s.heap.get? b=some o->h1.get? b=some o)->(∀b o,h1.get? b=some o->s'.heap.get? b=some o)->s'.gens=s.gens->s'.os=s.os->h1.objs.size<=l->s'.heap.get? l=some (seqObj "list" (iu (jC ms) vs).toArray c)->Q (.ref l) s'):
  wpAny (model prog w) A (call (.builtin "sorted") [.ref d]) Q E s:=by
 have hlk:kvs.length=ms.length:=by
  have :=congrArg jK hk
  simpa using this
 refine ju kind_sorted plain_sorted entry_sorted (args_sorted1 _) ?_;unfold Builtin.«sorted»;refine af (m:=checkCount "sorted" 1 1 _) (aj (af (kdu_collect (kdl_dict lo) (by simp[hh]) hm (aU (by omega:kvs.length<=64) (by decide)) fun h1 tk acc kp hacc=>af (rG ?_ ?_))))
 ·have m2:fT acc.toList ms:=sO hk (by rw[bR];exact hacc.1) fun i v e=>hacc.2 i v (by rw[<-gI];exact e)
  have hl:acc.toList.length=ms.length:=kg m2;have hv:acc.toList.length<64:=by omega
  have hg:(h1.push (seqObj "list" acc.toList.toArray 0)).get? h1.objs.size=some (seqObj "list" acc.toList.toArray 0):=aC _ rfl;show wpAny _ _ _ _ _ {s with heap:=h1.push (seqObj "list" acc.toList.toArray 0),toks:=tk};refine af (b7 (eI A6 ⟨_,hg,rfl⟩ yy (tU (lt:=jC ms) (h0:=h1) (by rw[hl];exact lY nd) hg (fun b o e=>⟨ae _ e,aE (ax e)⟩) hv (fun h2=>oj m2 h2) ⟨_,rfl,?_⟩) (A9 _)));refine aj ⟨_,rfl,?_⟩;obtain⟨c,hc'⟩:=sortedHeap_at (out:=(iu (jC ms) acc.toList).toArray) hg;refine h acc.toList h1 tk _ _ c m2 kp (fun b o e'=>?_) rfl rfl (ar _) hc';have hb:=ax e';show(A5 (h1.push (seqObj "list" acc.toList.toArray 0)) h1.objs.size acc.toList (iu (jC ms) acc.toList).toArray).get? b=some o;rw[sortedHeap_old (aE hb) (by rw[size_push'];exact bG hb)];exact ae _ e'
 ·rw[bR,hacc.1]
  exact aU (by omega:kvs.length<=64) (by decide)
end
end Q
namespace L2
open PySem PySem.Spec PyProof.Rows Q
section
variable {X:Cx}
theorem y0{kvs:List (Key×V)}{vs:List (Key×Value)}(r:KV kvs vs):vs.map (·.1)=kvs.map (·.1):=r.keys.symm
theorem ym(hc:X.calm=true):eD X (.builtin "sorted") (fun xs H Q=>∃a kvs ks,xs=[V.ref a]/\Rd H a (.dK kvs)/\kvs.map (·.1)=ks.map dg/\ks.Nodup/\ks.length<64/\∀l,H l=none->Q (.ref l) (upd H l (.lst (fN ks)))):=by
 intro pins s σ H xs us Q I r h;obtain⟨a,kvs,ks,rfl,ha,hk,nd,h64,q⟩:=h;obtain⟨u,rfl,ru⟩:=vals1 r;cases ru;obtain⟨hz,lo,vs,rv,dd⟩:=iQ I.hok ha;obtain⟨ep,hm⟩:=dd.dictAt;refine tT (I.ok.hd hc) lo hm (by rw[y0 rv,hk]) nd h64 fun us h1 tk s' l c hv kp kk k2 k3 hle k5=>?_;have I1:Inv X pins σ H {s with heap:=h1,toks:=tk}:=I.kept kp;have hz2:(fN ks).length<=sizeLine:=by
  unfold fN sortBy;rw[ag,uh _ nd];exact iM (by omega)
 exact⟨.ref l,_,(I1.laid (h':=s'.heap) (t':=tk) kk hle (show cJ X.prog X.w _ _ _ (.lst (fN ks))from⟨hz2,_,c,qo nd (by rw[ag]) (nM hv),k5⟩)).same rfl k2 k3,rfl,q _ (I1.hok.fresh hle)⟩
noncomputable def rNeK:R2:=fun x y H Q=>∃a b kvs,x=.ref a/\y=.ref b/\Rd H a (.dK kvs)/\Rd H b (.dK kvs)/\(∀p∈kvs,∃i,p.2=V.int i)/\Q (.bl false) H
theorem vj{k:Key}{v:V}:∀{l:List (Key×V)},(l.map (·.1)).Nodup->(k,v)∈l->eL l k=some v
 | [],_,h=>nomatch h
 |p::l,nd,h=>by
  rw[aN,cb]at nd;rcases aK.mp h with z|z
  ·rw[dZ (by rw[<-z]),<-z]
  ·rw[d4 fun y=>nd.1 (y▸bS (f:=(·.1)) z)]
   exact vj nd.2 z
theorem zf{A:Around}{s:Shared}{kvs0:List (Key×V)}{kb:List (Key×Value)}(r0:KV kvs0 kb)(nd:(kvs0.map (·.1)).Nodup):∀{kvs:List (Key×V)}{ka:List (Key×Value)},KV kvs ka->(∀p∈kvs,p∈kvs0/\∃i,p.2=V.int i)->PySem.W.KeqHits A s kb ka true
 |_,_,.nil,_=>.nil
 | (k,v)::kvs,(k',u)::ka,.cons r t,h=>by
  obtain⟨e,ru⟩:=r;cases e;obtain⟨h1,i,h2⟩:=h _ au;cases h2;obtain⟨t1,rfl⟩:=ru;have hv:eL kvs0 k=some (.int i):=by
   exact vj nd h1
  have rk:=r0.val k;rw[hv]at rk;obtain⟨w',hw,t2,rfl⟩:=k7.some_of rk;have :=PySem.W.KeqHits.hit hw (xf (A:=A) (s:=s) i t1 i t2) (zf r0 nd t fun p hp=>h p (aF _ hp));simpa using this
theorem Dt(hu:X.A.units+1<cLine):OpR X (ck .NotEq) rNeK:=by
 intro pins s σ H x y v u Q I rx ry h;obtain⟨a,b,kvs,rfl,rfl,ha,hb,hi,q⟩:=h;cases rx;cases ry;obtain⟨hz,lo,vs,rv,dd⟩:=iQ I.hok ha;obtain⟨_,lo',vs',rv',dd'⟩:=iQ I.hok hb;have nd:(kvs.map (·.1)).Nodup:=by
  obtain⟨o,es,ep,ho,hc,hd,he,his,hn⟩:=dd;rw[<-y0 rv];exact hn
 refine PySem.W.keq_ne lo lo' dd dd' (by omega) (fun _=>zf rv' nd rv fun p hp=>⟨hp,hi p hp⟩) ?_;rw[<-rv.length,<-rv'.length,beq_self_eq_true];exact n9 I q rfl
noncomputable def rClrK:V->List V->Hp->VK->Prop:=fun x vs H Q=>∃d kvs,x=.ref d/\vs=[]/\H d=some (.dK kvs)/\Q .non (upd H d (.dK []))
theorem mt_clrK:MtR X "dict.clear" rClrK:=by
 intro pins s σ H x xs v us Q I rx rv h;obtain⟨d,kvs,rfl,rfl,e,q⟩:=h;cases rx;cases rv;obtain⟨z,hd,vs,rel,dd⟩:=wk I.hok e;refine hE u6 dd.typeIs PySem.F.entry_dict_clear (PySem.F.args_dict_clear_1 _) (meets_dict_clear (knd:=bq X.prog X.w) (d:=d)) ⟨vs,dd,by rw[<-rel.length];exact z,fun h' dd' hs=>?_⟩;have he:∃q,h'.get? d=some q:=let⟨q,_,_,hq,_⟩:=dd';⟨q,hq⟩;exact⟨.non,_,mZ I (t':=s.toks) (by rw[e];exact True.intro) hs he (uB (aM _) hd .nil dd'),rfl,q⟩
noncomputable def CF:V->List V->Hp->VK->Prop:=fun x xs H Q=>∃a kvs k v,x=.ref a/\xs=[kV k,v]/\H a=some (.dK kvs)/\kvs.length<sizeLine/\
 (∀z,eL kvs k=some z->Q z H)/\(eL kvs k=none->Q v (upd H a (.dK (putK kvs k v))))
theorem mt_setK:MtR X "dict.setdefault" CF:=by
 intro pins s σ H x xs v us Q I rx rv h;obtain⟨a,kvs,k,y,rfl,rfl,e,hl,q1,q2⟩:=h;cases rx;obtain⟨u,w',rfl,r1,r2⟩:=vals2 rv;obtain⟨z,hd,vs,rel,dd⟩:=wk I.hok e;have rk:=rel.val k;have hl':(putK kvs k y).length<=sizeLine:=by have :=fA kvs k y;omega
 refine hE rB dd.typeIs PySem.F.entry_dict_setdefault (PySem.F.args_dict_setdefault_3 _ _ _) (kt_meets_setdefault (bq X.prog X.w) a (jO r1) hd w') ⟨vs,dd,by rw[<-rel.length];exact z,fun u' hu'=>?_,fun hn h' dd' hs=>?_⟩
 ·rw[hu']at rk
  cases hv:eL kvs k with
  |none=>rw[hv]at rk;exact absurd rk (by intro z;cases z)
  |some x=>
   rw[hv]at rk;obtain⟨w1,hw,rw'⟩:=k7.some_of rk;cases hw;exact⟨x,H,I.tok _,rw',q1 x hv⟩
 ·rw[hn]at rk
  have hv:eL kvs k=none:=by
   cases hv:eL kvs k with
   |none=>rfl
   |some x=>rw[hv]at rk;exact absurd rk (by intro z;cases z)
  have he:∃q,h'.get? a=some q:=let⟨q,_,_,hq,_⟩:=dd';⟨q,hq⟩;exact⟨y,_,mZ I (by rw[e];exact True.intro) hs he (uB hl' hd (rel.put k r2) dd'),r2,q2 hv⟩
end
end L2
set_option genInjectivity false
set_option genSizeOf false
namespace R
open PySem PySem.Spec PyProof.Rows L2
inductive Bf where
 |len|isinstance|all|list|tuple|sorted|min|max|int|lenk|listk|dictl|dictc|sortk
 deriving DecidableEq
noncomputable def Bf.name:Bf->Str
 |.len=>"len" |.isinstance=>"isinstance" |.all=>"all" |.list=>"list" |.tuple=>"tuple" |.sorted=>"sorted" |.min=>"min" |.max=>"max" |.int=>"int" |.lenk=>"len" |.listk=>"list" |.dictl=>"dict" |.dictc=>"dict" |.sortk=>"sorted"
noncomputable def Bf.val:Bf->Value
 |.len=>.builtin "len" |.isinstance=>.builtin "isinstance" |.all=>.builtin "all" |.list=>.type "list" |.tuple=>.type "tuple" |.sorted=>.builtin "sorted" |.min=>.builtin "min" |.max=>.builtin "max" |.int=>.type "int" |.lenk=>.builtin "len" |.listk=>.type "list" |.dictl=>.type "dict" |.dictc=>.type "dict" |.sortk=>.builtin "sorted"
theorem Bf.boot:∀b:Bf,dc b.name=some b.val
 |.len=>PySem.boot_len|.isinstance=>boot_isinstance|.all=>boot_all|.list=>fB|.tuple=>rC
 |.sorted=>by decide+kernel|.min=>by decide+kernel|.max=>by decide+kernel|.int=>se|.lenk=>PySem.boot_len|.listk=>fB|.dictl=>je|.dictc=>je|.sortk=>by decide+kernel
theorem Bf.plain:∀b:Bf,b.name≠"__name__"/\(b.name==("__debug__":Str))=false:=by
 intro b;cases b<;>exact⟨by decide+kernel,by decide+kernel⟩
inductive Ty where
 |int|bool|str|list|tuple|dict|valueError
 deriving DecidableEq
noncomputable def Ty.name:Ty->Str
 |.int=>"int" |.bool=>"bool" |.str=>"str" |.list=>"list" |.tuple=>"tuple" |.dict=>"dict" |.valueError=>"ValueError"
noncomputable def Ty.t:Ty->String
 |.int=>"int" |.bool=>"bool" |.str=>"str" |.list=>"list" |.tuple=>"tuple" |.dict=>"dict" |.valueError=>"ValueError"
theorem Ty.boot:∀b:Ty,dc b.name=some (.type b.t)
 |.int=>se|.bool=>PyProof.Rows.boot_bool|.str=>PyProof.Rows.boot_str|.list=>fB|.tuple=>rC|.dict=>je|.valueError=>by decide+kernel
theorem Ty.plain:∀b:Ty,b.name≠"__name__"/\(b.name==("__debug__":Str))=false:=by
 intro b;cases b<;>exact⟨by decide+kernel,by decide+kernel⟩
noncomputable def jy(K:aa):Operator->R2
 |.Add=>fun x y H Q=>(rI0 fun i j=>.int (i+j)) x y H Q\/(∃i j,x=.str i/\y=.str j/\i.length+j.length<=sizeLine/\Q (.str (i++j)) H)\/rCat x y H Q\/yM K x y H Q\/yN K x y H Q
 |.Sub=>rI0 fun i j=>.int (i-j)
 |.Mult=>fun x y H Q=>(rI yw fun i j=>.int (i*j)) x y H Q\/rRep x y H Q\/CH x y H Q
 |.Mod=>rI (fun _ j=>0<j) fun i j=>.int (i%j)
 |.FloorDiv=>rI CDiv fun i j=>.int (i/j)
 |.Pow=>rI Ex fun i j=>.int (i^j.toNat)
 |.RShift=>rI (fun _ j=>0<=j) fun i j=>.int (i/2^j.toNat)
 |.LShift=>rI Ex fun i j=>.int (i*2^j.toNat)
 |.BitAnd=>rI0 fun i j=>.int (Builtin.bitAnd i j)
 |.BitXor=>rI0 fun i j=>.int (Builtin.bitXor i j)
 |_=>fun _ _ _ _=>False
noncomputable def gJ(K:aa):CmpOp->R2
 |.Eq=>rEqD K
 |.NotEq=>rNeD K
 |.Lt=>rI0 fun i j=>.bl (decide (i<j))
 |.LtE=>rI0 fun i j=>.bl (decide (i<=j))
 |.Gt=>rI0 fun i j=>.bl (decide (j<i))
 |.GtE=>rI0 fun i j=>.bl (decide (j<=i))
 |.Is=>fun x y H Q=>y=.non/\Q (.bl (decide (x=.non))) H
 |.IsNot=>fun x y H Q=>y=.non/\Q (.bl (!decide (x=.non))) H
 |.In=>fun x y H Q=>((∃i j,x=.str i/\y=.str j/\Q (.bl (!(fm j i 0 j.length 1).isEmpty)) H))\/rIn K false x y H Q
 |.NotIn=>fun x y H Q=>((∃i j,x=.str i/\y=.str j/\Q (.bl (!(!(fm j i 0 j.length 1).isEmpty))) H))\/rIn K true x y H Q
noncomputable def rUn(K:aa):UnaryOp->V->Hp->VK->Prop
 |.USub=>rU fun i=>.int (-i)
 |_=>fun _ _ _=>False
noncomputable def rSlc(K:aa):V->Option Int->Option Int->Hp->VK->Prop:=fun x lo hi H Q=>rSlL K x lo hi H Q\/rSlS x lo hi H Q
noncomputable def rBf(K:aa):Bf->List V->Hp->VK->Prop
 |.len=>fun xs H Q=>(∃p ys,xs=[.ref p]/\(SqL K H p ys\/SqT K H p ys)/\Q (.int ys.length) H)\/(∃z:Str,xs=[.str z]/\z.length<=sizeLine/\Q (.int z.length) H)
 |.isinstance=>fun xs H Q=>(∃x T t b,xs=[x,.ty T]/\j6 K H x t/\fY K t (.type T)=some b/\Q (.bl b) H)\/(∃x C t b,xs=[x,.ref C]/\j6 K H x t/\fY K t (.ref C)=some b/\Q (.bl b) H)
 |.all=>fun xs H Q=>∃(p:Addr)(bs:List Bool),xs=[.ref p]/\SqL K H p (bs.map V.bl)/\Q (.bl (bs.all id)) H
 |.list=>fun xs H Q=>∃p ys,xs=[.ref p]/\(SqL K H p ys\/SqT K H p ys)/\∀l,H l=none->Q (.ref l) (upd H l (.lst ys))
 |.tuple=>fun xs H Q=>∃p ys,xs=[.ref p]/\((SqL K H p ys/\∀l,H l=none->Q (.ref l) (upd H l (.tup ys)))\/(SqT K H p ys/\Q (.ref p) H))
 |.sorted=>Q.rSort K
 |.min=>fun xs H Q=>∃i j,xs=[.int i,.int j]/\Q (.int (if j<i then j else i)) H
 |.max=>fun xs H Q=>∃i j,xs=[.int i,.int j]/\Q (.int (if j>i then j else i)) H
 |.int=>fun xs H Q=>(∃i,xs=[.int i]/\Q (.int i) H)\/∃k,xs=[.bl k]/\Q (.int (if k then 1 else 0)) H
 |.lenk=>fun xs H Q=>∃a kvs,xs=[V.ref a]/\Rd H a (.dK kvs)/\Q (.int kvs.length) H
 |.listk=>fun xs H Q=>∃a kvs,xs=[V.ref a]/\Rd H a (.dK kvs)/\∀l,H l=none->Q (.ref l) (upd H l (.lst (kvs.map fun kv=>kV kv.1)))
 |.dictl=>fun xs H Q=>∃a ys kvs,xs=[V.ref a]/\H a=some (.lst ys)/\Paired (fun y (kv:Key×V)=>∃p,y=V.ref p/\H p=some (.tup [kV kv.1,kv.2])) ys kvs/\(kvs.map (·.1)).Nodup/\∀l,H l=none->Q (.ref l) (upd H l (.dK kvs))
 |.dictc=>fun xs H Q=>∃a kvs,xs=[V.ref a]/\Rd H a (.dK kvs)/\∀l,H l=none->Q (.ref l) (upd H l (.dK kvs))
 |.sortk=>fun xs H Q=>∃a kvs ks,xs=[V.ref a]/\Rd H a (.dK kvs)/\kvs.map (·.1)=ks.map dg/\ks.Nodup/\ks.length<64/\∀l,H l=none->Q (.ref l) (upd H l (.lst (fN ks)))
inductive Mm where
 |append|clear|reverse|pop|index|extend
 deriving DecidableEq
noncomputable def Mm.name:Mm->Str
 |.append=>"append" |.clear=>"clear" |.reverse=>"reverse" |.pop=>"pop" |.index=>"index" |.extend=>"extend"
noncomputable def Mm.id:Mm->String
 |.append=>"list.append" |.clear=>"list.clear" |.reverse=>"list.reverse" |.pop=>"list.pop" |.index=>"list.index" |.extend=>"list.extend"
noncomputable def rMm:Mm->V->List V->Hp->VK->Prop
 |.append=>yO
 |.clear=>CM
 |.reverse=>vC
 |.pop=>fun x xs H Q=>rPop x xs H Q\/CJ x xs H Q
 |.index=>fun _ _ _ _=>False
 |.extend=>yL
noncomputable def baseOk:Expr->Bool
 |.Name .. =>true|.Subscript .. =>true
 |.Call f _ _ _=>match f with
  |.Attribute .. =>true
  |_=>false
 |_=>false
inductive X2 where
 |idxk|ink|nink|getk|nek
 deriving DecidableEq
noncomputable def X2.t:X2->TE->TE->TE
 |.idxk=>BV
 |.ink=>tDIn
 |.nink=>pO
 |.getk=>xv
 |.nek=>tOp rNeK
noncomputable def X2.tt:X2->TE->TE->TT
 |.ink=>fun a b=>ow (tDIn a b)
 |.nink=>fun a b=>ow (pO a b)
 |.nek=>fun a b=>ow (tOp rNeK a b)
 |_=>fun _ _ _ _ _=>False
mutual
inductive CE where
 |var (i:Nat)
 |con (c:Const)
 |glo (x:Str)
 |ty (t:Ty)
 |bin (op:Operator) (a b:CE)
 |un (op:UnaryOp) (a:CE)
 |cmp (op:CmpOp) (a b:CE)
 |chain (op op':CmpOp) (a b c:CE)
 |not (a:CE)
 |and (a b:CE)
 |or (a b:CE)
 |ite (c a b:CE)
 |idx (a i:CE)
 |cut (a:CE) (lo hi:CO)
 |tup (es:CL)
 |lst (es:CL)
 |dic (ps:CP)
 |call (f:Str) (es:CL)
 |bfn (b:Bf) (es:CL)
 |meth0 (m:Mm) (o:CE)
 |meth1 (m:Mm) (o a:CE)
 |dicT
 |divb (a b:CE)
 |clrk (o:CE)
 |rev (a:CE)
 |sset (a:CE)
 |lrev (a:CE)
 |x2 (k:X2) (a b:CE)
 |get2 (o a b:CE)
 |setk (o a b:CE)
 |tM (a:CE)
 |comp (own:List Str) (fr:List Nat) (tg:CG) (it:CI) (cond:CO) (elt:CE)
inductive CL where
 |nil
 |cons (e:CE) (es:CL)
inductive CP where
 |nil
 |cons (k v:CE) (r:CP)
inductive CO where
 |no
 |yes (e:CE)
inductive CG where
 |name (i:Nat)
 |tup (gs:CGs)
 |ltup (gs:CGs)
 |sub (o i:CE)
inductive CGs where
 |nil
 |cons (g:CG) (gs:CGs)
inductive CI where
 |seq (e:CE)
 |lseq (e:CE)
 |tseq (e:CE)
 |range1 (e:CE)
 |range2 (a b:CE)
 |zip (a b:CE)
 |dkeys (e:CE)
 |ditems (e:CE)
 |lrevd (e:CE)
end
noncomputable def CL.len:CL->Nat
 |.nil=>0
 |.cons _ r=>r.len+1
noncomputable def CGs.len:CGs->Nat
 |.nil=>0
 |.cons _ r=>r.len+1
mutual
inductive CS where
 |asg (g:CG) (e:CE)
 |asgc (i:Nat) (e:CE)
 |expr (e:CE)
 |iff (c:CE) (a b:CB)
 |whl (c:CE) (b:CB)
 |forr (g:CG) (it:CI) (b:CB)
 |ret (e:CE)
 |retN
 |pass|brk|cont
 |rais (x:Str) (es:CL)
 |putk (o i e:CE)
 |thawS (s:CS)
inductive CB where
 |nil
 |hole
 |cons (s:CS) (r:CB)
end
noncomputable def DM(sc:Scope)(x:Str):Bool:=sc.names.lookup x==some .local||sc.names.lookup x==some .cell||sc.names.lookup x==some .free
noncomputable def me(sc:Scope)(x:Str):Bool:=sc.names.lookup x==some .globalImplicit
noncomputable def sD(x:Str):Bool:=(x==("__debug__":Str))==false&&(x==("__classdict__":Str))==false
noncomputable def okCon:Const->Bool
 |.none=>true|.bool _=>true|.int _=>true|.str _=>true|_=>false
noncomputable def cv:Const->V
 |.none=>.non|.bool b=>.bl b|.int i=>.int i|.str x=>.str x|_=>.non
noncomputable def namesOf(N own:List Str)(fr:List Nat):List Str:=own++fr.map fun j=>N.getD j ""
noncomputable def jw(own:List Str)(fr:List Nat)(σ:L2.St):L2.St:=own.map (fun _=>none)++fr.map fun j=>(σ[j]?).getD none
noncomputable def jD:Expr->Bool
 |.Slice .. =>true
 |_=>false
noncomputable def isSet:Expr->Bool
 |.Set .. =>true
 |_=>false
noncomputable def nZ:Expr->Bool
 |.ListComp .. =>true|.SetComp .. =>true|.DictComp .. =>true
 |_=>false
noncomputable def kq:Expr->Bool
 |.Tuple .. =>true
 |_=>false
noncomputable def uk(sc sc':Scope)(N own:List Str)(fr:List Nat):Bool:=
 decide (sc'.kind=.function)&&sc'.names.all (fun y=>decide (y.2=.cell->sc'.names.lookup y.1=some .cell))&&sc'.names.all (fun y=>decide (y.2=.local->sc'.names.lookup y.1=some .local))&&
 sc'.names.all (fun y=>decide (y.2=.free->sc.names.lookup y.1=some .cell\/sc.names.lookup y.1=some .free))&&decide ((namesOf N own fr).Nodup)&&
 fr.all (fun j=>decide (j<N.length)&&sc'.names.lookup (N.getD j "")==some .free)&&own.all (fun x=>sc'.names.lookup x==some .local||sc'.names.lookup x==some .cell)
theorem cR{P:Prop}(h:false=true):P:=(bp h).elim
theorem an{a b:Bool}(h:(a&&b)=true):a=true/\b=true:=by rwa [aP]at h
theorem nX{a:Bool}(h:(!a)=true):a=false:=by simpa using h
theorem fQ{a b c:Bool}(h:(a&&b&&c)=true):a=true/\b=true/\c=true:=let⟨h,z⟩:=an h;let⟨x,y⟩:=an h;⟨x,y,z⟩
theorem kZ{a b c d:Bool}(h:(a&&b&&c&&d)=true):a=true/\b=true/\c=true/\d=true:=let⟨h,z⟩:=an h;let⟨x,y,w⟩:=fQ h;⟨x,y,w,z⟩
theorem and5{a b c d e:Bool}(h:(a&&b&&c&&d&&e)=true):a=true/\b=true/\c=true/\d=true/\e=true:=let⟨h,z⟩:=an h;let⟨x,y,w,v⟩:=kZ h;⟨x,y,w,v,z⟩
section
variable {e:Expr}{s:Stmt}
noncomputable def l1{α:Type}(l:List α)(f:α->Bool):Bool:=match l with
 |a::r=>r.isEmpty&&f a
 | []=>false
theorem iP{α:Type}{l:List α}{f:α->Bool}(h:l1 l f=true):∃a,l=[a]/\f a=true:=by
 cases l with
 |nil=>exact cR h
 |cons a r=>
  obtain⟨h1,h⟩:=an h;cases r with
  |nil=>exact⟨a,rfl,h⟩
  |cons=>exact cR h1
noncomputable def l2{α:Type}(l:List α)(f:α->α->Bool):Bool:=match l with
 |a::r=>l1 r (f a)
 | []=>false
theorem oK{α:Type}{l:List α}{f:α->α->Bool}(h:l2 l f=true):∃a b,l=[a,b]/\f a b=true:=by
 cases l with
 |nil=>exact cR h
 |cons a r=>
  obtain⟨b,rfl,h⟩:=iP h;exact⟨a,b,rfl,h⟩
noncomputable def dNm(e:Expr)(f:Str->Pos->Bool):Bool:=match e with
 |.Name x p=>f x p
 |_=>false
theorem jE{f}(h:dNm e f=true):∃x p,e=.Name x p/\f x p=true:=by cases e<;>first |exact⟨_,_,rfl,h⟩ |exact cR h
noncomputable def dCn(e:Expr)(f:Const->Bool):Bool:=match e with
 |.Constant c _ _=>f c
 |_=>false
theorem yf{f}(h:dCn e f=true):∃c j p,e=.Constant c j p/\f c=true:=by cases e<;>first |exact⟨_,_,_,rfl,h⟩ |exact cR h
noncomputable def dBi(e:Expr)(f:Expr->Operator->Expr->Bool):Bool:=match e with
 |.BinOp a op b _=>f a op b
 |_=>false
theorem Ed{f}(h:dBi e f=true):∃a op b p,e=.BinOp a op b p/\f a op b=true:=by cases e<;>first |exact⟨_,_,_,_,rfl,h⟩ |exact cR h
noncomputable def dUn(e:Expr)(f:UnaryOp->Expr->Bool):Bool:=match e with
 |.UnaryOp op a _=>f op a
 |_=>false
theorem uD{f}(h:dUn e f=true):∃op a p,e=.UnaryOp op a p/\f op a=true:=by cases e<;>first |exact⟨_,_,_,rfl,h⟩ |exact cR h
noncomputable def dCm(e:Expr)(f:Expr->List CmpOp->List Expr->Bool):Bool:=match e with
 |.Compare a os es _=>f a os es
 |_=>false
theorem yg{f}(h:dCm e f=true):∃a os es p,e=.Compare a os es p/\f a os es=true:=by cases e<;>first |exact⟨_,_,_,_,rfl,h⟩ |exact cR h
noncomputable def dC1(e:Expr)(f:Expr->CmpOp->Expr->Bool):Bool:=dCm e fun a os es=>l1 os fun op=>l1 es fun b=> !isSet b&&f a op b
theorem kB{f}(h:dC1 e f=true):∃a op b p,e=.Compare a [op] [b] p/\isSet b=false/\f a op b=true:=by
 obtain⟨a,os,es,p,rfl,k⟩:=yg h;obtain⟨op,rfl,l⟩:=iP k;obtain⟨b,rfl,m⟩:=iP l;obtain⟨h1,n⟩:=an m;exact⟨a,op,b,p,rfl,nX h1,n⟩
noncomputable def dBo(e:Expr)(f:BoolOp->Expr->Expr->Bool):Bool:=match e with
 |.BoolOp op es p=>match es with
  |a::r=>match r with
   |b::r=>match r with
    | []=>f op a b
    |c::r=>f op a (.BoolOp op (b::c::r) p)
   | []=>false
  | []=>false
 |_=>false
theorem og{f}(h:dBo e f=true):∃op a x p,f op a x=true/\(e=.BoolOp op [a,x] p\/∃b c r,x=.BoolOp op (b::c::r) p/\e=.BoolOp op (a::b::c::r) p):=by
 cases e<;>first |exact cR h|skip
 rename_i op es p;cases es with
 |nil=>exact cR h
 |cons a r=>cases r with
  |nil=>exact cR h
  |cons b r=>cases r with
   |nil=>exact⟨op,a,b,p,h,.inl rfl⟩
   |cons c r=>exact⟨op,a,_,p,h,.inr ⟨b,c,r,rfl,rfl⟩⟩
noncomputable def dIf(e:Expr)(f:Expr->Expr->Expr->Bool):Bool:=match e with
 |.IfExp c a b _=>f c a b
 |_=>false
theorem dIf_of{f}(h:dIf e f=true):∃c a b p,e=.IfExp c a b p/\f c a b=true:=by cases e<;>first |exact⟨_,_,_,_,rfl,h⟩ |exact cR h
noncomputable def dSu(e:Expr)(f:Expr->Expr->Bool):Bool:=match e with
 |.Subscript a i _=>f a i
 |_=>false
theorem mi{f}(h:dSu e f=true):∃a i p,e=.Subscript a i p/\f a i=true:=by cases e<;>first |exact⟨_,_,_,rfl,h⟩ |exact cR h
noncomputable def dSl(e:Expr)(f:Option Expr->Option Expr->Option Expr->Bool):Bool:=match e with
 |.Slice a b c _=>f a b c
 |_=>false
theorem D7{f}(h:dSl e f=true):∃a b c p,e=.Slice a b c p/\f a b c=true:=by cases e<;>first |exact⟨_,_,_,_,rfl,h⟩ |exact cR h
noncomputable def dTu(e:Expr)(f:List Expr->Bool):Bool:=match e with
 |.Tuple es _ _=>f es
 |_=>false
theorem yd{f}(h:dTu e f=true):∃es k p,e=.Tuple es k p/\f es=true:=by cases e<;>first |exact⟨_,_,_,rfl,h⟩ |exact cR h
noncomputable def dLi(e:Expr)(f:List Expr->Bool):Bool:=match e with
 |.List es _=>f es
 |_=>false
theorem dLi_of{f}(h:dLi e f=true):∃es p,e=.List es p/\f es=true:=by cases e<;>first |exact⟨_,_,rfl,h⟩ |exact cR h
noncomputable def dDi(e:Expr)(f:List (Option Expr)->List Expr->Bool):Bool:=match e with
 |.Dict ks vs _=>f ks vs
 |_=>false
theorem Eb{f}(h:dDi e f=true):∃ks vs p,e=.Dict ks vs p/\f ks vs=true:=by cases e<;>first |exact⟨_,_,_,rfl,h⟩ |exact cR h
noncomputable def dCa(e:Expr)(f:Expr->List Expr->Pos->Bool):Bool:=match e with
 |.Call g es ks p=>ks.isEmpty&&f g es p
 |_=>false
theorem Ec{f}(h:dCa e f=true):∃g es p,e=.Call g es [] p/\f g es p=true:=by
 cases e<;>first |exact cR h|skip
 rename_i g es ks p;obtain⟨h1,h⟩:=an h;cases ks with
 |nil=>exact⟨g,es,p,rfl,h⟩
 |cons=>exact cR h1
noncomputable def dFn(e:Expr)(f:Str->List Expr->Bool):Bool:=dCa e fun g es _=>dNm g fun x _=>f x es
theorem iA{f}(h:dFn e f=true):∃x np es p,e=.Call (.Name x np) es [] p/\f x es=true:=by
 obtain⟨g,es,p,rfl,k⟩:=Ec h;obtain⟨x,np,rfl,l⟩:=jE k;exact⟨x,np,es,p,rfl,l⟩
noncomputable def dAt(e:Expr)(f:Expr->Str->Pos->Bool):Bool:=match e with
 |.Attribute a x p=>f a x p
 |_=>false
theorem dAt_of{f}(h:dAt e f=true):∃a x p,e=.Attribute a x p/\f a x p=true:=by cases e<;>first |exact⟨_,_,_,rfl,h⟩ |exact cR h
noncomputable def dMt(m:Str)(e:Expr)(f:Expr->List Expr->Bool):Bool:=dCa e fun g es cp=>dAt g fun o m' ap=>decide (m=m')&&(ap.endLine==cp.line)&&f o es
theorem mj{m:Str}{f}(h:dMt m e f=true):∃o ap es cp,e=.Call (.Attribute o m ap) es [] cp/\(ap.endLine==cp.line)=true/\f o es=true:=by
 obtain⟨g,es,cp,rfl,k⟩:=Ec h;obtain⟨o,m',ap,rfl,l⟩:=dAt_of k;obtain⟨h1,h2,n⟩:=fQ l;cases of_decide_eq_true h1;exact⟨o,ap,es,cp,rfl,h2,n⟩
noncomputable def dLc(e:Expr)(f:Expr->List Comprehension->Scope->Pos->Bool):Bool:=match e with
 |.ListComp a gs sc p=>f a gs sc p
 |_=>false
theorem ye{f}(h:dLc e f=true):∃a gs sc p,e=.ListComp a gs sc p/\f a gs sc p=true:=by cases e<;>first |exact⟨_,_,_,_,rfl,h⟩ |exact cR h
noncomputable def dJs(e:Expr)(f:List Expr->Bool):Bool:=match e with
 |.JoinedStr es _=>f es
 |_=>false
noncomputable def dFv(e:Expr)(f:Expr->Int->Option Expr->Bool):Bool:=match e with
 |.FormattedValue a c s _=>f a c s
 |_=>false
noncomputable def dAs(s:Stmt)(f:Expr->Expr->Pos->Bool):Bool:=match s with
 |.Assign ts e p=>l1 ts fun g=>f g e p
 |_=>false
theorem yh{f}(h:dAs s f=true):∃g e p,s=.Assign [g] e p/\f g e p=true:=by
 cases s<;>first |exact cR h|skip
 obtain⟨g,rfl,h⟩:=iP h;exact⟨g,_,_,rfl,h⟩
noncomputable def dEx(s:Stmt)(f:Expr->Bool):Bool:=match s with
 |.Expr e _=>f e
 |_=>false
theorem dEx_of{f}(h:dEx s f=true):∃e p,s=.Expr e p/\f e=true:=by cases s<;>first |exact⟨_,_,rfl,h⟩ |exact cR h
noncomputable def dIs(s:Stmt)(f:Expr->List Stmt->List Stmt->Bool):Bool:=match s with
 |.If c a b _=>f c a b
 |_=>false
theorem dIs_of{f}(h:dIs s f=true):∃c a b p,s=.If c a b p/\f c a b=true:=by cases s<;>first |exact⟨_,_,_,_,rfl,h⟩ |exact cR h
noncomputable def dWh(s:Stmt)(f:Expr->List Stmt->Bool):Bool:=match s with
 |.While c a b _=>b.isEmpty&&f c a
 |_=>false
theorem dWh_of{f}(h:dWh s f=true):∃c a p,s=.While c a [] p/\f c a=true:=by
 cases s<;>first |exact cR h|skip
 rename_i c a b p;obtain⟨h1,h⟩:=an h;cases b with
 |nil=>exact⟨c,a,p,rfl,h⟩
 |cons=>exact cR h1
noncomputable def dFo(s:Stmt)(f:Expr->Expr->List Stmt->Bool):Bool:=match s with
 |.For g i a b _=>b.isEmpty&&f g i a
 |_=>false
theorem dFo_of{f}(h:dFo s f=true):∃g i a p,s=.For g i a [] p/\f g i a=true:=by
 cases s<;>first |exact cR h|skip
 rename_i g i a b p;obtain⟨h1,h⟩:=an h;cases b with
 |nil=>exact⟨g,i,a,p,rfl,h⟩
 |cons=>exact cR h1
noncomputable def dRt(s:Stmt)(f:Option Expr->Bool):Bool:=match s with
 |.Return e _=>f e
 |_=>false
theorem D9{f}(h:dRt s f=true):∃e p,s=.Return e p/\f e=true:=by cases s<;>first |exact⟨_,_,rfl,h⟩ |exact cR h
noncomputable def dRa(s:Stmt)(f:Str->List Expr->Bool):Bool:=match s with
 |.Raise e c _=>match e with
  |some e=>c.isNone&&dFn e f
  |none=>false
 |_=>false
theorem dRa_of{f}(h:dRa s f=true):∃x np es cp p,s=.Raise (some (.Call (.Name x np) es [] cp)) none p/\f x es=true:=by
 cases s<;>first |exact cR h|skip
 rename_i e c p;cases e with
 |none=>exact cR h
 |some e=>
  obtain⟨h1,k⟩:=an h;obtain⟨x,np,es,cp,rfl,l⟩:=iA k;cases c with
  |none=>exact⟨x,np,es,cp,p,rfl,l⟩
  |some=>exact cR h1
noncomputable def dTr(s:Stmt)(f:List Stmt->Str->Str->List Stmt->Bool):Bool:=match s with
 |.Try b hs o r _=>o.isEmpty&&r.isEmpty&&l1 hs fun h=>match h with
  |.ExceptHandler t n ss _=>match t with
   |some t=>match n with
    |some n=>dNm t fun x _=>f b x n ss
    |none=>false
   |none=>false
 |_=>false
theorem dTr_of{f}(h:dTr s f=true):∃b x np n ss hp p,s=.Try b [.ExceptHandler (some (.Name x np)) (some n) ss hp] [] [] p/\f b x n ss=true:=by
 cases s<;>first |exact cR h|skip
 rename_i b hs o r p;obtain⟨h1,h2,k⟩:=fQ h;obtain⟨⟨t,n,ss,hp⟩,rfl,l⟩:=iP k;cases o with
 |cons=>exact cR h1
 |nil=>cases r with
  |cons=>exact cR h2
  |nil=>cases t with
   |none=>exact cR l
   |some t=>cases n with
    |none=>exact cR l
    |some n=>
     obtain⟨x,np,rfl,m⟩:=jE l;exact⟨b,x,np,n,ss,hp,p,rfl,m⟩
end
noncomputable def u1{α:Type}(l:List α)(f:α->List α->Bool):Bool:=match l with
 |a::r=>f a r
 | []=>false
theorem vm{α:Type}{l:List α}{f:α->List α->Bool}(h:u1 l f=true):∃a r,l=a::r/\f a r=true:=by
 cases l with
 |nil=>exact cR h
 |cons a r=>exact⟨a,r,rfl,h⟩
noncomputable def om{α:Type}(o:Option α)(f:α->Bool):Bool:=match o with
 |some x=>f x
 |none=>false
theorem yX{α:Type}{o:Option α}{f:α->Bool}(h:om o f=true):∃x,o=some x/\f x=true:=by
 cases o with
 |none=>exact cR h
 |some x=>exact⟨x,rfl,h⟩
theorem nil_of{α:Type}{l:List α}(h:l.isEmpty=true):l=[]:=List.isEmpty_iff.mp h
noncomputable def dFF(f g:Str)(sc:Scope)(e:Expr)(k:Expr->Bool):Bool:=dFn e fun f' es=>l1 es fun x=>dFn x fun g' es=>l1 es fun a=>decide (f'=f)&&decide (g'=g)&&me sc f&&me sc g&&k a
theorem Ea{f g:Str}{sc:Scope}{e:Expr}{k}(h:dFF f g sc e k=true):∃p a q r t,e=.Call (.Name f p) [.Call (.Name g q) [a] [] r] [] t/\me sc f=true/\me sc g=true/\k a=true:=by
 obtain⟨_,p,_,t,rfl,i⟩:=iA h;obtain⟨x,rfl,j⟩:=iP i;obtain⟨_,q,_,r,rfl,l⟩:=iA j;obtain⟨a,rfl,m⟩:=iP l;obtain⟨h1,h2,h3,h4,n⟩:=and5 m;cases of_decide_eq_true h1;cases of_decide_eq_true h2;exact⟨p,a,q,r,t,rfl,h3,h4,n⟩
noncomputable def isX:Expr->Bool
 |.Subscript .. =>true|.Compare .. =>true|.Call .. =>true
 |_=>false
noncomputable def X2.d(k:X2)(e:Expr)(f:Expr->Expr->Bool):Bool:=isX e&&match k with
 |.idxk=>dSu e fun a i=> !jD i&&f a i
 |.ink=>dC1 e fun a op b=>decide (op=.In)&&f a b
 |.nink=>dC1 e fun a op b=>decide (op=.NotIn)&&f a b
 |.getk=>dMt (cF "get") e fun o es=>l1 es fun a=>baseOk o&&f o a
 |.nek=>dC1 e fun a op b=>decide (op=.NotEq)&&f a b
noncomputable def isM1(e:Expr):Bool:=dUn e fun op c=>decide (op=.USub)&&dCn c fun k=>decide (k=.int 1)
noncomputable def mBase(e:Expr):Bool:=(dNm e fun _ _=>true)||(dFn e fun _ es=> !es.isEmpty)
mutual
noncomputable def cj(sc:Scope)(N:List Str):CE->Expr->Bool
 |.var i,e=>dNm e fun x _=>N[i]? ==some x&&DM sc x&&sD x
 |.con c,e=>dCn e fun c'=>okCon c&&decide (c=c')
 |.glo x,e=>dNm e fun y _=>decide (x=y)&&me sc x&&sD x
 |.ty t,e=>dNm e fun y _=>decide (t.name=y)&&me sc y
 |.bin op a b,e=>dBi e fun a' op' b'=>decide (op=op')&&cj sc N a a'&&cj sc N b b'
 |.un op a,e=>dUn e fun op' a'=>decide (op=op')&&cj sc N a a'
 |.cmp op a b,e=>dC1 e fun a' op' b'=>decide (op=op')&&cj sc N a a'&&cj sc N b b'
 |.chain o1 o2 a b c,e=>dCm e fun a' os es=>l2 os fun p q=>l2 es fun b' c'=>decide (o1=p)&&decide (o2=q)&& !isSet c'&&(cj sc N a a'&&cj sc N b b'&&cj sc N c c')
 |.not a,e=>dUn e fun op a'=>decide (op=.Not)&&cj sc N a a'
 |.and a b,e=>dBo e fun op a' x=>decide (op=.And)&&cj sc N a a'&&cj sc N b x
 |.or a b,e=>dBo e fun op a' x=>decide (op=.Or)&&cj sc N a a'&&cj sc N b x
 |.ite c a b,e=>dIf e fun c' a' b'=>cj sc N c c'&&cj sc N a a'&&cj sc N b b'
 |.idx a i,e=>dSu e fun a' i'=> !jD i'&&cj sc N a a'&&cj sc N i i'
 |.cut a lo hi,e=>dSu e fun a' s=>dSl s fun l u t=>t.isNone&&cj sc N a a'&&(chkO sc N lo l&&chkO sc N hi u)
 |.tup es,e=>dTu e fun es'=>oi sc N es es'
 |.lst es,e=>dLi e fun es'=>oi sc N es es'
 |.dic ps,e=>dDi e fun ks vs=>decide (ks.length<=15)&&chkP sc N ps ks vs
 |.call f es,e=>dFn e fun f' es'=>decide (f=f')&&me sc f&&sD f&&oi sc N es es'
 |.bfn b es,e=>dFn e fun f' es'=>decide (b.name=f')&&me sc f'&& !es'.isEmpty&&oi sc N es es'
 |.meth0 m o,e=>dMt m.name e fun o' es=>es.isEmpty&&baseOk o'&&cj sc N o o'
 |.meth1 m o a,e=>dMt m.name e fun o' es=>l1 es fun a'=>baseOk o'&&cj sc N o o'&&cj sc N a a'
 |.dicT,e=>dDi e fun ks vs=>ks.isEmpty&&vs.isEmpty
 |.clrk o,e=>dMt (cF "clear") e fun o' es=>es.isEmpty&&baseOk o'&&cj sc N o o'
 |.divb a b,e=>dBi e fun a' op' b'=>decide (op'=.FloorDiv)&&cj sc N a a'&&cj sc N b b'
 |.rev a,e=>dSu e fun a' s=>dSl s fun x y z=>x.isNone&&y.isNone&&(om z isM1&&cj sc N a a')
 |.sset a,e=>dFF "sorted" "set" sc e (cj sc N a)
 |.lrev a,e=>dFF "list" "reversed" sc e (cj sc N a)
 |.x2 k a b,e=>k.d e fun a' b'=>cj sc N a a'&&cj sc N b b'
 |.tM a,e=>nZ e&&cj sc N a e
 |.get2 o a b,e=>dMt (cF "get") e fun o' es=>l2 es fun a' b'=>baseOk o'&&cj sc N o o'&&(cj sc N a a'&&cj sc N b b')
 |.setk o a b,e=>dMt (cF "setdefault") e fun o' es=>l2 es fun a' b'=>baseOk o'&&cj sc N o o'&&(cj sc N a a'&&cj sc N b b')
 |.comp own fr tg it cond elt,e=>dLc e fun elt' gs sc' _=>l1 gs fun g=>decide (g.is_async=0)&&uk sc sc' N own fr&& !isSet g.iter&&(chkI sc N it g.iter g.target&&wA sc' (namesOf N own fr) false tg g.target&&chkC sc' (namesOf N own fr) cond g.ifs&&cj sc' (namesOf N own fr) elt elt')
noncomputable def oi(sc:Scope)(N:List Str):CL->List Expr->Bool
 |.nil,es=>es.isEmpty
 |.cons e r,es=>u1 es fun e' r'=>cj sc N e e'&&oi sc N r r'
noncomputable def chkP(sc:Scope)(N:List Str):CP->List (Option Expr)->List Expr->Bool
 |.nil,ks,vs=>ks.isEmpty&&vs.isEmpty
 |.cons k v r,ks,vs=>u1 ks fun k' ks'=>u1 vs fun v' vs'=>om k' fun k'=>cj sc N k k'&&cj sc N v v'&&chkP sc N r ks' vs'
noncomputable def chkO(sc:Scope)(N:List Str):CO->Option Expr->Bool
 |.no,o=>o.isNone
 |.yes e,o=>om o (cj sc N e)
noncomputable def chkC(sc:Scope)(N:List Str):CO->List Expr->Bool
 |.no,o=>o.isEmpty
 |.yes e,o=>l1 o (cj sc N e)
noncomputable def wA(sc:Scope)(N:List Str)(all:Bool):CG->Expr->Bool
 |.name i,e=>dNm e fun x _=>N[i]? ==some x&&(sc.names.lookup x==some .local||sc.names.lookup x==some .cell)
 |.tup gs,e=>dTu e fun es=>oP sc N all gs es
 |.ltup gs,e=>dTu e fun es=>oP sc N all gs es
 |.sub o i,e=>dSu e fun o' i'=> !jD i'&&cj sc N o o'&&cj sc N i i'
noncomputable def oP(sc:Scope)(N:List Str)(all:Bool):CGs->List Expr->Bool
 |.nil,es=>es.isEmpty
 |.cons g gs,es=>u1 es fun e' es'=>wA sc N all g e'&&oP sc N all gs es'
noncomputable def chkI(sc:Scope)(N:List Str):CI->Expr->Expr->Bool
 |.seq e,e',_=>cj sc N e e'
 |.lseq e,e',_=>cj sc N e e'
 |.tseq e,e',_=>cj sc N e e'
 |.range1 e,x,_=>dFn x fun f es=>l1 es fun e'=>decide (f="range")&&me sc f&&cj sc N e e'
 |.range2 a b,x,_=>dFn x fun f es=>l2 es fun a' b'=>decide (f="range")&&me sc f&&cj sc N a a'&&cj sc N b b'
 |.zip a b,x,tg'=>dFn x fun f es=>l2 es fun a' b'=>decide (f="zip")&&me sc f&&cj sc N a a'&&cj sc N b b'&&kq tg'
 |.dkeys e,e',_=>cj sc N e e'
 |.ditems e,x,tg'=>dMt (cF "items") x fun o es=>es.isEmpty&&baseOk o&&cj sc N e o&&kq tg'
 |.lrevd e,x,_=>dFn x fun f es=>l1 es fun e'=>decide (f="reversed")&&me sc f&&cj sc N e e'
end
noncomputable def isCe:CE->Bool
 |.comp .. =>true
 |_=>false
mutual
noncomputable def chkS(sc:Scope)(N:List Str):CS->Stmt->Bool
 |.asg g e,s=>dAs s fun g' e' _=>wA sc N true g g'&&cj sc N e e'&& !nZ e'&& !(kq g'&&kq e')
 |.asgc i e,s=>isCe e&&dAs s fun g e' _=>dNm g fun x p=>dLc e' fun a b c d=>N[i]? ==some x&&(sc.names.lookup x==some .local||sc.names.lookup x==some .cell)&&cj sc N e (.ListComp a b c d)&&
   (sc.names.lookup x==some .cell||(decide (p.line=d.line)&& !(c.names.any fun y=>decide (y.1=x)&&(decide (y.2=.local)||decide (y.2=.cell)))))
 |.expr e,s=>dEx s fun e'=>cj sc N e e'&& !nZ e'
 |.iff c a b,s=>dIs s fun c' a' b'=>cj sc N c c'&&qU sc N a a'&&qU sc N b b'
 |.whl c b,s=>dWh s fun c' b'=>cj sc N c c'&&qU sc N b b'
 |.forr g it b,s=>dFo s fun g' it' b'=>wA sc N true g g'&&chkI sc N it it' g'&& !isSet it'&&qU sc N b b'
 |.ret e,s=>dRt s fun o=>om o (cj sc N e)
 |.retN,s=>dRt s fun o=>o.isNone
 |.rais x es,s=>dRa s fun x' es'=>decide (x=x')&&me sc x&&sD x&&(!es'.isEmpty&&oi sc N es es')
 |.thawS c,s=>chkS sc N c s
 |.putk o i e,s=>dAs s fun g e' _=>dSu g fun o' i'=>cj sc N o o'&&cj sc N i i'&&cj sc N e e'&& !nZ e'
 |.pass,s=>match s with
  |.Pass _=>true
  |_=>false
 |.brk,s=>match s with
  |.Break _=>true
  |_=>false
 |.cont,s=>match s with
  |.Continue _=>true
  |_=>false
noncomputable def qU(sc:Scope)(N:List Str):CB->List Stmt->Bool
 |.hole,_=>true
 |.nil,ss=>ss.isEmpty
 |.cons s r,ss=>u1 ss fun s' r'=>chkS sc N s s'&&qU sc N r r'
end
structure Gam where
 val:Str->Option V
 fn:Str->Nat->Option (Sp×List V)
 ini:Str->Nat->Option (Addr×Sp×List V)
 dic:Addr->Option (List (Key×V))
 mak:Str->Nat->Option (Addr×Sp×List V)
 mth:Str->Nat->Option (Addr×Sp×List V)
noncomputable def AG(K:aa)(tl:TE):TI:=fun σ H R=>tl σ H fun x H1=>(∃a,x=.ref a/\(∃xs,SqL K H1 a xs)/\R (Itl K a) H1)\/(∃a,x=.ref a/\(∃xs,SqT K H1 a xs)/\R (Itt K a) H1)\/(∃z,x=.str z/\R (Its z) H1)
noncomputable def xr(K:aa)(t:TE):TT:=fun σ H Q=>t σ H fun x H1=>∃k,TruV K x H1 k/\Q k H1
mutual
noncomputable def wpE(G:Gam)(K:aa)(E:XS):CE->TE
 |.var i=>mG i
 |.con c=>tC (cv c)
 |.glo x=>fun σ H Q=>∃v,G.val x=some v/\Q v H
 |.ty t=>tC (.ty t.t)
 |.bin op a b=>tOp (jy K op) (wpE G K E a) (wpE G K E b)
 |.un op a=>tUn (rUn K op) (wpE G K E a)
 |.cmp op a b=>tOp (gJ K op) (wpE G K E a) (wpE G K E b)
 |.chain o1 o2 a b c=>qf (gJ K o1) (gJ K o2) (wpE G K E a) (wpE G K E b) (wpE G K E c)
 |.not a=>BP (wpE G K E a)
 |.and a b=>BX (wpE G K E a) (wpE G K E b)
 |.or a b=>tOrV (wpE G K E a) (wpE G K E b)
 |.ite c a b=>tIf (wpT G K E c) (wpE G K E a) (wpE G K E b)
 |.idx a i=>tOp (rIx K) (wpE G K E a) (wpE G K E i)
 |.cut a lo hi=>tSl (rSlc K) (wpE G K E a) (wpO G K E lo) (wpO G K E hi)
 |.tup es=>tTup (wpL G K E es)
 |.lst es=>tLst (wpL G K E es)
 |.dic ps=>fun σ H Q=>(ps=.nil/\BU σ H Q)\/(ps≠.nil/\tDisp (wpP G K E ps) σ H Q)
 |.call f es=>fun σ H Q=>∃sp dvs,G.fn f es.len=some (sp,dvs)/\vo sp dvs (E σ) (wpL G K E es) σ H Q
 |.bfn b es=>tCB (rBf K b) (wpL G K E es)
 |.meth0 m o=>tBM0 K "list" (rMm m) (wpE G K E o)
 |.meth1 m o a=>tBM K "list" (rMm m) (wpE G K E o) (gz (wpE G K E a) lZ)
 |.dicT=>BS
 |.divb a b=>tOp rDivB (wpE G K E a) (wpE G K E b)
 |.clrk o=>tBM0 K "dict" rClrK (wpE G K E o)
 |.rev a=>tRev K (wpE G K E a)
 |.sset a=>nO K (gz (wpE G K E a) lZ)
 |.lrev a=>BQ K (gz (wpE G K E a) lZ)
 |.x2 k a b=>k.t (wpE G K E a) (wpE G K E b)
 |.tM a=>BL (wpE G K E a)
 |.get2 o a b=>xu (wpE G K E o) (wpE G K E a) (wpE G K E b)
 |.setk o a b=>tBM K "dict" CF (wpE G K E o) (gz (wpE G K E a) (gz (wpE G K E b) lZ))
 |.comp own fr tg it cond elt=>qe (wpI G K E it) (wpG G K N0 tg) (wpC G K N0 cond) (wpE G K N0 elt) (jw own fr)
noncomputable def wpT(G:Gam)(K:aa)(E:XS):CE->TT
 |.cmp op a b=>ow (tOp (gJ K op) (wpE G K E a) (wpE G K E b))
 |.chain o1 o2 a b c=>ow (qf (gJ K o1) (gJ K o2) (wpE G K E a) (wpE G K E b) (wpE G K E c))
 |.not a=>tNot (wpT G K E a)
 |.and a b=>tAnd (wpT G K E a) (wpT G K E b)
 |.or a b=>tOr (wpT G K E a) (wpT G K E b)
 |.ite _ _ _=>fun _ _ _=>False
 |.var i=>xr K (mG i)
 |.con c=>xr K (tC (cv c))
 |.glo x=>xr K (fun σ H Q=>∃v,G.val x=some v/\Q v H)
 |.idx a i=>xr K (tOp (rIx K) (wpE G K E a) (wpE G K E i))
 |.call f es=>xr K (fun σ H Q=>∃sp dvs,G.fn f es.len=some (sp,dvs)/\vo sp dvs (E σ) (wpL G K E es) σ H Q)
 |.bfn b es=>xr K (tCB (rBf K b) (wpL G K E es))
 |.x2 k a b=>k.tt (wpE G K E a) (wpE G K E b)
 |_=>fun _ _ _=>False
noncomputable def wpL(G:Gam)(K:aa)(E:XS):CL->TA
 |.nil=>lZ
 |.cons e es=>gz (wpE G K E e) (wpL G K E es)
noncomputable def wpP(G:Gam)(K:aa)(E:XS):CP->List (TE×TE)
 |.nil=>[]
 |.cons k v r=>(wpE G K E k,wpE G K E v)::wpP G K E r
noncomputable def wpO(G:Gam)(K:aa)(E:XS):CO->TO
 |.no=>tO
 |.yes e=>BO (wpE G K E e)
noncomputable def wpC(G:Gam)(K:aa)(E:XS):CO->TT
 |.no=>zS
 |.yes e=>wpT G K E e
noncomputable def wpG(G:Gam)(K:aa)(E:XS):CG->TG
 |.name i=>mX i
 |.tup gs=>gTup K gs.len (BB G K E gs)
 |.ltup gs=>gLst K gs.len (BB G K E gs)
 |.sub o i=>gSub (wpE G K E o) (wpE G K E i) rSetL
noncomputable def BB(G:Gam)(K:aa)(E:XS):CGs->TGs
 |.nil=>gNil
 |.cons g gs=>we (wpG G K E g) (BB G K E gs)
noncomputable def wpI(G:Gam)(K:aa)(E:XS):CI->TI
 |.seq e=>AG K (wpE G K E e)
 |.lseq e=>DQ K (wpE G K E e)
 |.tseq e=>iTup K (wpE G K E e)
 |.range1 e=>DP (gz (wpE G K E e) lZ)
 |.range2 a b=>DO (gz (wpE G K E a) (gz (wpE G K E b) lZ))
 |.zip a b=>iZip K (gz (wpE G K E a) (gz (wpE G K E b) lZ))
 |.dkeys e=>DR (wpE G K E e)
 |.ditems e=>x9 (wpE G K E e)
 |.lrevd e=>iRev K (gz (wpE G K E e) lZ)
end
mutual
noncomputable def wpS(G:Gam)(K:aa)(E:XS):CS->TS
 |.asg g e=>zT (wpE G K E e) (wpG G K E g)
 |.asgc i e=>zT (wpE G K E e) (mX i)
 |.expr e=>BR (wpE G K E e)
 |.iff c a b=>tIfS (wpT G K E c) (wpB G K E a) (wpB G K E b)
 |.whl c b=>BK (wpT G K E c) (wpB G K E b)
 |.forr g it b=>tFor (wpI G K E it) (wpG G K E g) (wpB G K E b)
 |.ret e=>tRet (wpE G K E e)
 |.retN=>BN
 |.rais x es=>fun D σ H=>∃C,G.val x=some (.ref C)/\b9 K (.ref C)=true/\PySem.W.excIn K C bmV "ValueError.__new__"=true/\wpL G K E es σ H fun vs H1=>vs.length<=sizeLine/\E σ (.ref C) none H1
 |.thawS c=>Ci (wpS G K E c)
 |.putk o i e=>CA (wpE G K E o) (wpE G K E i) (wpE G K E e)
 |.pass=>vn
 |.brk=>BW
 |.cont=>tCont
noncomputable def wpB(G:Gam)(K:aa)(E:XS):CB->TS
 |.nil=>vn
 |.hole=>fun _ _ _=>False
 |.cons s r=>tSeq (wpS G K E s) (wpB G K E r)
end
noncomputable abbrev Sat(G:Gam)(K:aa)(sp:Sp)(c:CB)(N:List Str):Prop:=∀vs H Q E,sp vs H Q E->wpB G K (fun _=>E) c {nx:=fun _ H'=>Q .non H',rt:=Q} (L2.start N vs) H
noncomputable def gC:List Str:=["len","isinstance","all","any","list","tuple","int","bool","str","dict","range","enumerate","sorted","set","min","max","ValueError","sum","zip","reversed"]
structure Ok(CX:CXT)(G:Gam)(E:XS)(sc:Scope)(N:List Str)(all:Bool)(X:Cx):Prop where
 names:X.N=N
 top:all=true->X.stack=X.env::X.outer/\X.env.frame=some X.env.locals/\X.ex=[]
 nd:N.Nodup
 loc:∀x,sc.names.lookup x=some .local->X.env.scope.names.lookup x=some .local
 cel:∀x,sc.names.lookup x=some .cell->X.env.scope.names.lookup x=some .cell
 fre:∀x,sc.names.lookup x=some .free->X.env.scope.names.lookup x=some .cell\/X.env.scope.names.lookup x=some .free
 glo:∀x,sc.names.lookup x=some .globalImplicit->X.env.scope.names.lookup x=some .globalImplicit
 all:all=true->∀x,X.fn x=true
 own:∀x,sc.names.lookup x=some .cell->X.fn x=true
 calm:X.calm=true
 hu:X.A.units+50<cLine
 val:∀x v,G.val x=some v->∃u,X.mg x=some u/\RelV v u
 fn:∀x n sp dvs,G.fn x n=some (sp,dvs)->∃f fd ps ds k,iG X.prog X.w X.K X.mg X.base CX k f fd ps sp/\jc k X.A/\X.mg x=some (.ref f)/\b9 X.K (.ref f)=true/\Binds X.K fd ps ds/\bJ dvs ds
 ini:∀x n C sp dvs,G.ini x n=some (C,sp,dvs)->∃f fd ps ds k,MkX X.K C f/\iG X.prog X.w X.K X.mg X.base CX k f fd ps sp/\jc (k+1) X.A/\X.mg x=some (.ref C)/\Binds X.K fd ps ds/\bJ dvs ds
 dic:∀a kvs,G.dic a=some kvs->DkIn X.prog X.w X.K a kvs
 mak:∀x n C sp dvs,G.mak x n=some (C,sp,dvs)->∃f fd ps ds k,Mk X.K C f/\iG X.prog X.w X.K X.mg X.base CX k f fd ps sp/\jc (k+1) X.A/\X.mg x=some (.ref C)/\Binds X.K fd ps ds/\bJ dvs ds
 mth:∀m n C sp dvs,G.mth m n=some (C,sp,dvs)->∃f fd ps ds k,Cls X.K C/\Meth X.K C m f/\iG X.prog X.w X.K X.mg X.base CX k f fd ps sp/\jc k X.A/\Binds X.K fd ps ds/\bJ dvs ds
 blt:∀x∈gC,X.mg x=none
 px:PassesOwn (model X.prog X.w) X.A X.env X.xe
 pass:wR CX X E
 made:MadeS X E
 madeX:Ew X E
 cx:CX=CXx X.prog X.w
theorem Bf.mem:∀b:Bf,b.name∈gC:=by intro b;cases b<;>decide+kernel
theorem Ty.mem:∀b:Ty,b.name∈gC:=by intro b;cases b<;>decide+kernel
section
variable {CX:CXT}{G:Gam}{E:XS}{sc:Scope}{N:List Str}{all:Bool}{X:Cx}
theorem Ok.vis(o:Ok CX G E sc N all X){x:Str}(h:DM sc x=true):Vis X.env.scope x:=by
 unfold DM at h;rw[di,di,beq_iff_eq,beq_iff_eq,beq_iff_eq]at h;rcases h with(h|h) |h
 ·exact .inl (o.loc x h)
 ·exact .inr (.inl (o.cel x h))
 ·rcases o.fre x h with q|q
  ·exact .inr (.inl q)
  ·exact .inr (.inr q)
theorem Ok.gl(o:Ok CX G E sc N all X){x:Str}(h:me sc x=true):Gl X x:=by
 unfold me at h;rw[beq_iff_eq]at h;exact o.glo x h
theorem km{x:Str}(h:sD x=true):(x==("__debug__":Str))=false/\(x==("__classdict__":Str))=false:=by
 unfold sD at h;rw[aP,beq_iff_eq,beq_iff_eq]at h;exact h
theorem rBin_ok:∀op,OpR X (cY op) (jy X.K op)
 |.Add=>op_add.or (xP.or (op_cat.or (op_catT.or op_cat0)))
 |.Sub=>op_sub
 |.Mult=>op_mul.or (op_rep.or op_repS)
 |.Mod=>op_mod
 |.FloorDiv=>op_fdiv
 |.Pow=>op_pow
 |.RShift=>op_shr
 |.MatMult=>fun _ _ _ _ _ _ _ _ _ _ _ _ h=>h.elim
 |.Div=>fun _ _ _ _ _ _ _ _ _ _ _ _ h=>h.elim
 |.LShift=>op_shl
 |.BitOr=>fun _ _ _ _ _ _ _ _ _ _ _ _ h=>h.elim
 |.BitXor=>op_xor
 |.BitAnd=>op_and
theorem kN(hu:X.A.units+50<cLine):∀op,OpR X (ck op) (gJ X.K op)
 |.Eq=>op_eqD (by omega)
 |.NotEq=>op_neD (by omega)
 |.Lt=>op_lt
 |.LtE=>op_le
 |.Gt=>op_gt
 |.GtE=>op_ge
 |.Is=>op_isN
 |.IsNot=>op_notN
 |.In=>Ar.or As
 |.NotIn=>ui.or uj
theorem rUn_ok:∀op,UnR X (unaryOp op) (rUn X.K op)
 |.USub=>BD
 |.Not=>fun _ _ _ _ _ _ _ _ _ h=>h.elim
 |.UAdd=>fun _ _ _ _ _ _ _ _ _ h=>h.elim
 |.Invert=>fun _ _ _ _ _ _ _ _ _ h=>h.elim
theorem rSlc_ok:SlR X (rSlc X.K):=sl_list.or sl_str
theorem rBf_ok(hc:X.calm=true)(hu:X.A.units+50<cLine):∀b,eD X (Bf.val b) (rBf X.K b)
 |.len=>uH.or uG
 |.isinstance=>wD.or uI
 |.all=>Ei hc
 |.list=>uF
 |.tuple=>r6
 |.sorted=>Q.wC
 |.min=>AR hc
 |.max=>AS hc
 |.int=>AV
 |.lenk=>AU
 |.listk=>yn hc
 |.dictl=>yo hc
 |.dictc=>yp
 |.sortk=>ym hc
theorem Mm.slot:∀m:Mm,Slot "list" m.name m.id
 |.append=>PySem.F.slot_list_append|.clear=>PySem.F.slot_list_clear|.reverse=>PySem.F.slot_list_reverse|.pop=>PySem.F.slot_list_pop|.index=>PySem.F.slot_list_index|.extend=>PySem.F.slot_list_extend
theorem Mm.ty:∀m:Mm,typeOf (.builtin m.id)=pure (.type "method_descriptor")
 |.append=>PySem.F.type_list_append|.clear=>PySem.F.type_list_clear|.reverse=>PySem.F.type_list_reverse|.pop=>PySem.F.type_list_pop|.index=>PySem.F.type_list_index|.extend=>PySem.F.type_list_extend
theorem CK:∀m:Mm,MtR X m.id (rMm m)
 |.append=>Ax|.clear=>DC|.reverse=>xR|.pop=>MtR.or mt_pop DB|.index=>fun _ _ _ _ _ _ _ _ _ _ _ _ h=>h.elim|.extend=>Aw
theorem jF{o:Expr}(h:baseOk o=true)(nm:Str)(env:Env)(t:Sem Value):iW o nm env t=t:=by
 cases o<;>first
  |rfl
  |exact cR h
  | (rename_i f es ks p;cases f<;>first
   |rfl
   |exact cR h)
theorem bH{c:CE}{e:Expr}(h:cj sc N c e=true)(es:List Expr)(env:Env):bC (e::es) env=(false,eval e env)::bC es env:=by
 cases e<;>first
  |rfl
  | (cases c<;>exact cR h)
theorem oh{c:CE}{r:CL}{es:List Expr}(h:oi sc N (.cons c r) es=true):∃e' r',es=e'::r'/\cj sc N c e'=true/\oi sc N r r'=true:=
 let⟨e',r',a,k⟩:=vm h
 ⟨e',r',a,an k⟩
theorem qS{es:List Expr}(h:oi sc N .nil es=true):es=[]:=nil_of h
theorem qR:∀{l:CL}{es:List Expr},oi sc N l es=true->∀(env:Env)(pos:Pos),(backTo pos (bC es env)).any (·.1)=false
 |.nil,es,h,env,pos=>by rw[qS h];rfl
 |.cons c r,es,h,env,pos=>by
  obtain⟨e',r',rfl,h1,h2⟩:=oh h;rw[bH h1];show(false||(backTo pos (bC r' env)).any (·.1))=false;rw[qR h2];rfl
theorem B7{l:CL}{es:List Expr}(h:oi sc N l es=true)(hn:(!es.isEmpty)=true):∃e es',es=e::es'/\∀(env:Env)(pos:Pos),bC (e::es') env=(false,eval e env)::bC es' env/\(backTo pos (bC es' env)).any (·.1)=false:=by
 cases l with
 |nil=>
  obtain rfl:=qS h;exact cR hn
 |cons c r=>
  obtain⟨e',r',rfl,h1,h2⟩:=oh h;exact⟨e',r',rfl,fun env pos=>⟨bH h1 _ _,qR h2 _ _⟩⟩
theorem um{e:Expr}(h:isSet e=false)(env:Env):∀x,gZ e env x=pure x:=by
 intro x;cases e<;>first
  |rfl
  | (exact absurd h (by simp[isSet]))
theorem eh{e:Expr}(h:isSet e=false)(op:CmpOp):k9 op e=false:=by
 cases e<;>first
  |rfl
  | (exact absurd h (by simp[isSet]))
theorem C3{e:Expr}(h:jD e=false):zF e:=by
 intro o i;cases e<;>first
  |rfl
  | (exact absurd h (by simp[jD]))
theorem noSl{e:Expr}(h:jD e=false):NoSl e:=by
 intro o i;cases e<;>first
  |rfl
  | (exact absurd h (by simp[jD]))
theorem uo{e:Expr}(h:nZ e=false)(t:Option Expr)(l:Nat)(env:Env):mx e t l env=pure false:=by
 cases e<;>first
  |rfl
  | (exact absurd h (by simp[nZ]))
theorem pi_any{tg l:Expr}{tl:TE}(hl:PE X l tl):PI X tg l (AG X.K tl):=by
 intro pins s σ H R I h;refine thn (hl pins s σ H _ I h) fun v s1 ⟨x,H1,I1,r1,q1⟩=>?_;have key:∀{tl':TE}{wi:TI},True:=fun{_ _}=>trivial;rcases q1 with q1|q1|q1
 ·obtain⟨a,e,⟨xs,hq⟩,q⟩:=q1
  subst e;cases r1;obtain⟨its,rv,p,hz⟩:=I1.list hq;refine gW p.isList ?_;refine⟨s1.heap.objs.size,[s1.heap.objs.size],_,_,H1,rfl,I1.kept (t':=s1.toks) fun b o e=>ae _ e,si a _,⟨_,aC _ rfl,rfl,rfl⟩,fun b hb=>?_,q⟩;have e:b=s1.heap.objs.size:=by simpa using hb
  subst e;exact I1.pC (ar _) (I1.hok.fresh (ar _))
 ·obtain⟨a,e,⟨xs,hq⟩,q⟩:=q1
  subst e;cases r1;obtain⟨its,rv,p,hz⟩:=I1.tuple hq;refine wpAny_pyIter_tuple (show s1.heap.IsTuple a its.toArray from p) ?_;refine⟨s1.heap.objs.size,[s1.heap.objs.size],_,_,H1,rfl,I1.kept (t':=s1.toks) fun b o e=>ae _ e,qd a _,⟨_,aC _ rfl,rfl,rfl⟩,fun b hb=>?_,q⟩;have e:b=s1.heap.objs.size:=by simpa using hb
  subst e;exact I1.pC (ar _) (I1.hok.fresh (ar _))
 ·obtain⟨z,e,q⟩:=q1
  subst e;obtain⟨t,rfl⟩:=r1;refine wpAny_pyIter_strU ?_;refine⟨s1.heap.objs.size,[s1.heap.objs.size],_,_,H1,rfl,I1.kept (t':=s1.toks) fun b o e=>ae _ e,BG z _ t,⟨_,aC _ rfl,rfl,rfl⟩,fun b hb=>?_,q⟩;have e:b=s1.heap.objs.size:=by simpa using hb
  subst e;exact I1.pC (ar _) (I1.hok.fresh (ar _))
end
set_option maxHeartbeats 4000000
section
variable {CX:CXT}{G:Gam}
structure kS(sc sc':Scope)(N own:List Str)(fr:List Nat):Prop where
 kind:sc'.kind=.function
 cellk:∀y∈sc'.names,y.2=.cell->sc'.names.lookup y.1=some .cell
 own1:∀y∈sc'.names,y.2=.local->sc'.names.lookup y.1=some .local
 free:∀y∈sc'.names,y.2=.free->sc.names.lookup y.1=some .cell\/sc.names.lookup y.1=some .free
 nd:(namesOf N own fr).Nodup
 fr:∀j∈fr,j<N.length/\sc'.names.lookup (N.getD j "")=some .free
 own2:∀x∈own,sc'.names.lookup x=some .local\/sc'.names.lookup x=some .cell
theorem qi{sc sc':Scope}{N own:List Str}{fr:List Nat}(h:uk sc sc' N own fr=true):kS sc sc' N own fr:=by
 unfold uk at h;simp only[aP,dw,decide_eq_true_eq,beq_iff_eq,di]at h;obtain⟨⟨⟨⟨⟨⟨h1,h2⟩,h3⟩,h4⟩,h5⟩,h6⟩,h7⟩:=h;exact⟨h1,h2,h3,h4,h5,h6,h7⟩
theorem kS.comp{E:XS}{sc sc':Scope}{N own:List Str}{fr:List Nat}{all:Bool}{X:Cx}(S:kS sc sc' N own fr)(o:Ok CX G E sc N all X):kT X (namesOf N own fr) sc':=
 ⟨S.kind,S.cellk,S.own1,fun y hy hf=>by
  rcases S.free y hy hf with q|q
  ·exact .inl (o.cel _ q)
  ·exact o.fre _ q⟩
theorem kS.mkOk{E:XS}{sc sc':Scope}{N own:List Str}{fr:List Nat}{all:Bool}{X:Cx}(S:kS sc sc' N own fr)(o:Ok CX G E sc N all X):MkOk X (namesOf N own fr) sc' (jw own fr):=by
 intro σ hl;refine⟨by simp[jw,namesOf],fun i x v h1 h2=>?_⟩;unfold jw at h2;unfold namesOf at h1;by_cases hi:i<own.length
 ·rw[fw (by simpa using hi),aZ]at h2
  cases q:own[i]? with
  |none=>rw[q]at h2;cases h2
  |some z=>rw[q]at h2;cases h2
 ·rw[cP (by simpa using hi),aZ,ag]at h2
  rw[cP (by simpa using hi),aZ]at h1;cases q:fr[i-own.length]? with
  |none=>rw[q]at h2;cases h2
  |some j=>
   rw[q]at h1 h2;have hx:N.getD j ""=x:=bh h1;have hv:(σ[j]?).getD none=some v:=bh h2;obtain⟨hj,hf⟩:=S.fr j (aS q);refine⟨by rw[<-hx];exact hf,j,?_,?_⟩
   ·rw[o.names,<-hx,aJ,ai hj];rfl
   ·cases w:σ[j]? with
    |none=>rw[w]at hv;cases hv
    |some z=>rw[w]at hv;exact congrArg some hv
noncomputable abbrev HX(CX:CXT):Prop:=∀o H s e s',CX o H s E0 e s'->False
theorem Ok.comp{E:XS}{sc sc':Scope}{N own:List Str}{fr:List Nat}{all:Bool}{X:Cx}(hCX:HX CX)(S:kS sc sc' N own fr)(o:Ok CX G E sc N all X)(C:Addr)(s₀:Shared)(H₀:Hp)(fp:List Addr):
  Ok CX G N0 sc' (namesOf N own fr) false (cV X (namesOf N own fr) sc' C s₀ H₀ fp) where
 names:=rfl
 nd:=S.nd
 loc:=fun x h=>lookup_relabel_local (env:=X.env) h
 cel:=fun x h=>eN (env:=X.env) h (by decide)
 own:=fun x h=>fj.mpr ⟨(x,.cell),bw h,by simp⟩
 fre:=fun x h=>(eT (env:=X.env) h).symm
 glo:=fun x h=>eN (env:=X.env) h (by decide)
 all:=fun h=>absurd h (by decide)
 calm:=o.calm
 hu:=o.hu
 val:=o.val
 fn:=o.fn
 ini:=o.ini
 dic:=o.dic
 mak:=o.mak
 mth:=o.mth
 blt:=o.blt
 px:=PassesOwn.never
 pass:=fun _ _ _ _ _ _ _ h=>(hCX _ _ _ _ _ h).elim
 made:=fun _ _ _ _ _ _ _ _ _ _ h=>h.elim
 madeX:=fun _ _ _ _ _ _ _ _ _ h=>h.elim
 cx:=o.cx
 top:=fun h=>absurd h (by decide)
theorem qr{sc:Scope}{N:List Str}{all:Bool}{g:CG}{e:Expr}(h:wA sc N all g e=true)(es:List Expr)(env:Env):dD (e::es) env=(false,assign e env)::dD es env:=by
 cases e<;>first
  |rfl
  | (cases g<;>exact cR h)
theorem qT{sc:Scope}{N:List Str}{all:Bool}{g:CG}{r:CGs}{es:List Expr}(h:oP sc N all (.cons g r) es=true):∃e' r',es=e'::r'/\wA sc N all g e'=true/\oP sc N all r r'=true:=
 let⟨e',r',a,k⟩:=vm h
 ⟨e',r',a,an k⟩
theorem tj{sc:Scope}{N:List Str}{all:Bool}{es:List Expr}(h:oP sc N all .nil es=true):es=[]:=nil_of h
theorem kC{sc:Scope}{N:List Str}{all:Bool}:∀{gs:CGs}{es:List Expr},oP sc N all gs es=true->∀env,(dD es env).length=gs.len/\(dD es env).findIdx? (·.1)=none
 |.nil,es,h,env=>by rw[tj h];exact⟨rfl,rfl⟩
 |.cons g r,es,h,env=>by
  obtain⟨e',r',rfl,h1,h2⟩:=qT h;obtain⟨a,b⟩:=kC h2 env;rw[qr h1];refine⟨by rw[bj,a,CGs.len],?_⟩;rw[List.findIdx?_cons];simp[b]
end
section
variable {CX:CXT}{G:Gam}
noncomputable abbrev IHE(CX:CXT)(G:Gam)(c:CE):Prop:=∀(e:Expr){E:XS}{sc:Scope}{N:List Str}{all:Bool}{X:Cx},Ok CX G E sc N all X->cj sc N c e=true->PE X e (wpE G X.K E c)
noncomputable abbrev IHT(CX:CXT)(G:Gam)(c:CE):Prop:=∀(e:Expr){E:XS}{sc:Scope}{N:List Str}{all:Bool}{X:Cx},Ok CX G E sc N all X->cj sc N c e=true->PT X e (wpT G X.K E c)
noncomputable def isBo:Expr->Bool
 |.BoolOp .. =>true
 |_=>false
noncomputable abbrev IHW(CX:CXT)(G:Gam)(c:CE):Prop:=∀(e:Expr){E:XS}{sc:Scope}{N:List Str}{all:Bool}{X:Cx},Ok CX G E sc N all X->cj sc N c e=true->isBo e=true->PW X e (wpT G X.K E c)
noncomputable abbrev IHL(CX:CXT)(G:Gam)(c:CL):Prop:=∀(es:List Expr){E:XS}{sc:Scope}{N:List Str}{all:Bool}{X:Cx},Ok CX G E sc N all X->oi sc N c es=true->PA X es (wpL G X.K E c)
noncomputable abbrev IHP(CX:CXT)(G:Gam)(c:CP):Prop:=∀(ks:List (Option Expr))(vs:List Expr){E:XS}{sc:Scope}{N:List Str}{all:Bool}{X:Cx},Ok CX G E sc N all X->chkP sc N c ks vs=true->∀pos,
  PPs X pos ks vs (wpP G X.K E c)/\ks.all (·.isSome)=true/\ks.length=vs.length/\(c≠.nil->ks≠[])
noncomputable abbrev IHO(CX:CXT)(G:Gam)(c:CO):Prop:=∀(e:Option Expr){E:XS}{sc:Scope}{N:List Str}{all:Bool}{X:Cx},Ok CX G E sc N all X->chkO sc N c e=true->PO X e (wpO G X.K E c)
noncomputable abbrev IHC(CX:CXT)(G:Gam)(c:CO):Prop:=∀(es:List Expr){E:XS}{sc:Scope}{N:List Str}{all:Bool}{X:Cx},Ok CX G E sc N all X->chkC sc N c es=true->PTs X es (wpC G X.K E c)
noncomputable abbrev IHG(CX:CXT)(G:Gam)(c:CG):Prop:=∀(e:Expr){E:XS}{sc:Scope}{N:List Str}{all:Bool}{X:Cx},Ok CX G E sc N all X->wA sc N all c e=true->PG X e (wpG G X.K E c)
noncomputable abbrev A2(CX:CXT)(G:Gam)(c:CGs):Prop:=∀(es:List Expr){E:XS}{sc:Scope}{N:List Str}{all:Bool}{X:Cx},Ok CX G E sc N all X->oP sc N all c es=true->PGs X es (BB G X.K E c)
noncomputable abbrev IHI(CX:CXT)(G:Gam)(c:CI):Prop:=∀(e tg:Expr){E:XS}{sc:Scope}{N:List Str}{all:Bool}{X:Cx},Ok CX G E sc N all X->chkI sc N c e tg=true->PI X tg e (wpI G X.K E c)
theorem Cq{i:Nat}:IHE CX G (.var i):=by
  intro e E sc N all X o h;obtain⟨x,p,rfl,k⟩:=jE h;obtain⟨h1,h2,h3⟩:=fQ k;obtain⟨d1,d2⟩:=km h3;exact pe_var (by rw[o.names];exact beq_iff_eq.mp h1) (o.vis h2) d1 d2
theorem Cw{c:Const}:IHE CX G (.con c):=by
  intro e E sc N all X o h;obtain⟨c',j,p,rfl,k⟩:=yf h;obtain⟨h1,h2⟩:=an k;cases of_decide_eq_true h2;cases c with
  |none=>exact pe_non
  |bool b=>exact pe_bl
  |int i=>exact Dc
  |str x=>exact pe_str
  |_=>exact cR h1
theorem Cv{x:Str}:IHE CX G (.glo x):=by
  intro e E sc N all X o h;obtain⟨y,p,rfl,k⟩:=jE h;obtain⟨h1,h2,h3⟩:=fQ k;cases of_decide_eq_true h1;intro pins s σ H Q I hw;obtain⟨v,hv,q⟩:=hw;obtain⟨u,hu,r⟩:=o.val _ _ hv;exact pe_glob (o.gl h2) hu r (km h3).1 pins s σ H Q I q
theorem sE_ty{t:Ty}:IHE CX G (.ty t):=by
  intro e E sc N all X o h;obtain⟨y,p,rfl,k⟩:=jE h;obtain⟨h1,h2⟩:=an k;cases of_decide_eq_true h1;exact pe_bltn (o.gl h2) (o.blt _ t.mem) t.boot rfl t.plain.1 t.plain.2
theorem sE_bin{op:Operator}{a b:CE}(ia:IHE CX G a)(ib:IHE CX G b):IHE CX G (.bin op a b):=by
  intro e E sc N all X o h;obtain⟨a',op',b',p,rfl,k⟩:=Ed h;obtain⟨h1,h2,h3⟩:=fQ k;cases of_decide_eq_true h1;exact pe_op (rBin_ok op) (ia _ o h2) (ib _ o h3)
theorem sE_un{op:UnaryOp}{a:CE}(ia:IHE CX G a):IHE CX G (.un op a):=by
  intro e E sc N all X o h;obtain⟨op',a',p,rfl,k⟩:=uD h;obtain⟨h1,h2⟩:=an k;cases of_decide_eq_true h1;exact pe_un (rUn_ok op) (ia _ o h2)
theorem sE_cmp{op:CmpOp}{a b:CE}(ia:IHE CX G a)(ib:IHE CX G b):IHE CX G (.cmp op a b):=by
  intro e E sc N all X o h;obtain⟨a',op',b',p,rfl,h0,k⟩:=kB h;obtain⟨h1,h2,h3⟩:=fQ k;cases of_decide_eq_true h1;exact yW (kN o.hu op) (ia _ o h2) (ib _ o h3) (eh h0 op)
theorem Cy{o1 o2:CmpOp}{a b c:CE}(ia:IHE CX G a)(ib:IHE CX G b)(ic:IHE CX G c):IHE CX G (.chain o1 o2 a b c):=by
  intro e E sc N all X o h;obtain⟨a',os,es,p,rfl,k⟩:=yg h;obtain⟨p',q',rfl,l⟩:=oK k;obtain⟨b',c',rfl,m⟩:=oK l;obtain⟨h1,h2,h3,n⟩:=kZ m;obtain⟨h4,h5,h6⟩:=fQ n;cases of_decide_eq_true h1;cases of_decide_eq_true h2;exact Dj (kN o.hu o1) (kN o.hu o2) (ia _ o h4) (ib _ o h5) (ic _ o h6) (eh (nX h3) o2)
theorem sE_not{a:CE}(ia:IHE CX G a):IHE CX G (.not a):=by
  intro e E sc N all X o h;obtain⟨op',a',p,rfl,k⟩:=uD h;obtain⟨h1,h2⟩:=an k;cases of_decide_eq_true h1;exact pe_not (ia _ o h2)
theorem sE_and{a b:CE}(ia:IHE CX G a)(ib:IHE CX G b):IHE CX G (.and a b):=by
  intro e E sc N all X o h;obtain⟨op,a',x,p,k,m⟩:=og h;obtain⟨h1,h2,h3⟩:=fQ k;cases of_decide_eq_true h1;rcases m with rfl|⟨b',c',r,rfl,rfl⟩
  ·exact Dp (ia _ o h2) (C9 (ib _ o h3))
  ·exact Dp (ia _ o h2) (ib _ o h3)
theorem sE_or{a b:CE}(ia:IHE CX G a)(ib:IHE CX G b):IHE CX G (.or a b):=by
  intro e E sc N all X o h;obtain⟨op,a',x,p,k,m⟩:=og h;obtain⟨h1,h2,h3⟩:=fQ k;cases of_decide_eq_true h1;rcases m with rfl|⟨b',c',r,rfl,rfl⟩
  ·exact pe_or (ia _ o h2) (C9 (ib _ o h3))
  ·exact pe_or (ia _ o h2) (ib _ o h3)
theorem sE_ite{c a b:CE}(ic:IHT CX G c)(ia:IHE CX G a)(ib:IHE CX G b):IHE CX G (.ite c a b):=by
  intro e E sc N all X o h;obtain⟨c',a',b',p,rfl,k⟩:=dIf_of h;obtain⟨h1,h2,h3⟩:=fQ k;exact Dd (ic _ o h1) (ia _ o h2) (ib _ o h3)
theorem Cu{a i:CE}(ia:IHE CX G a)(ii:IHE CX G i):IHE CX G (.idx a i):=by
  intro e E sc N all X o h;obtain⟨a',i',p,rfl,k⟩:=mi h;obtain⟨h1,h2,h3⟩:=fQ k;exact pe_ix ix_seq (ia _ o h2) (ii _ o h3) (C3 (nX h1))
theorem sE_cut{a:CE}{lo hi:CO}(ia:IHE CX G a)(il:IHO CX G lo)(ih:IHO CX G hi):IHE CX G (.cut a lo hi):=by
  intro e E sc N all X o h;obtain⟨a',s,p,rfl,k⟩:=mi h;obtain⟨l,u,t,p',rfl,m⟩:=D7 k;obtain⟨h1,h2,n⟩:=fQ m;obtain⟨h3,h4⟩:=an n;cases dB.mp h1;exact C8 rSlc_ok (ia _ o h2) (il _ o h3) (ih _ o h4)
theorem sE_tup{es:CL}(ie:IHL CX G es):IHE CX G (.tup es):=by
  intro e E sc N all X o h;obtain⟨es',j,p,rfl,k⟩:=yd h;exact pe_tup (ie _ o k)
theorem sE_lst{es:CL}(ie:IHL CX G es):IHE CX G (.lst es):=by
  intro e E sc N all X o h;obtain⟨es',p,rfl,k⟩:=dLi_of h;exact pe_lst (ie _ o k)
theorem sE_dic{ps:CP}(ip:IHP CX G ps):IHE CX G (.dic ps):=by
  intro e E sc N all X o h;obtain⟨ks,vs,p,rfl,k⟩:=Eb h;obtain⟨h1,h2⟩:=an k;intro pins s σ H Q I hw;rcases hw with⟨e1,hw⟩ |⟨e1,hw⟩
  ·subst e1
   obtain⟨h3,h4⟩:=an h2;obtain rfl:=nil_of h3;obtain rfl:=nil_of h4;exact Df pins s σ H Q I hw
  ·obtain⟨p1,p2,p3,p4⟩:=ip ks vs o h2 p
   exact pe_disp p1 p2 p3 (p4 e1) (of_decide_eq_true h1) pins s σ H Q I hw
theorem yH{f:Str}{es:CL}(ie:IHL CX G es):IHE CX G (.call f es):=by
  intro e E sc N all X o h;obtain⟨f',np,es',p,rfl,k⟩:=iA h;obtain⟨h1,h2,h3,h4⟩:=kZ k;cases of_decide_eq_true h1;intro pins s σ H Q I hw;obtain⟨sp,dvs,hf,hw⟩:=hw;obtain⟨fa,fd,ps,ds,k,F,hr,hm,hk,hb,hd⟩:=o.fn _ _ _ _ hf;cases es' with
  |nil=>
   cases es with
   |nil=>exact Ak F hr (o.gl h2) hm hk hb hd o.pass (km h3).1 pins s σ H Q I hw
   |cons=>exact cR h4
  |cons e1 r1=>
   have hL:=ie _ o h4;obtain⟨_,_,e,hs⟩:=B7 h4 rfl;cases e;exact Dk F hr (o.gl h2) hm hk hb hd o.pass hL (km h3).1 (hs _ p).1 (hs _ _).2 pins s σ H Q I hw
theorem Bf.kind:∀b:Bf,(∃n,b.val=.builtin n)\/∃n,b.val=.type n:=by intro b;cases b<;>first |exact .inl ⟨_,rfl⟩ |exact .inr ⟨_,rfl⟩
theorem pe_bf{X:Cx}{b:Bf}{np pos:Pos}{es:List Expr}{t:TA}{l:CL}{sc:Scope}{N:List Str}(hB:eD X b.val (rBf X.K b))(hg:Gl X b.name)(hm:X.mg b.name=none)(hL:PA X es t)(hn:(!es.isEmpty)=true)(h:oi sc N l es=true):PE X (.Call (.Name b.name np) es [] pos) (tCB (rBf X.K b) t):=by
 obtain⟨e,es',rfl,hs⟩:=B7 h hn;have hv:=b.boot;rcases b.kind with⟨n,q⟩ |⟨n,q⟩
 ·rw[q]at hB hv
  exact Dl hB hg hm hv hL b.plain.1 b.plain.2 (hs _ pos).1 (hs _ _).2
 ·rw[q]at hB hv
  exact Aj hB hg hm hv hL b.plain.1 b.plain.2 (hs _ pos).1 (hs _ _).2
theorem Cz{b:Bf}{es:CL}(ie:IHL CX G es):IHE CX G (.bfn b es):=by
  intro e E sc N all X o h;obtain⟨f',np,es',p,rfl,k⟩:=iA h;obtain⟨h1,h2,h3,h4⟩:=kZ k;cases of_decide_eq_true h1;exact pe_bf (rBf_ok o.calm o.hu b) (o.gl h2) (o.blt _ b.mem) (ie _ o h4) h3 h4
theorem Cs{m:Mm}{b:CE}(ib:IHE CX G b):IHE CX G (.meth0 m b):=by
  intro e E sc N all X o h;obtain⟨o',ap,es,cp,rfl,h0,k⟩:=mj h;obtain⟨h1,h2,h3⟩:=fQ k;obtain rfl:=nil_of h1;exact Dm u7 m.slot m.ty (CK m) (ib _ o h3) (jF h2 _ _ _) h0
theorem Cr{m:Mm}{b a:CE}(ib:IHE CX G b)(ia:IHE CX G a):IHE CX G (.meth1 m b a):=by
  intro e E sc N all X o h;obtain⟨o',ap,es,cp,rfl,h0,k⟩:=mj h;obtain⟨a',rfl,l⟩:=iP k;obtain⟨h1,h2,h3⟩:=fQ l;exact pe_bm u7 m.slot m.ty (CK m) (ib _ o h2) (fg (ia _ o h3) jA (bH h3 _ _)) (jF h1 _ _ _) (by rw[bH h3];rfl) h0 (bH h3 _ _) rfl
theorem sE_dicT:IHE CX G .dicT:=by
  intro e E sc N all X o h;obtain⟨ks,vs,p,rfl,k⟩:=Eb h;obtain⟨h3,h4⟩:=an k;obtain rfl:=nil_of h3;obtain rfl:=nil_of h4;exact De
theorem sE_divb{a b:CE}(ia:IHE CX G a)(ib:IHE CX G b):IHE CX G (.divb a b):=by
  intro e E sc N all X o h;obtain⟨a',op',b',p,rfl,k⟩:=Ed h;obtain⟨h1,h2,h3⟩:=fQ k;cases of_decide_eq_true h1;exact pe_op op_divb (ia _ o h2) (ib _ o h3)
theorem sE_rev{a:CE}(ia:IHE CX G a):IHE CX G (.rev a):=by
  intro e E sc N all X o h;obtain⟨a',s,p,rfl,h1⟩:=mi h;obtain⟨x,y,z,p1,rfl,h2⟩:=D7 h1;obtain⟨g1,g2,h3⟩:=fQ h2;obtain⟨g3,g4⟩:=an h3;obtain⟨z',rfl,g5⟩:=yX g3;obtain⟨op,c,p2,rfl,g6⟩:=uD g5;obtain⟨g7,g8⟩:=an g6;obtain⟨c',j,p3,rfl,g9⟩:=yf g8;cases of_decide_eq_true g7;cases of_decide_eq_true g9;cases dB.mp g1;cases dB.mp g2;exact pe_rev (ia _ o g4) Ai
theorem sE_sset{a:CE}(ia:IHE CX G a):IHE CX G (.sset a):=by
  intro e E sc N all X o h;obtain⟨p,a',q,r,t,rfl,h1,h2,h3⟩:=Ea h;exact vG o.calm (o.gl h1) (o.blt _ (by decide+kernel)) (o.gl h2) (o.blt _ (by decide+kernel)) (fg (ia _ o h3) jA (bH h3 _ _)) (bH h3 _ _)
theorem sE_lrev{a:CE}(ia:IHE CX G a):IHE CX G (.lrev a):=by
  intro e E sc N all X o h;obtain⟨p,a',q,r,t,rfl,h1,h2,h3⟩:=Ea h;exact pe_lrev o.calm (o.gl h1) (o.blt _ (by decide+kernel)) (o.gl h2) (o.blt _ (by decide+kernel)) (fg (ia _ o h3) jA (bH h3 _ _)) (bH h3 _ _)
theorem m1_of{X:Cx}{o e:Expr}{m:Str}{ap cp:Pos}{c:CE}{sc:Scope}{N:List Str}(hb:baseOk o=true)(h0:(ap.endLine==cp.line)=true)(h:cj sc N c e=true):M1 X o m ap e cp:=⟨jF hb _ _ _,by rw[bH h];rfl,h0,by rw[bH h];rfl⟩
theorem sE_x2{k:X2}{a b:CE}(ia:IHE CX G a)(ib:IHE CX G b):IHE CX G (.x2 k a b):=by
  intro e E sc N all X o h0;obtain⟨_,h⟩:=an h0;have hu:X.A.units+1<cLine:=by have :=o.hu;omega
  cases k with
  |idxk=>
   obtain⟨a',i',p,rfl,k⟩:=mi h;obtain⟨h1,k⟩:=an k;obtain⟨h2,h3⟩:=an k;exact pe_dget hu (ia _ o h2) (ib _ o h3) (noSl (nX h1))
  |ink=>
   obtain⟨a',op,b',p,rfl,h4,k⟩:=kB h;obtain⟨h1,k⟩:=an k;obtain⟨h2,h3⟩:=an k;cases of_decide_eq_true h1;exact Di (Dq hu (ia _ o h2) (ib _ o h3)) (eh h4 _)
  |nink=>
   obtain⟨a',op,b',p,rfl,h4,k⟩:=kB h;obtain⟨h1,k⟩:=an k;obtain⟨h2,h3⟩:=an k;cases of_decide_eq_true h1;exact Di (sC hu (ia _ o h2) (ib _ o h3)) (eh h4 _)
  |getk=>
   obtain⟨o',ap,es,cp,rfl,h4,k⟩:=mj h;obtain⟨a',rfl,k⟩:=iP k;obtain⟨h1,k⟩:=an k;obtain⟨h2,h3⟩:=an k;exact Dh hu (ia _ o h2) (ib _ o h3) (m1_of h1 h4 h3)
  |nek=>
   obtain⟨a',op,b',p,rfl,h4,k⟩:=kB h;obtain⟨h1,k⟩:=an k;obtain⟨h2,h3⟩:=an k;cases of_decide_eq_true h1;exact yW (Dt hu) (ia _ o h2) (ib _ o h3) (eh h4 _)
theorem sT_x2{k:X2}{a b:CE}(ia:IHE CX G a)(ib:IHE CX G b):IHT CX G (.x2 k a b):=by
  intro e E sc N all X o h0;obtain⟨_,h⟩:=an h0;have hu:X.A.units+1<cLine:=by have :=o.hu;omega
  cases k with
  |ink=>
   obtain⟨a',op,b',p,rfl,h4,k⟩:=kB h;obtain⟨h1,k⟩:=an k;obtain⟨h2,h3⟩:=an k;cases of_decide_eq_true h1;exact CT (Dq hu (ia _ o h2) (ib _ o h3)) (eh h4 _)
  |nink=>
   obtain⟨a',op,b',p,rfl,h4,k⟩:=kB h;obtain⟨h1,k⟩:=an k;obtain⟨h2,h3⟩:=an k;cases of_decide_eq_true h1;exact CT (sC hu (ia _ o h2) (ib _ o h3)) (eh h4 _)
  |nek=>
   obtain⟨a',op,b',p,rfl,h4,k⟩:=kB h;obtain⟨h1,k⟩:=an k;obtain⟨h2,h3⟩:=an k;cases of_decide_eq_true h1;exact yQ (Dt hu) (ia _ o h2) (ib _ o h3) (eh h4 _)
  |_=>exact fun _ _ _ _ _ _ z=>z.elim
theorem sE_thaw{a:CE}(ia:IHE CX G a):IHE CX G (.tM a):=by
  intro e E sc N all X o h;exact pe_thaw (ia _ o (an h).2)
theorem sE_get2{b a c:CE}(ib:IHE CX G b)(ia:IHE CX G a)(ic:IHE CX G c):IHE CX G (.get2 b a c):=by
  intro e E sc N all X o h;obtain⟨o',ap,es,cp,rfl,h0,k⟩:=mj h;obtain⟨a',b',rfl,l⟩:=oK k;obtain⟨h1,h2,m⟩:=fQ l;obtain⟨h3,h4⟩:=an m;exact Dg (by have :=o.hu;omega) (ib _ o h2) (ia _ o h3) (ic _ o h4) ⟨jF h1 _ _ _,by rw[bH h3,bH h4];rfl,h0,by rw[bH h3,bH h4];rfl⟩
theorem sE_clrk{b:CE}(ib:IHE CX G b):IHE CX G (.clrk b):=by
  intro e E sc N all X o h;obtain⟨o',ap,es,cp,rfl,h0,k⟩:=mj h;obtain⟨h1,h2,h3⟩:=fQ k;obtain rfl:=nil_of h1;exact Dm dP u6 PySem.F.type_dict_clear mt_clrK (ib _ o h3) (jF h2 _ _ _) h0
theorem sE_setk{b a c:CE}(ib:IHE CX G b)(ia:IHE CX G a)(ic:IHE CX G c):IHE CX G (.setk b a c):=by
  intro e E sc N all X o h;obtain⟨o',ap,es,cp,rfl,h0,k⟩:=mj h;obtain⟨a',b',rfl,l⟩:=oK k;obtain⟨h1,h2,m⟩:=fQ l;obtain⟨h3,h4⟩:=an m;exact pe_bm dP rB PySem.F.type_dict_setdefault mt_setK (ib _ o h2) (fg (ia _ o h3) (fg (ic _ o h4) jA (bH h4 _ _)) (bH h3 _ _)) (jF h1 _ _ _) (by rw[bH h3,bH h4];rfl) h0 (bH h3 _ _) (by rw[bH h4];rfl)
theorem sE_comp(hCX:HX CX){own:List Str}{fr:List Nat}{tg:CG}{it:CI}{cond:CO}{elt:CE}(ii:IHI CX G it)(ig:IHG CX G tg)(ic:IHC CX G cond)(ie:IHE CX G elt):IHE CX G (.comp own fr tg it cond elt):=by
  intro e E sc N all X o h;obtain⟨elt',gs,sc',p,rfl,k⟩:=ye h;obtain⟨⟨tg',it',ifs',y⟩,rfl,l⟩:=iP k;obtain⟨h1,h2,h3,m⟩:=kZ l;obtain⟨h4,h5,h6,h7⟩:=kZ m;cases of_decide_eq_true h1;have S:=qi h2;exact pe_comp (S.comp o) (S.mkOk o) o.calm (ii _ _ o h4)
   (fun C s₀ H₀ fp _=>⟨ig _ (o.comp hCX S C s₀ H₀ fp) h5,ic _ (o.comp hCX S C s₀ H₀ fp) h6,ie _ (o.comp hCX S C s₀ H₀ fp) h7⟩) (um (nX h3) _)
theorem sT_cmp{op:CmpOp}{a b:CE}(ia:IHE CX G a)(ib:IHE CX G b):IHT CX G (.cmp op a b):=by
  intro e E sc N all X o h;obtain⟨a',op',b',p,rfl,h0,k⟩:=kB h;obtain⟨h1,h2,h3⟩:=fQ k;cases of_decide_eq_true h1;exact yQ (kN o.hu op) (ia _ o h2) (ib _ o h3) (eh h0 op)
theorem Cj{o1 o2:CmpOp}{a b c:CE}(ia:IHE CX G a)(ib:IHE CX G b)(ic:IHE CX G c):IHT CX G (.chain o1 o2 a b c):=by
  intro e E sc N all X o h;obtain⟨a',os,es,p,rfl,k⟩:=yg h;obtain⟨p',q',rfl,l⟩:=oK k;obtain⟨b',c',rfl,m⟩:=oK l;obtain⟨h1,h2,h3,n⟩:=kZ m;obtain⟨h4,h5,h6⟩:=fQ n;cases of_decide_eq_true h1;cases of_decide_eq_true h2;exact CU (kN o.hu o1) (kN o.hu o2) (ia _ o h4) (ib _ o h5) (ic _ o h6) (eh (nX h3) o2)
theorem sT_not{a:CE}(ia:IHT CX G a):IHT CX G (.not a):=by
  intro e E sc N all X o h;obtain⟨op',a',p,rfl,k⟩:=uD h;obtain⟨h1,h2⟩:=an k;cases of_decide_eq_true h1;exact pt_not (ia _ o h2)
theorem sT_var{i:Nat}:IHT CX G (.var i):=by
  intro e E sc N all X o h;have q:=Cq e o h;obtain⟨x,p,rfl,k⟩:=jE h;exact jh q fun _=>rfl
theorem sT_con{c:Const}:IHT CX G (.con c):=by
  intro e E sc N all X o h;have q:=Cw e o h;obtain⟨x,j,p,rfl,k⟩:=yf h;exact jh q fun _=>rfl
theorem sT_glo{x:Str}:IHT CX G (.glo x):=by
  intro e E sc N all X o h;have q:=Cv e o h;obtain⟨x,p,rfl,k⟩:=jE h;exact jh q fun _=>rfl
theorem sT_idx{a i:CE}(ia:IHE CX G a)(ii:IHE CX G i):IHT CX G (.idx a i):=by
  intro e E sc N all X o h;have q:=Cu ia ii e o h;obtain⟨x,y,p,rfl,k⟩:=mi h;exact jh q fun _=>rfl
theorem sT_call{f:Str}{es:CL}(ie:IHL CX G es):IHT CX G (.call f es):=by
  intro e E sc N all X o h;have q:=yH ie e o h;obtain⟨x,np,es,p,rfl,k⟩:=iA h;exact jh q fun _=>rfl
theorem sT_bfn{b:Bf}{es:CL}(ie:IHL CX G es):IHT CX G (.bfn b es):=by
  intro e E sc N all X o h;have q:=Cz ie e o h;obtain⟨x,np,es,p,rfl,k⟩:=iA h;exact jh q fun _=>rfl
theorem Cg{a b:CE}(ia:IHT CX G a)(ib:IHT CX G b)(iw:IHW CX G b):IHW CX G (.and a b):=by
  intro e E sc N all X o h;obtain⟨op,a',x,p,k,m⟩:=og h;obtain⟨h1,h2,h3⟩:=fQ k;cases of_decide_eq_true h1;rcases m with rfl|⟨b',c',r,rfl,rfl⟩
  ·exact fun _=>CN (ia _ o h2) (pw_and1 (ib _ o h3))
  ·exact fun _=>CN (ia _ o h2) (iw _ o h3 rfl)
theorem sT_and{a b:CE}(iw:IHW CX G (.and a b)):IHT CX G (.and a b):=by
  intro e E sc N all X o h;obtain⟨op,a',x,p,k,m⟩:=og h;exact(iw _ o h (by rcases m with rfl|⟨b',c',r,rfl,rfl⟩<;>rfl)).pt
theorem sW_or{a b:CE}(ia:IHT CX G a)(ib:IHT CX G b)(iw:IHW CX G b):IHW CX G (.or a b):=by
  intro e E sc N all X o h;obtain⟨op,a',x,p,k,m⟩:=og h;obtain⟨h1,h2,h3⟩:=fQ k;cases of_decide_eq_true h1;rcases m with rfl|⟨b',c',r,rfl,rfl⟩
  ·exact fun _=>pw_or (ia _ o h2) (pw_or1 (ib _ o h3))
  ·exact fun _=>pw_or (ia _ o h2) (iw _ o h3 rfl)
theorem sT_or{a b:CE}(iw:IHW CX G (.or a b)):IHT CX G (.or a b):=by
  intro e E sc N all X o h;obtain⟨op,a',x,p,k,m⟩:=og h;exact(iw _ o h (by rcases m with rfl|⟨b',c',r,rfl,rfl⟩<;>rfl)).pt
theorem sL_nil:IHL CX G .nil:=by
  intro es E sc N all X o h;obtain rfl:=qS h;exact jA
theorem sL_cons{c:CE}{r:CL}(ic:IHE CX G c)(ir:IHL CX G r):IHL CX G (.cons c r):=by
  intro es E sc N all X o h;obtain⟨e',r',rfl,h1,h2⟩:=oh h;exact fg (ic _ o h1) (ir _ o h2) (bH h1 _ _)
theorem sP_nil:IHP CX G .nil:=by
  intro ks vs E sc N all X o h pos;obtain⟨h1,h2⟩:=an h;obtain rfl:=nil_of h1;obtain rfl:=nil_of h2;exact⟨pps_nil,rfl,rfl,fun z=>absurd rfl z⟩
theorem sP_cons{k v:CE}{r:CP}(ir:IHP CX G r)(ik:IHE CX G k)(iv:IHE CX G v):IHP CX G (.cons k v r):=by
  intro ks vs E sc N all X o h pos;obtain⟨k',ks',rfl,l⟩:=vm h;obtain⟨v',vs',rfl,m⟩:=vm l;obtain⟨k',rfl,n⟩:=yX m;obtain⟨h1,h2,h3⟩:=fQ n;obtain⟨p1,p2,p3,_⟩:=ir _ _ o h3 pos;exact⟨C1 (ik _ o h1) (iv _ o h2) p1,by simp[p2],by simp[p3],fun _=>by simp⟩
theorem sO_no:IHO CX G .no:=by
  intro e E sc N all X o h;obtain rfl:=dB.mp h;exact po_none
theorem sO_yes{c:CE}(ic:IHE CX G c):IHO CX G (.yes c):=by
  intro e E sc N all X o h;obtain⟨e',rfl,k⟩:=yX h;exact po_some (ic _ o k)
theorem sC_no:IHC CX G .no:=by
  intro es E sc N all X o h;obtain rfl:=nil_of h;exact pts_nil
theorem sC_yes{c:CE}(ic:IHT CX G c):IHC CX G (.yes c):=by
  intro es E sc N all X o h;obtain⟨e',rfl,k⟩:=iP h;exact pts_one (ic _ o k)
theorem sG_name{i:Nat}:IHG CX G (.name i):=by
  intro e E sc N all X o h;obtain⟨x,p,rfl,k⟩:=jE h;rw[aP,di,beq_iff_eq,beq_iff_eq,beq_iff_eq]at k;obtain⟨h1,h2⟩:=k;refine yV (by rw[o.names];exact o.nd) (by rw[o.names];exact h1) ?_ ?_
  ·rcases h2 with q|q
   ·exact .inl (o.loc x q)
   ·exact .inr (o.cel x q)
  ·rcases h2 with q|q
   ·exact .inr (o.loc x q)
   ·exact .inl (o.own x q)
theorem sG_tup{gs:CGs}(ig:A2 CX G gs):IHG CX G (.tup gs):=by
  intro e E sc N all X o h;obtain⟨es,j,p,rfl,k⟩:=yd h;obtain⟨a,b⟩:=kC k X.env;exact pg_tup o.calm (ig _ o k) a b
theorem sG_ltup{gs:CGs}(ig:A2 CX G gs):IHG CX G (.ltup gs):=by
  intro e E sc N all X o h;obtain⟨es,j,p,rfl,k⟩:=yd h;obtain⟨a,b⟩:=kC k X.env;exact pg_lst o.calm (ig _ o k) a b
theorem sG_sub{b i:CE}(ib:IHE CX G b)(ii:IHE CX G i):IHG CX G (.sub b i):=by
  intro e E sc N all X o h;obtain⟨o',i',p,rfl,k⟩:=mi h;obtain⟨h1,h2,h3⟩:=fQ k;refine pg_sub (ib _ o h2) (ii _ o h3) set_list fun v=>?_;cases i'<;>first
   |rfl
   |exact cR h1
theorem sGs_nil:A2 CX G .nil:=by
  intro es E sc N all X o h;obtain rfl:=tj h;exact pgs_nil
theorem Co{c:CG}{r:CGs}(ic:IHG CX G c)(ir:A2 CX G r):A2 CX G (.cons c r):=by
  intro es E sc N all X o h;obtain⟨e',r',rfl,h1,h2⟩:=qT h;exact C7 (ic _ o h1) (ir _ o h2) (by rw[qr h1];rfl)
theorem sI_seq{c:CE}(ic:IHE CX G c):IHI CX G (.seq c):=by
  intro e tg E sc N all X o h;exact pi_any (ic _ o h)
theorem sI_lseq{c:CE}(ic:IHE CX G c):IHI CX G (.lseq c):=by
  intro e tg E sc N all X o h;exact pi_list (ic _ o h)
theorem sI_tseq{c:CE}(ic:IHE CX G c):IHI CX G (.tseq c):=by
  intro e tg E sc N all X o h;exact pi_tup (ic _ o h)
theorem Aa{c:CE}(ic:IHE CX G c):IHI CX G (.range1 c):=by
  intro e tg E sc N all X o h;obtain⟨f,np,es,p,rfl,k⟩:=iA h;obtain⟨e',rfl,l⟩:=iP k;obtain⟨h1,h2,h3⟩:=fQ l;cases of_decide_eq_true h1;exact Ah (o.gl h2) (o.blt _ (by decide+kernel)) (fg (ic _ o h3) jA (bH h3 _ _)) (bH h3 _ _)
theorem z9{a b:CE}(ia:IHE CX G a)(ib:IHE CX G b):IHI CX G (.range2 a b):=by
  intro e tg E sc N all X o h;obtain⟨f,np,es,p,rfl,k⟩:=iA h;obtain⟨a',b',rfl,l⟩:=oK k;obtain⟨h1,h2,h3,h4⟩:=kZ l;cases of_decide_eq_true h1;exact Ag (o.gl h2) (o.blt _ (by decide+kernel)) (fg (ia _ o h3) (fg (ib _ o h4) jA (bH h4 _ _)) (bH h3 _ _)) (by rw[bH h3,bH h4];rfl) (bH h4 _ _)
theorem sR{e:Expr}(h:kq e=true):∃es k p,e=.Tuple es k p:=by cases e<;>first |exact⟨_,_,_,rfl⟩ |exact cR h
theorem sI_zip{a b:CE}(ia:IHE CX G a)(ib:IHE CX G b):IHI CX G (.zip a b):=by
  intro e tg E sc N all X o h;obtain⟨f,np,es,p,rfl,k⟩:=iA h;obtain⟨a',b',rfl,l⟩:=oK k;obtain⟨h1,h2,h3,h4,h5⟩:=and5 l;cases of_decide_eq_true h1;obtain⟨es,j,p',rfl⟩:=sR h5;exact pi_zip (o.gl h2) (o.blt _ (by decide+kernel)) (fg (ia _ o h3) (fg (ib _ o h4) jA (bH h4 _ _)) (bH h3 _ _)) (bH h3 _ _) (by rw[bH h4];rfl)
theorem Cn{c:CE}(ic:IHE CX G c):IHI CX G (.dkeys c):=by
  intro e tg E sc N all X o h;exact pi_keys (ic _ o h)
theorem Ab{c:CE}(ic:IHE CX G c):IHI CX G (.ditems c):=by
  intro e tg E sc N all X o h;obtain⟨o',ap,es,cp,rfl,h0,k⟩:=mj h;obtain⟨h1,h2,h3,h4⟩:=kZ k;obtain rfl:=nil_of h1;obtain⟨es,j,p',rfl⟩:=sR h4;exact C6 (ic _ o h3) (jF h2 _ _ _) h0
theorem Cm{c:CE}(ic:IHE CX G c):IHI CX G (.lrevd c):=by
  intro e tg E sc N all X o h;obtain⟨f,np,es,p,rfl,k⟩:=iA h;obtain⟨e',rfl,l⟩:=iP k;obtain⟨h1,h2,h3⟩:=fQ l;cases of_decide_eq_true h1;exact pi_rev (o.gl h2) (o.blt _ (by decide+kernel)) (fg (ic _ o h3) jA (bH h3 _ _)) (bH h3 _ _)
mutual
theorem be(hCX:HX CX):∀c:CE,IHE CX G c
 |.var i=>Cq
 |.con c=>Cw
 |.glo x=>Cv
 |.ty t=>sE_ty
 |.bin op a b=>sE_bin (be hCX a) (be hCX b)
 |.un op a=>sE_un (be hCX a)
 |.cmp op a b=>sE_cmp (be hCX a) (be hCX b)
 |.chain o1 o2 a b c=>Cy (be hCX a) (be hCX b) (be hCX c)
 |.not a=>sE_not (be hCX a)
 |.and a b=>sE_and (be hCX a) (be hCX b)
 |.or a b=>sE_or (be hCX a) (be hCX b)
 |.ite c a b=>sE_ite (gh hCX c) (be hCX a) (be hCX b)
 |.idx a i=>Cu (be hCX a) (be hCX i)
 |.cut a lo hi=>sE_cut (be hCX a) (Cc hCX lo) (Cc hCX hi)
 |.tup es=>sE_tup (kh hCX es)
 |.lst es=>sE_lst (kh hCX es)
 |.dic ps=>sE_dic (Cb hCX ps)
 |.call f es=>yH (kh hCX es)
 |.bfn b es=>Cz (kh hCX es)
 |.meth0 m b=>Cs (be hCX b)
 |.meth1 m b a=>Cr (be hCX b) (be hCX a)
 |.dicT=>sE_dicT
 |.divb a b=>sE_divb (be hCX a) (be hCX b)
 |.clrk b=>sE_clrk (be hCX b)
 |.rev a=>sE_rev (be hCX a)
 |.sset a=>sE_sset (be hCX a)
 |.lrev a=>sE_lrev (be hCX a)
 |.x2 k a b=>sE_x2 (be hCX a) (be hCX b)
 |.tM a=>sE_thaw (be hCX a)
 |.get2 b a c=>sE_get2 (be hCX b) (be hCX a) (be hCX c)
 |.setk b a c=>sE_setk (be hCX b) (be hCX a) (be hCX c)
 |.comp own fr tg it cond elt=>sE_comp hCX (xA hCX it) (qg hCX tg) (Cd hCX cond) (be hCX elt)
theorem gh(hCX:HX CX)(c:CE):IHT CX G c:=by
 cases c with
 |cmp op a b=>exact sT_cmp (be hCX a) (be hCX b)
 |chain p q a b c=>exact Cj (be hCX a) (be hCX b) (be hCX c)
 |not a=>exact sT_not (gh hCX a)
 |and a b=>exact sT_and (Cg (gh hCX a) (gh hCX b) (tR hCX b))
 |or a b=>exact sT_or (sW_or (gh hCX a) (gh hCX b) (tR hCX b))
 |var i=>exact sT_var
 |con c=>exact sT_con
 |glo x=>exact sT_glo
 |idx a i=>exact sT_idx (be hCX a) (be hCX i)
 |call f es=>exact sT_call (kh hCX es)
 |bfn b es=>exact sT_bfn (kh hCX es)
 |x2 k a b=>exact sT_x2 (be hCX a) (be hCX b)
 |_=>exact fun _ _ _ _ _ _ _ _ _ _ _ _ _ _ z=>z.elim
theorem tR(hCX:HX CX)(c:CE):IHW CX G c:=by
 cases c with
 |and a b=>exact Cg (gh hCX a) (gh hCX b) (tR hCX b)
 |or a b=>exact sW_or (gh hCX a) (gh hCX b) (tR hCX b)
 |_=>
  intro e E sc N all X o h hb;cases e<;>first
   |exact cR h
   |exact cR hb
theorem kh(hCX:HX CX):∀c:CL,IHL CX G c
 |.nil=>sL_nil
 |.cons c r=>sL_cons (be hCX c) (kh hCX r)
theorem Cb(hCX:HX CX):∀c:CP,IHP CX G c
 |.nil=>sP_nil
 |.cons k v r=>sP_cons (Cb hCX r) (be hCX k) (be hCX v)
theorem Cc(hCX:HX CX):∀c:CO,IHO CX G c
 |.no=>sO_no
 |.yes c=>sO_yes (be hCX c)
theorem Cd(hCX:HX CX):∀c:CO,IHC CX G c
 |.no=>sC_no
 |.yes c=>sC_yes (gh hCX c)
theorem qg(hCX:HX CX):∀c:CG,IHG CX G c
 |.name i=>sG_name
 |.tup gs=>sG_tup (tS hCX gs)
 |.ltup gs=>sG_ltup (tS hCX gs)
 |.sub ob i=>sG_sub (be hCX ob) (be hCX i)
theorem tS(hCX:HX CX):∀c:CGs,A2 CX G c
 |.nil=>sGs_nil
 |.cons c r=>Co (qg hCX c) (tS hCX r)
theorem xA(hCX:HX CX):∀c:CI,IHI CX G c
 |.seq c=>sI_seq (be hCX c)
 |.lseq c=>sI_lseq (be hCX c)
 |.tseq c=>sI_tseq (be hCX c)
 |.range1 c=>Aa (be hCX c)
 |.range2 a b=>z9 (be hCX a) (be hCX b)
 |.zip a b=>sI_zip (be hCX a) (be hCX b)
 |.dkeys e=>Cn (be hCX e)
 |.ditems e=>Ab (be hCX e)
 |.lrevd e=>Cm (be hCX e)
end
end
section
variable {CX:CXT}{G:Gam}
theorem xQ{sc:Scope}{N:List Str}{all:Bool}{g:CG}{tg e:Expr}(h:wA sc N all g tg=true)(hn:(kq tg&&kq e)=false)(env:Env):swappedStores [tg] e env=pure none:=by
 cases tg with
 |Tuple es k p=>
  cases e<;>first
   |rfl
   | (exact absurd hn (by simp[kq]))
 |List es p=>cases g<;>exact cR h
 |_=>rfl
theorem vp{a:Expr}{b:List Comprehension}{c:Scope}{d p:Pos}{x:Str}{l:Nat}{env:Env}(h:env.kindOf x≠some .local):mx (.ListComp a b c d) (some (.Name x p)) l env=pure false:=by
 show(pure (env.blockKind== .function&&env.kindOf x==some .local&&p.line==d.line&& !(c.names.any fun(n,k)=>n==x&&(k== .local||k== .cell))):Sem Bool)=pure false;have e:(env.kindOf x==some cZ.local)=false:=by simpa using h
 rw[e,eZ,eY,eY]
theorem xw{a:Expr}{b:List Comprehension}{c:Scope}{d p:Pos}{x:Str}{l:Nat}{env:Env}(hk:env.scope.kind=.function)(h:env.kindOf x=some .local)(hl:p.line=d.line)
  (hn:(c.names.any fun y=>decide (y.1=x)&&(decide (y.2=.local)||decide (y.2=.cell)))=false):mx (.ListComp a b c d) (some (.Name x p)) l env=pure true:=by
 show(pure (env.blockKind== .function&&env.kindOf x==some .local&&p.line==d.line&& !(c.names.any fun(n,k)=>n==x&&(k== .local||k== .cell))):Sem Bool)=pure true;have e1:env.blockKind=.function:=by unfold Env.blockKind;rw[hk];rfl
 have e2:(c.names.any fun(n,k)=>n==x&&(k==cZ.local||k==cq))=false:=by
  rw[<-hn];congr 1
 rw[e1,h,hl,e2];simp
theorem yk{c:CE}(h:isCe c=true):∃own fr tg it cond elt,c=.comp own fr tg it cond elt:=by
 cases c with
 |comp own fr tg it cond elt=>exact⟨_,_,_,_,_,_,rfl⟩
 |_=>exact cR h
structure OkL(G:Gam)(sc:Scope)(N:List Str)(X:Cx):Prop where
 names:X.N=N
 nd:N.Nodup
 loc:∀x,sc.names.lookup x=some .local->X.env.scope.names.lookup x=some .local
 cel:∀x,sc.names.lookup x=some .cell->X.env.scope.names.lookup x=some .cell
 fre:∀x,sc.names.lookup x=some .free->X.env.scope.names.lookup x=some .cell\/X.env.scope.names.lookup x=some .free
 glo:∀x,sc.names.lookup x=some .globalImplicit->X.env.scope.names.lookup x=some .globalImplicit
 all:∀x,X.fn x=true
 val:∀x v,G.val x=some v->∃u,X.mg x=some u/\RelV v u
 blt:∀x∈gC,X.mg x=none
mutual
theorem Ca(hCX:HX CX):∀(c:CS)(st:Stmt){E:XS}{sc:Scope}{N:List Str}{X:Cx},Ok CX G E sc N true X->(∀pins σ H s,Inv X pins σ H s->X.env.scope.kind=.function)->chkS sc N c st=true->PS X st (wpS G X.K E c)
 |.asg g e,st,E,sc,N,X,o,hk,h=>by
  obtain⟨g',e',p,rfl,k⟩:=yh h;obtain⟨h1,h2,h3,h4⟩:=kZ k;exact ps_asg (be hCX e _ o h2) (qg hCX g _ o h1) (uo (nX h3) _ _ _) (xQ h1 (nX h4) _) (by rw[qr h1];rfl)
 |.asgc i e,st,E,sc,N,X,o,hk,h=>by
  obtain⟨h0,h⟩:=an h;obtain⟨g',e',sp,rfl,k⟩:=yh h;obtain⟨x,p,rfl,l⟩:=jE k;obtain⟨a,b,c,d,rfl,m⟩:=ye l;obtain⟨h1,h2,h3,h4⟩:=kZ m;rw[beq_iff_eq]at h1;rw[di,beq_iff_eq,beq_iff_eq]at h2;rw[di,beq_iff_eq]at h4;obtain⟨own,fr,tg,it,cond,elt,rfl⟩:=yk h0;by_cases hl:X.env.scope.names.lookup x=some .local
  ·rcases h4 with q|q
   ·rw[o.cel x q]at hl;cases hl
   obtain⟨q1,q2⟩:=an q;obtain⟨elt',gs,sc',p',e1,r1⟩:=ye h3;cases e1;obtain⟨⟨tg',it',ifs',y⟩,rfl,r2⟩:=iP r1;obtain⟨g0,g1,g2,r3⟩:=kZ r2;obtain⟨g3,g4,g5,g6⟩:=kZ r3;cases of_decide_eq_true g0;have S:=qi g1;intro pins s σ H D I hw;exact xG (S.comp o) (S.mkOk o) o.calm (xA hCX it _ _ o g3)
    (fun C s₀ H₀ fp _=>⟨qg hCX tg _ (o.comp hCX S C s₀ H₀ fp) g4,Cd hCX cond _ (o.comp hCX S C s₀ H₀ fp) g5,be hCX elt _ (o.comp hCX S C s₀ H₀ fp) g6⟩)
    (by rw[o.names];exact o.nd) (by rw[o.names];exact h1) hl (xw (hk pins σ H s I) hl (of_decide_eq_true q1) (nX q2)) (um (nX g2) _) pins s σ H D I hw
  ·have hc:sc.names.lookup x=some .cell:=by
    rcases h2 with q|q
    ·exact absurd (o.loc x q) hl
    ·exact q
   exact ps_set (by rw[o.names];exact o.nd) (by rw[o.names];exact h1) (.inr (o.cel x hc)) (be hCX _ _ o h3) (vp (by rw[show X.env.kindOf x=_ from o.cel x hc];decide)) (.inl (o.all rfl x))
 |.expr e,st,E,sc,N,X,o,hk,h=>by
  obtain⟨e',p,rfl,k⟩:=dEx_of h;obtain⟨h1,h2⟩:=an k;exact ps_expr (be hCX e _ o h1) (uo (nX h2) _ _ _)
 |.iff c a b,st,E,sc,N,X,o,hk,h=>by
  obtain⟨c',a',b',p,rfl,k⟩:=dIs_of h;obtain⟨h1,h2,h3⟩:=fQ k;exact ps_if (gh hCX c _ o h1) (nQ hCX a _ o hk h2) (nQ hCX b _ o hk h3)
 |.whl c b,st,E,sc,N,X,o,hk,h=>by
  obtain⟨c',b',p,rfl,k⟩:=dWh_of h;obtain⟨h1,h2⟩:=an k;exact CW o.px (gh hCX c _ o h1) (nQ hCX b _ o hk h2)
 |.forr g it b,st,E,sc,N,X,o,hk,h=>by
  obtain⟨g',i',b',p,rfl,k⟩:=dFo_of h;obtain⟨h1,h2,h3,h4⟩:=kZ k;exact ps_for o.px o.calm (xA hCX it _ _ o h2) (qg hCX g _ o h1) (nQ hCX b _ o hk h4) (um (nX h3) _)
 |.ret e,st,E,sc,N,X,o,hk,h=>by
  obtain⟨r,p,rfl,k⟩:=D9 h;obtain⟨e',rfl,m⟩:=yX k;exact ps_ret (be hCX e _ o m)
 |.retN,st,E,sc,N,X,o,hk,h=>by
  obtain⟨r,p,rfl,k⟩:=D9 h;obtain rfl:=dB.mp k;exact ps_retN
 |.rais x es,st,E,sc,N,X,o,hk,h=>by
  obtain⟨x',np,es',cp,p,rfl,k⟩:=dRa_of h;obtain⟨h1,h2,h3,m⟩:=kZ k;obtain⟨h4,h5⟩:=an m;cases of_decide_eq_true h1;intro pins s σ H D I hw;obtain⟨C,hv,hkp,hq,hw⟩:=hw;obtain⟨u,hu,ru⟩:=o.val _ _ hv;obtain rfl:u=bI C:=ru;have hL:=kh hCX es _ o h5;obtain⟨_,_,rfl,hs⟩:=B7 h5 h4;exact CY (o.gl h2) hu hkp hq hL o.calm (km h3).1 (hs _ cp).1 (hs _ _).2 o.made pins s σ H D I hw
 |.thawS c,st,E,sc,N,X,o,hk,h=>ps_thaw (Ca hCX c st o hk h)
 |.putk b i e,st,E,sc,N,X,o,hk,h=>by
  obtain⟨g',e',p,rfl,k⟩:=yh h;obtain⟨o',i',p',rfl,l⟩:=mi k;obtain⟨h1,h2,h3,h4⟩:=kZ l;exact ps_dput (by have :=o.hu;omega) (be hCX b _ o h1) (be hCX i _ o h2) (be hCX e _ o h3) (uo (nX h4) _ _ _)
 |.pass,st,E,sc,N,X,o,hk,h=>by
  cases st<;>first
   |exact ps_pass
   |exact cR h
 |.brk,st,E,sc,N,X,o,hk,h=>by
  cases st<;>first
   |exact CZ
   |exact cR h
 |.cont,st,E,sc,N,X,o,hk,h=>by
  cases st<;>first
   |exact vD
   |exact cR h
theorem nQ(hCX:HX CX):∀(c:CB)(st:List Stmt){E:XS}{sc:Scope}{N:List Str}{X:Cx},Ok CX G E sc N true X->(∀pins σ H s,Inv X pins σ H s->X.env.scope.kind=.function)->qU sc N c st=true->PSs X st (wpB G X.K E c)
 |.hole,_,_,_,_,_,_,_,_=>fun _ _ _ _ _ _ z=>z.elim
 |.nil,st,E,sc,N,X,o,hk,h=>by
  obtain rfl:=nil_of h;exact pss_nil
 |.cons s r,st,E,sc,N,X,o,hk,h=>by
  obtain⟨s',r',rfl,k⟩:=vm h;obtain⟨h1,h2⟩:=an k;exact CV (Ca hCX s _ o hk h1) (nQ hCX r _ o hk h2)
end
end
structure GOk(P:Program)(w:World)(K:aa)(mg:Str->Option Value)(base:Heap)(CX:CXT)(k:Nat)(G:Gam):Prop where
 val:∀x v,G.val x=some v->∃u,mg x=some u/\RelV v u
 fn:∀x n sp dvs,G.fn x n=some (sp,dvs)->∃f fd ps ds j,j<=k/\iG P w K mg base CX j f fd ps sp/\mg x=some (.ref f)/\b9 K (.ref f)=true/\Binds K fd ps ds/\bJ dvs ds
 ini:∀x n C sp dvs,G.ini x n=some (C,sp,dvs)->∃f fd ps ds j,j+1<=k/\MkX K C f/\iG P w K mg base CX j f fd ps sp/\mg x=some (.ref C)/\Binds K fd ps ds/\bJ dvs ds
 dic:∀a kvs,G.dic a=some kvs->DkIn P w K a kvs
 mak:∀x n C sp dvs,G.mak x n=some (C,sp,dvs)->∃f fd ps ds j,j+1<=k/\Mk K C f/\iG P w K mg base CX j f fd ps sp/\mg x=some (.ref C)/\Binds K fd ps ds/\bJ dvs ds
 mth:∀m n C sp dvs,G.mth m n=some (C,sp,dvs)->∃f fd ps ds j,j<=k/\Cls K C/\Meth K C m f/\iG P w K mg base CX j f fd ps sp/\Binds K fd ps ds/\bJ dvs ds
 blt:∀x∈gC,mg x=none
noncomputable def qq(N ps:List Str)(sc:Scope):Bool:=
 decide (sc.kind=.function)&&decide (sc.isCoroutine=false)&&decide (sc.isGenerator=false)&&decide N.Nodup&&decide (N.take ps.length=ps)&&
 ps.all (fun x=>sc.names.lookup x==some .local||sc.names.lookup x==some .cell)&&sc.names.all (fun y=>decide (y.2≠.free))
theorem Dv{N ps:List Str}{sc:Scope}(h:qq N ps sc=true):uQ N ps sc:=by
 unfold qq at h;simp only[aP,dw,decide_eq_true_eq,beq_iff_eq,di]at h;obtain⟨⟨⟨⟨⟨⟨h1,h2⟩,h3⟩,h4⟩,h5⟩,h6⟩,h7⟩:=h;exact⟨h1,h2,h3,h4,h5,h6,h7⟩
section
variable {P:Program}{w:World}{K:aa}{mg:Str->Option Value}{base:Heap}
theorem wg{x qual:Str}{st:Stmt}{f:Addr}{oc dV kV doc pm cdv ct:Value}{od an:Option Addr}{osl:Array (Option Value)}{N ps:List Str}{k:Nat}{G:Gam}{sp:Sp}{code:CB}(lk:K.lookup f=some ⟨oc,od,.func (aL x qual (bB st) (bu st) (aR st) dV kV doc pm an cdv ct),osl⟩)(hcd:dO K cdv qual=true)(hd:qq N ps (aR st)=true)(hc:qU (aR st) N code (bu st)=true)
  (g:GOk P w K mg base (CXx P w) k G)(len:∀vs H Q E,sp vs H Q E->vs.length=ps.length)
  (h:∀vs H Q E,sp vs H Q E->wpB G K (fun _=>E) code {nx:=fun _ H'=>Q .non H',rt:=Q} (start N vs) H):iG P w K mg base (CXx P w) (k+1) f (aL x qual (bB st) (bu st) (aR st) dV kV doc pm an cdv ct) ps sp:=by
 have S:=Dv hd;refine fn_of lk hcd S len fun A outer s H vs Q E hr hsp=>?_;have o:Ok (CXx P w) G (fun _=>E) (aR st) N true (uE (CXx P w) P w K mg base N qual (aR st) f cdv A outer s H E):=
  {names:=rfl,top:=fun _=>⟨rfl,rfl,rfl⟩,nd:=S.nd,loc:=fun _ z=>z,cel:=fun _ z=>z,fre:=fun y z=>absurd rfl (S.nofree _ (bw z)),glo:=fun _ z=>z,all:=fun _ _=>rfl,own:=fun _ _=>rfl,calm:=rfl,
   hu:=by have :=hr.units;show _+50<cLine;exact pL (Nat.add_le_add_left (by decide) _) this
   val:=g.val
   fn:=fun y n sp' dvs e=>by
    obtain⟨f',fd',ps',ds',j,hj,F',hm,hk,hb,hv⟩:=g.fn y n sp' dvs e;exact⟨f',fd',ps',ds',j,F',hr.mono hj,hm,hk,hb,hv⟩
   ini:=fun y n C sp' dvs e=>by
    obtain⟨f',fd',ps',ds',j,hj,M,F',hm,hb,hv⟩:=g.ini y n C sp' dvs e;exact⟨f',fd',ps',ds',j,M,F',hr.mono hj,hm,hb,hv⟩
   dic:=g.dic
   mak:=fun y n C sp' dvs e=>by
    obtain⟨f',fd',ps',ds',j,hj,M,F',hm,hb,hv⟩:=g.mak y n C sp' dvs e;exact⟨f',fd',ps',ds',j,M,F',hr.mono hj,hm,hb,hv⟩
   mth:=fun y n C sp' dvs e=>by
    obtain⟨f',fd',ps',ds',j,hj,c,M,F',hb,hv⟩:=g.mth y n C sp' dvs e;exact⟨f',fd',ps',ds',j,c,M,F',hr.mono hj,hb,hv⟩
   blt:=g.blt,px:=PassesOwn.leaving,pass:=AX,made:=AY,madeX:=yq,cx:=rfl}
 exact⟨_,nQ (fun _ _ _ _ _ z=>cxx0 z) code _ o (fun _ _ _ _ _=>S.kind) hc,h vs H Q E hsp⟩
theorem zj{x qual:Str}{st:Stmt}{f:Addr}{fd:fI}{N ps:List Str}{k:Nat}{G:Gam}{sp:Sp}{code:CB}(F:Fun K x qual st f fd)(hd:qq N ps (aR st)=true)(hc:qU (aR st) N code (bu st)=true)
  (g:GOk P w K mg base (CXx P w) k G)(len:∀vs H Q E,sp vs H Q E->vs.length=ps.length)
  (h:∀vs H Q E,sp vs H Q E->wpB G K (fun _=>E) code {nx:=fun _ H'=>Q .non H',rt:=Q} (start N vs) H):iG P w K mg base (CXx P w) (k+1) f fd ps sp:=by
 obtain⟨oc,od,kV,doc,pm,an,cdv,ct,osl,rfl,lk,hcd⟩:=F.ex;exact wg lk hcd hd hc g len h
end
end R
namespace R
open PySem PySem.Spec PyProof.Rows L2
noncomputable def gam(vals:List (Str×V))(fns:List ((Str×Nat)×(Sp×List V)))(inis:List ((Str×Nat)×(Addr×Sp×List V)):=[]) (dics:List (Addr×List (Key×V)):=[]) (maks mths:List ((Str×Nat)×(Addr×Sp×List V)):=[]):Gam:=⟨fun x=>vals.lookup x,fun x n=>fns.lookup (x,n),fun x n=>inis.lookup (x,n),fun a=>dics.lookup a,fun x n=>maks.lookup (x,n),fun m n=>mths.lookup (m,n)⟩
theorem vX{β:Type}{a:Addr}{b:β}:∀{l:List (Addr×β)},l.lookup a=some b->(a,b)∈l
 | [],h=>nomatch h
 | (k,v)::l,h=>by
  rw[bt]at h;cases q:(a==k)with
  |true=>
   rw[q]at h;cases h;rw[beq_iff_eq.mp q];exact au
  |false=>
   rw[q]at h;exact aF _ (vX h)
section
variable {P:Program}{w:World}{K:aa}{mg:Str->Option Value}{base:Heap}{CX:CXT}
theorem GOk.start{vals:List (Str×V)}(hv:∀x v,(x,v)∈vals->∃u,mg x=some u/\RelV v u)(hb:∀x∈gC,mg x=none){dics:List (Addr×List (Key×V))}(hd:∀a kvs,(a,kvs)∈dics->DkIn P w K a kvs:=by intro a kvs h;exact nomatch h):GOk P w K mg base CX 0 (gam vals [] [] dics):=
 ⟨fun x v e=>hv x v (bw e),fun x n sp dvs e=>(nomatch e),fun x n C sp dvs e=>(nomatch e),fun a kvs e=>hd a kvs (vX (show ij a dics=some kvs from e)),fun x n C sp dvs e=>(nomatch e),fun x n C sp dvs e=>(nomatch e),hb⟩
theorem GOk.add{k n:Nat}{vals:List (Str×V)}{fns:List ((Str×Nat)×(Sp×List V))}{x:Str}{f:Addr}{fd:fI}{ps:List Str}{sp:Sp}{ds:List Value}{dvs:List V}{inis maks mths:List ((Str×Nat)×(Addr×Sp×List V))}{dics:List (Addr×List (Key×V))}(g:GOk P w K mg base CX k (gam vals fns inis dics maks mths))
  (F:iG P w K mg base CX (k+1) f fd ps sp)(hm:mg x=some (.ref f))(hk:b9 K (.ref f)=true)(hb:Binds K fd ps ds)(hd:bJ dvs ds):GOk P w K mg base CX (k+1) (gam vals (((x,n),(sp,dvs))::fns) inis dics maks mths):=by
 refine⟨g.val,fun y m sp' dvs' e=>?_,fun y m C sp' dvs' e=>?_,g.dic,fun y m C sp' dvs' e=>?_,fun y m C sp' dvs' e=>?_,g.blt⟩
 rotate_left
 rotate_left
 ·obtain⟨f',fd',ps',ds',j,hj,r⟩:=g.mak y m C sp' dvs' e
  exact⟨f',fd',ps',ds',j,dJ hj,r⟩
 ·obtain⟨f',fd',ps',ds',j,hj,r⟩:=g.mth y m C sp' dvs' e
  exact⟨f',fd',ps',ds',j,dJ hj,r⟩
 rotate_left
 ·obtain⟨f',fd',ps',ds',j,hj,r⟩:=g.ini y m C sp' dvs' e
  exact⟨f',fd',ps',ds',j,dJ hj,r⟩
 have e':ij (y,m) (((x,n),(sp,dvs))::fns)=some (sp',dvs'):=e;rw[bt]at e';cases q:((y,m)==(x,n))with
 |true=>
  rw[q]at e';have e2:(y,m)=(x,n):=eq_of_beq q;cases e2;cases e';exact⟨f,fd,ps,ds,k+1,ar _,F,hm,hk,hb,hd⟩
 |false=>
  rw[q]at e';obtain⟨f',fd',ps',ds',j,hj,r⟩:=g.fn y m sp' dvs' e';exact⟨f',fd',ps',ds',j,dJ hj,r⟩
end
section
variable {K:aa}{H:Hp}{Q:VK}{i j:Int}
theorem Er:jy K .Add (.int i) (.int j) H Q↔Q (.int (i+j)) H:=by
 simp[jy,rI0,rCat,yM,yN]
theorem BY:jy K .Sub (.int i) (.int j) H Q↔Q (.int (i-j)) H:=by simp[jy,rI0]
theorem DA:jy K .Mult (.int i) (.int j) H Q↔yw i j/\Q (.int (i*j)) H:=by simp[jy,rI,rRep,CH]
theorem qz:jy K .Mod (.int i) (.int j) H Q↔0<j/\Q (.int (i%j)) H:=by simp[jy,rI]
theorem div_ii:jy K .FloorDiv (.int i) (.int j) H Q↔CDiv i j/\Q (.int (i/j)) H:=by simp[jy,rI]
theorem pow_ii:jy K .Pow (.int i) (.int j) H Q↔Ex i j/\Q (.int (i^j.toNat)) H:=by simp[jy,rI]
theorem add_ss{x y:Str}:jy K .Add (.str x) (.str y) H Q↔x.length+y.length<=sizeLine/\Q (.str (x++y)) H:=by simp[jy,rI0,rCat,yM,yN]
theorem neg_i:rUn K .USub (.int i) H Q↔Q (.int (-i)) H:=by simp[rUn,rU]
theorem DH:gJ K .Lt (.int i) (.int j) H Q↔Q (.bl (decide (i<j))) H:=by simp[gJ,rI0]
theorem le_ii:gJ K .LtE (.int i) (.int j) H Q↔Q (.bl (decide (i<=j))) H:=by simp[gJ,rI0]
theorem qK:gJ K .Gt (.int i) (.int j) H Q↔Q (.bl (decide (j<i))) H:=by simp[gJ,rI0]
theorem yK{d:D}:Rep K H d (.int i)↔d=.int i:=by
 cases d<;>simp[Rep,eq_comm]
theorem qM:gJ K .Eq (.int i) (.int j) H Q↔Q (.bl (decide (i=j))) H:=by
 simp only[gJ,rEqD,yK];constructor
 ·rintro⟨_,_,rfl,rfl,_,q⟩;exact q
 ·intro q;exact⟨_,_,rfl,rfl,aM _,q⟩
theorem oA:gJ K .NotEq (.int i) (.int j) H Q↔Q (.bl (!decide (i=j))) H:=by
 simp only[gJ,rNeD,yK];constructor
 ·rintro⟨_,_,rfl,rfl,_,q⟩;exact q
 ·intro q;exact⟨_,_,rfl,rfl,aM _,q⟩
theorem is_n{x:V}:gJ K .Is x .non H Q↔Q (.bl (decide (x=.non))) H:=by simp[gJ]
theorem isnot_n{x:V}:gJ K .IsNot x .non H Q↔Q (.bl (!decide (x=.non))) H:=by simp[gJ]
theorem len_s{z:Str}:rBf K .len [.str z] H Q↔z.length<=sizeLine/\Q (.int z.length) H:=by simp[rBf]
theorem idx_s{z:Str}:rIx K (.str z) (.int i) H Q↔∃c,z.length<=sizeLine/\atI z.cps.toList i=some c/\Q (.str ⟨#[c]⟩) H:=by
 simp[rIx,rIxL,rIxT,rIxS]
theorem cut_s{z:Str}{lo hi:Option Int}:rSlc K (.str z) lo hi H Q↔z.length<=sizeLine/\Q (.str (yi z lo hi)) H:=by
 simp[rSlc,rSlL,rSlS]
end
structure pF(J:It)(n:Nat)(it:Nat->V->Hp->Prop)(Hc:Hp->Prop):Prop where
 go:∀i H,Hc H->i<n->J.go i H
 stop:∀i H,Hc H->n<=i->J.stop i H
 yld:∀i H x H',Hc H->i<n->J.yld i H x H'->it i x H'/\aX H H'
section
variable {K:aa}
theorem eM{a:Addr}{xs:List V}:pF (Itl K a) xs.length (fun i x _=>xs[i]? =some x) (fun H=>SqL K H a xs) where
 go:=fun i H h hi=>⟨xs,xs[i],h,by simp[hi]⟩
 stop:=fun i H h hi=>⟨xs,h,hi⟩
 yld:=fun i H x H' h hi y=>by
  obtain⟨e,y⟩:=y;subst e;exact⟨y xs h,aX.refl _⟩
theorem nR{lo:Int}{n:Nat}:pF (Itr lo n) n (fun i x _=>x=.int (lo+i)) (fun _=>True) where
 go:=fun i H _ hi=>hi
 stop:=fun i H _ hi=>hi
 yld:=fun i H x H' _ hi y=>by
  obtain⟨e,y⟩:=y;subst e;exact⟨y,aX.refl _⟩
theorem seq_str{z:Str}:pF (Its z) z.length (fun i x _=>∃c,z.cps[i]? =some c/\x=.str ⟨#[c]⟩) (fun _=>True) where
 go:=fun i H _ hi=>hi
 stop:=fun i H _ hi=>hi
 yld:=fun i H x H' _ hi y=>by
  obtain⟨e,y⟩:=y;subst e;exact⟨y,aX.refl _⟩
theorem aB{H:Hp}{p:Addr}{o:HO}(h:H p=none):aX H (upd H p o):=fun b u e=>by rw[aI (bg e h)];exact e
noncomputable def ForB(J:It)(g:TG)(tb:TS)(D:Ends)(σ:L2.St)(H:Hp):Prop:=∃W:Nat->Nat->L2.St->Hp->Prop,(∃m,W 0 m σ H)/\∀i m σ H,W i m σ H->
 (J.stop i H/\D.nx σ H)\/(J.go i H/\∃N:L2.St->Hp->Prop,(∀σ' H',N σ' H'->∃m',m'<m/\W (i+1) m' σ' H')/\∀x H',J.yld i H x H'->g x σ H' fun σ2 H2=>tb {D with nx:=N,ct:=N,bk:=D.nx} σ2 H2)
noncomputable def zG(J:It)(g:TG)(tc:TT)(te:TE)(τ0:L2.St)(H1:Hp)(Q:VK):Prop:=∃W:Nat->Nat->L2.St->List V->Hp->Prop,(∃m,W 0 m τ0 [] H1)/\
 ∀i m τ acc H2,W i m τ acc H2->(J.stop i H2/\∀l,H2 l=none->Q (.ref l) (upd H2 l (.lst acc)))\/(J.go i H2/\∃N:L2.St->List V->Hp->Prop,(∀τ' acc' H',N τ' acc' H'->∃m',m'<m/\W (i+1) m' τ' acc' H')/\
  ∀x H3,J.yld i H2 x H3->g x τ H3 fun τ4 H4=>tc τ4 H4 fun b H5=>if b=true then te τ4 H5 fun v H6=>acc.length<sizeLine/\N τ4 (acc++[v]) H6 else N τ4 acc H5)
theorem for_seq{J:It}{n:Nat}{it:Nat->V->Hp->Prop}{Hc:Hp->Prop}{g:TG}{tb:TS}{D:Ends}{σ:L2.St}{H:Hp}(S:pF J n it Hc)(Pv:Nat->L2.St->Hp->Prop)(h0:Pv 0 σ H)(hl:∀i σ H,i<=n->Pv i σ H->Hc H)
  (hs:∀i x σ H H',i<n->Pv i σ H->it i x H'->aX H H'->g x σ H' fun σ2 H2=>tb {D with nx:=Pv (i+1),ct:=Pv (i+1),bk:=D.nx} σ2 H2) (hd:∀σ H,Pv n σ H->D.nx σ H):
  ForB J g tb D σ H:=by
 refine⟨fun i m σ H=>m=n-i/\i<=n/\Pv i σ H,⟨n,by simp,aM _,h0⟩,?_⟩;rintro i m σ H ⟨rfl,hi,p⟩;have q:=hl i σ H hi p;by_cases hlt:i<n
 ·refine .inr ⟨S.go i H q hlt,Pv (i+1),fun σ' H' p'=>⟨n-(i+1),by omega,rfl,hlt,p'⟩,fun x H' y=>?_⟩
  obtain⟨y1,y2⟩:=S.yld i H x H' q hlt y;exact hs i x σ H H' hlt p y1 y2
 ·have e:i=n:=by omega
  subst e;exact .inl ⟨S.stop i H q (ar _),hd σ H p⟩
theorem jm{J:It}{n:Nat}{it:Nat->V->Hp->Prop}{Hc:Hp->Prop}{g:TG}{te:TE}{Q:VK}{τ0:L2.St}{H1:Hp}(S:pF J n it Hc)(hn:n<=sizeLine)(hc:∀H,aX H1 H->Hc H)
  (F:Nat->V->Hp->Prop)(Fm:∀i v H H',aX H H'->F i v H->F i v H')(T:L2.St->Prop)(hT:T τ0)
  (step:∀i x τ H3 (R:L2.St->V->Hp->Prop),i<n->T τ->aX H1 H3->it i x H3->(∀τ' v H6,T τ'->aX H3 H6->F i v H6->R τ' v H6)->g x τ H3 fun τ4 H4=>te τ4 H4 (R τ4))
  (fin:∀vs H2 l,vs.length=n->(∀(i:Nat) v,vs[i]? =some v->F i v H2)->aX H1 H2->H2 l=none->Q (.ref l) (upd H2 l (.lst vs))):
  zG J g zS te τ0 H1 Q:=by
 refine⟨fun i m τ acc H2=>m=n-i/\i<=n/\T τ/\acc.length=i/\aX H1 H2/\∀(k:Nat) v,acc[k]? =some v->F k v H2,⟨n,by simp,aM _,hT,rfl,aX.refl _,fun k v e=>by simp at e⟩,?_⟩;rintro i m τ acc H2 ⟨rfl,hi,ht,hl,sm,hF⟩;have q:=hc H2 sm;by_cases hlt:i<n
 ·refine .inr ⟨S.go i H2 q hlt,fun τ' acc' H'=>T τ'/\acc'.length=i+1/\aX H1 H'/\∀(k:Nat) v,acc'[k]? =some v->F k v H',fun τ' acc' H' ⟨a,b,c,d⟩=>⟨n-(i+1),by omega,rfl,hlt,a,b,c,d⟩,fun x H3 y=>?_⟩
  obtain⟨y1,y2⟩:=S.yld i H2 x H3 q hlt y;refine step i x τ H3 (fun τ' v H6=>acc.length<sizeLine/\T τ'/\(acc++[v]).length=i+1/\aX H1 H6/\∀(k:Nat) v',(acc++[v])[k]? =some v'->F k v' H6) hlt ht (sm.trans y2) y1 fun τ' v H6 ht' s6 f6=>⟨by omega,ht',by simp[hl],(sm.trans y2).trans s6,fun k v' e=>?_⟩;by_cases hk:k<acc.length
  ·rw[fw hk]at e
   exact Fm k v' H2 H6 (y2.trans s6) (hF k v' e)
  ·rw[cP (by omega)]at e
   have hk0:k-acc.length=0:=by
    have :=(bE.mp e).1
    simp at this;omega
   rw[hk0]at e;have hk':k=i:=by omega
   simp at e;subst e;rw[hk'];exact f6
 ·have e:i=n:=by omega
  subst e;exact .inl ⟨S.stop i H2 q (ar _),fun l hl'=>fin acc H2 l hl hF sm hl'⟩
theorem gU{wi:TI}{g:TG}{tc:TT}{te:TE}{mk:L2.St->L2.St}{σ:L2.St}{H:Hp}{Q:VK}(h:wi σ H fun J H1=>zG J g tc te (mk σ) H1 Q):qe wi g tc te mk σ H Q:=h
theorem gO{wi:TI}{g:TG}{tb:TS}{D:Ends}{σ:L2.St}{H:Hp}(h:wi σ H fun J H1=>ForB J g tb D σ H1):tFor wi g tb D σ H:=h
theorem wN{i:Nat}{z:Str}{σ:L2.St}{H:Hp}{R:It->Hp->Prop}(hv:σ[i]? =some (some (.str z)))(h:R (Its z) H):AG K (mG i) σ H R:=⟨_,hv,.inr (.inr ⟨z,rfl,h⟩)⟩
theorem dA{i:Nat}{a:Addr}{xs:List V}{σ:L2.St}{H:Hp}{R:It->Hp->Prop}(hv:σ[i]? =some (some (.ref a)))(hq:SqL K H a xs)(h:R (Itl K a) H):AG K (mG i) σ H R:=⟨_,hv,.inl ⟨a,rfl,⟨xs,hq⟩,h⟩⟩
theorem bool_list{vs:List V}{n:Nat}{b:Nat->Bool}(hl:vs.length=n)(h:∀(i:Nat) v,vs[i]? =some v->v=.bl (b i)):vs=((aQ n).map b).map V.bl:=by
 apply dv
 ·simp[hl]
 ·intro i h1 h2
  have :=h i vs[i] (by simp[h1])
  simp[this]
theorem Ep{α:Type}(l:List α)(d:α)(f:α->Bool):((aQ l.length).map fun i=>f (l.getD i d)).all id=l.all f:=by
 rw[qb,lq];simp only[dw,dX,Function.comp,id];constructor
 ·intro h c hc
  obtain⟨i,hi,rfl⟩:=aT.mp hc;have :=h i hi;rw[aJ,ai hi]at this;exact this
 ·intro h i hi
  have :=h _ (du hi)
  rw[aJ,ai hi];exact this
end
noncomputable def HasFn(K:aa)(x:Str)(st:Stmt):Prop:=∃(f:Addr)(oc:Value)(od an:Option Addr)(osl:Array (Option Value))(kV doc pm cdv ct:Value),eV K bV x=some (some (.ref f))/\
 K.lookup f=some ⟨oc,od,.func (aL x x (bB st) (bu st) (aR st) .none kV doc pm an cdv ct),osl⟩/\dO K cdv x=true/\b9 K (.ref f)=true
theorem bP{K:aa}{x:Str}{st:Stmt}{f:Addr}{oc:Value}{od an:Option Addr}{osl:Array (Option Value)}{kV doc pm cdv ct:Value}(a:eV K bV x=some (some (.ref f)))
  (l:K.lookup f=some ⟨oc,od,.func (aL x x (bB st) (bu st) (aR st) .none kV doc pm an cdv ct),osl⟩)(c:dO K cdv x=true)(k:b9 K (.ref f)=true):HasFn K x st:=
 ⟨f,oc,od,an,osl,kV,doc,pm,cdv,ct,a,l,c,k⟩
structure Def(K:aa)(mg:Str->Option Value)(x:Str)(st:Stmt):Prop where
 ex:∃f fd,Fun K x x st f fd/\mg x=some (.ref f)
theorem HasFn.def{K:aa}{h:Heap}{mg:Str->Option Value}{x:Str}{st:Stmt}(X:K.In h)(Gm:h.Ns bV mg)(H:HasFn K x st):Def K mg x st:=by
 obtain⟨f,oc,od,an,osl,kV,doc,pm,cdv,ct,a,l,c,k⟩:=H;exact⟨f,_,DV l c k,gH X Gm a⟩
section
variable {P:Program}{w:World}{K:aa}{mg:Str->Option Value}{base:Heap}
theorem cI{k:Nat}{vals:List (Str×V)}{fns:List ((Str×Nat)×(Sp×List V))}{x:Str}{st:Stmt}{N ps:List Str}{sp:Sp}{code:CB}{inis maks mths:List ((Str×Nat)×(Addr×Sp×List V))}{dics:List (Addr×List (Key×V))}(g:GOk P w K mg base (CXx P w) k (gam vals fns inis dics maks mths))(d:Def K mg x st)
  (hc:(qq N ps (aR st)&&qU (aR st) N code (bu st))=true)
  (hb:∀(kV doc pm:Value)(an:Option Addr)(cdv ct:Value)(us:List Value),us.length=ps.length->bindArgs (aL x x (bB st) (bu st) (aR st) .none kV doc pm an cdv ct) ⟨us,[]⟩=pure (ps.zip us))
  (len:∀vs H Q E,sp vs H Q E->vs.length=ps.length)
  (h:∀vs H Q E,sp vs H Q E->wpB (gam vals fns inis dics maks mths) K (fun _=>E) code {nx:=fun _ H'=>Q .non H',rt:=Q} (L2.start N vs) H):GOk P w K mg base (CXx P w) (k+1) (gam vals (((x,ps.length),(sp,[]))::fns) inis dics maks mths):=by
 rw[aP]at hc;obtain⟨f,fd,F,hm⟩:=d.ex;exact g.add (n:=ps.length) (zj F hc.1 hc.2 g len h) hm F.kp (F.binds hb) .nil
end
end R
set_option hygiene false in
local macro_rules | `(tactic| walk_at "wp") => `(tactic| simp only [_root_.R.wpB, _root_.R.wpS, _root_.R.wpE, _root_.R.wpT, _root_.R.wpL, _root_.R.wpO, _root_.R.wpC, _root_.R.wpG, _root_.R.BB, _root_.R.wpI, _root_.L2.tSeq, _root_.L2.tRet, _root_.L2.BN, _root_.L2.vn, _root_.L2.zT, _root_.L2.BR, _root_.L2.tIfS, _root_.L2.BX, _root_.L2.tOrV, _root_.L2.BP, _root_.L2.tNot, _root_.L2.tAnd, _root_.L2.tOr, _root_.L2.ow, _root_.R.xr, _root_.L2.tIf, _root_.L2.tCB, _root_.L2.gz, _root_.L2.lZ, _root_.L2.mG, _root_.L2.tC, _root_.L2.tOp, _root_.L2.tUn, _root_.L2.qf, _root_.L2.tTup, _root_.L2.tLst, _root_.L2.vo, _root_.L2.tBM, _root_.L2.tBM0, _root_.L2.tSl, _root_.L2.BO, _root_.L2.tO, _root_.R.cv, _root_.L2.mX, _root_.L2.gSub, _root_.L2.CA, _root_.L2.BV, _root_.L2.tDIn, _root_.L2.pO, _root_.L2.xv, _root_.L2.xu, _root_.R.X2.t, _root_.R.X2.tt, _root_.L2.BL, _root_.L2.Ci, _root_.L2.DR, _root_.L2.x9, _root_.L2.iRev, _root_.L2.nO, _root_.L2.BQ, _root_.L2.gTup, _root_.L2.we, _root_.L2.gNil, _root_.R.CGs.len, _root_.L2.DP, _root_.L2.DO, _root_.L2.DQ, _root_.L2.iTup, _root_.L2.iEnum, _root_.List.getElem?_cons_zero, _root_.List.getElem?_cons_succ, _root_.Option.some.injEq, _root_.exists_eq_left', _root_.exists_eq_left, _root_.L2.V.bl.injEq, _root_.L2.V.int.injEq, _root_.L2.V.str.injEq, _root_.List.set_cons_zero, _root_.List.set_cons_succ, _root_.R.CL.len, _root_.R.Ty.t, _root_.R.Er, _root_.R.BY, _root_.R.DA, _root_.R.qz, _root_.R.div_ii, _root_.R.pow_ii, _root_.R.add_ss, _root_.R.neg_i, _root_.R.DH, _root_.R.le_ii, _root_.R.qK, _root_.R.qM, _root_.R.oA, _root_.R.is_n, _root_.R.isnot_n, _root_.R.len_s, _root_.R.idx_s, _root_.R.cut_s, _root_.List.append_nil, _root_.R.jw, _root_.List.map_cons, _root_.List.map_nil, _root_.List.nil_append, _root_.List.cons_append])
namespace Cp
open PySem R
noncomputable def xM:List Str:=["thing"]
noncomputable def qw:List Str:=["thing"]
noncomputable def rf:CB:=
  (.cons (.ret (.and (.bfn .isinstance (.cons (.var 0) (.cons (.ty .int) .nil))) (.not (.bfn .isinstance (.cons (.var 0) (.cons (.ty .bool) .nil))))))
  .nil)
noncomputable def Ap:List Str:=["thing"]
noncomputable def sI:List Str:=["thing"]
noncomputable def tw:CB:=
  (.cons (.iff (.not (.bfn .isinstance (.cons (.var 0) (.cons (.ty .str) .nil))))
  (.cons (.ret (.con (.bool false)))
  .nil)
  .nil)
  (.cons (.iff (.not (.chain .LtE .LtE (.con (.int 1)) (.bfn .len (.cons (.var 0) .nil)) (.glo "LONGEST_NAME")))
  (.cons (.ret (.con (.bool false)))
  .nil)
  .nil)
  (.cons (.ret (.bfn .all (.cons (.comp ["sign"] [] (.name 0) (.seq (.var 0)) .no (.cmp .In (.var 0) (.glo "LETTERS"))) .nil)))
  .nil)))
noncomputable def uf:List Str:=["thing"]
noncomputable def mR:List Str:=["thing"]
noncomputable def ni:CB:=
  (.cons (.ret (.and (.call "is_whole" (.cons (.var 0) .nil)) (.cmp .In (.var 0) (.tup (.cons (.con (.int 0)) (.cons (.con (.int 1)) .nil))))))
  .nil)
end Cp
set_option maxHeartbeats 1000000
namespace Cp
open PySem PySem.Spec PyProof.Rows L2 R
noncomputable def gA:Option HO->String
 |some (.lst _)=>"list"
 |some (.frz _ (.lst _))=>"list"
 |some (.tup _)=>"tuple"
 |some (.dK _)=>"dict"
 |some (.dT _)=>"dict"
 |_=>"?"
noncomputable def tyName(H:Hp):V->String
 |.non=>"NoneType"
 |.bl _=>"bool"
 |.int _=>"int"
 |.str _=>"str"
 |.ref a=>gA (H a)
 |_=>"?"
noncomputable def Known(H:Hp)(x:V):Prop:=tyName H x≠"?"
theorem Known.ty{K:aa}{H:Hp}{x:V}(h:Known H x):j6 K H x (.type (tyName H x)):=by
 cases x with
 |non=>exact .non
 |bl b=>exact .bl b
 |int i=>exact .int i
 |str s=>exact .str s
 |ref a=>
  have h':gA (H a)≠"?":=h;show j6 K H (.ref a) (.type (gA (H a)));cases e:H a with
  |none=>rw[e]at h';exact absurd rfl h'
  |some o=>
   rw[e]at h';cases o with
   |lst xs=>exact .lst e
   |tup xs=>exact .tup e
   |dK kvs=>exact .dK e
   |dT kvs=>exact .dT e
   |frz ob u=>
    cases u with
    |lst xs=>exact .frz e
    |_=>exact absurd rfl h'
   |_=>exact absurd rfl h'
 |_=>exact absurd rfl h
theorem Known.mem{H:Hp}{x:V}(h:Known H x):tyName H x∈["NoneType","bool","int","str","list","tuple","dict"]:=by
 cases x with
 |ref a=>
  have h':gA (H a)≠"?":=h;show gA (H a)∈_;cases e:H a with
  |none=>rw[e]at h';exact absurd rfl h'
  |some o=>
   rw[e]at h';cases o with
   |lst xs=>simp[gA]
   |tup xs=>simp[gA]
   |dK kvs=>simp[gA]
   |dT kvs=>simp[gA]
   |frz ob u=>
    cases u with
    |lst xs=>simp[gA]
    |_=>exact absurd rfl h'
   |_=>exact absurd rfl h'
 |_=>first
  |exact absurd rfl h
  |simp[tyName]
noncomputable def ke(a b:String):Bool:=a==b||(a=="bool"&&b=="int")
theorem kit_ty(K:aa):∀(a:String)(t:Ty),a∈["NoneType","bool","int","str","list","tuple","dict"]->fY K (.type a) (.type t.t)=some (ke a t.t):=by
 intro a t h;simp only[aK,bA,or_false]at h;rcases h with rfl|rfl|rfl|rfl|rfl|rfl|rfl<;>cases t<;>rfl
theorem isi{K:aa}{H:Hp}{x:V}{Q:VK}(h:Known H x)(t:Ty)(q:Q (.bl (ke (tyName H x) t.t)) H):rBf K .isinstance [x,.ty t.t] H Q:=
 .inl ⟨x,t.t,_,_,rfl,h.ty,kit_ty K _ t h.mem,q⟩
theorem xY{H:Hp}{i:Int}:Known H (.int i):=by show "int"≠"?";decide
theorem ux{H:Hp}{x:Str}:Known H (.str x):=by show "str"≠"?";decide
theorem DI{H:Hp}{a:Addr}{xs:List V}(h:H a=some (.tup xs)):Known H (.ref a):=by show gA (H a)≠"?";rw[h];show "tuple"≠"?";decide
theorem xX{H:Hp}{a:Addr}{xs:List V}(h:H a=some (.lst xs)):Known H (.ref a):=by show gA (H a)≠"?";rw[h];show "list"≠"?";decide
theorem kn_dK{H:Hp}{a:Addr}{xs:List (Key×V)}(h:H a=some (.dK xs)):Known H (.ref a):=by show gA (H a)≠"?";rw[h];show "dict"≠"?";decide
theorem cg{H H1:Hp}{l:Addr}{o:HO}(s:aX H H1)(h:H l=none):aX H (upd H1 l o):=fun b u e=>by rw[aI (bg e h)];exact s b u e
noncomputable def isWhole:V->Bool
 |.int _=>true
 |_=>false
noncomputable def jk:V->Bool
 |.int i=>i==0||i==1
 |_=>false
noncomputable def spB(f:V->Bool):Sp:=fun vs H Q _=>∃x,vs=[x]/\Known H x/\∀H',aX H H'->Q (.bl (f x)) H'
theorem sub_int{H:Hp}{x:V}(h:Known H x):(ke (tyName H x) "int"&& !ke (tyName H x) "bool")=isWhole x:=by
 cases x with
 |ref a=>
  have h':gA (H a)≠"?":=h;show(ke (gA (H a)) "int"&& !ke (gA (H a)) "bool")=false;unfold gA;split <;>rfl
 |_=>rfl
theorem vh{G:Gam}{K:aa}:Sat G K (spB isWhole) rf qw:=by
 rintro vs H Q E ⟨x,rfl,hk,q⟩;unfold rf;change wpB G K _ _ _ [some x] H;walk_at "wp";refine isi hk .int ⟨_,rfl,?_⟩;have e:=sub_int hk;cases h1:ke (tyName H x) "int" with
 |false=>
  rw[h1,eY]at e;have q1:=q H (aX.refl H);rw[<-e]at q1;simpa[Ty.t,h1]using q1
 |true=>
  rw[h1,Bool.true_and]at e;have q1:=q H (aX.refl H);rw[<-e]at q1;simp only[Ty.t,h1,if_true];exact isi hk .bool ⟨_,rfl,q1⟩
theorem rM{G:Gam}{K:aa}(g1:G.fn "is_whole" 1=some (spB isWhole,[])):
  Sat G K (spB jk) ni mR:=by
 rintro vs H Q E ⟨x,rfl,hk,q⟩;unfold ni;change wpB G K _ _ _ [some x] H;walk_at "wp";refine⟨_,_,g1,x,rfl,hk,fun H1 s1=>⟨_,rfl,?_⟩⟩;cases x with
 |int i=>
  refine⟨by decide,fun p hp=>.inr ⟨p,_,rfl,.inr (SqT.of av),rfl,rfl,?_⟩⟩;have q1:=q _ (s1.trans (aB (o:=.tup [.int 0,.int 1]) hp));have e:(if false=true then !inV (.int i) [.int 0,.int 1]else inV (.int i) [.int 0,.int 1])=jk (.int i):=by
   show((0:Int)==i||((1:Int)==i||false))=(i==0||i==1);rw[xl,Bool.beq_comm,Bool.beq_comm (a:=(1:Int))]
  rw[e];exact q1
 |_=>exact q H1 s1
noncomputable def fO(c:Nat):Bool:=decide (97<=c/\c<=122)
noncomputable def gL(z:Str):Bool:=decide (1<=z.length/\z.length<=8)&&z.cps.toList.all fO
noncomputable def isName:V->Bool
 |.str z=>gL z
 |_=>false
noncomputable def LETTERS:Str:="abcdefghijklmnopqrstuvwxyz"
theorem vZ(c:Nat):decide (c∈LETTERS.cps.toList)=fO c:=by
 unfold fO;rw[show LETTERS.cps.toList=List.range' 97 26 by decide+kernel,decide_eq_decide,List.mem_range'_1];exact⟨fun h=>⟨h.1,Nat.le_of_lt_succ h.2⟩,fun h=>⟨h.1,Nat.lt_succ_of_le h.2⟩⟩
theorem x5{K:aa}{H:Hp}{c:Nat}{Q:VK}(q:Q (.bl (fO c)) H):gJ K .In (.str ⟨#[c]⟩) (.str LETTERS) H Q:=by
 refine .inl ⟨_,_,rfl,rfl,?_⟩;rw[StrLaws.found_one,vZ];exact q
theorem line20:(20000:Nat)<=sizeLine:=by decide
noncomputable def spN:Sp:=fun vs H Q _=>∃x,vs=[x]/\Known H x/\(∀z,x=.str z->z.length<=20000)/\∀H',aX H H'->Q (.bl (isName x)) H'
theorem sub_str{H:Hp}{x:V}(h:Known H x):ke (tyName H x) "str"=(match x with |.str _=>true|_=>false):=by
 cases x with
 |ref a=>
  show ke (gA (H a)) "str"=false;unfold gA;split <;>rfl
 |_=>rfl
theorem xm{G:Gam}{K:aa}(v1:G.val "LETTERS"=some (.str LETTERS))(v2:G.val "LONGEST_NAME"=some (.int 8)):
  Sat G K spN tw sI:=by
 rintro vs H Q E ⟨x,rfl,hk,hz,q⟩;unfold tw;change wpB G K _ _ _ [some x] H;walk_at "wp";refine isi hk .str ⟨_,rfl,?_⟩;rw[show Ty.t .str="str" from rfl,sub_str hk];cases x with
 |str z=>
  have hz:=hz z rfl;have hl:z.length<=sizeLine:=aU hz line20;have all:∀R:VK,(∀H',aX H H'->R (.bl (z.cps.toList.all fO)) H')->qe (AG K (mG 0)) (mX 0) zS (tOp (gJ K .In) (mG 0) fun σ H Q=>∃v,G.val "LETTERS"=some v/\Q v H) (jw ["sign"] []) [some (.str z)] H fun x H2=>rBf K .all [x] H2 R:=by
   intro R hR;refine gU (wN rfl (jm seq_str hl (fun _ _=>trivial) (fun i v _=>v=.bl (fO (z.cps.toList.getD i 0))) (fun _ _ _ _ _ h=>h) (fun τ=>∃t,τ=[t]) ⟨none,rfl⟩ ?_ ?_))
   ·rintro i x τ H3 R hi ⟨t,rfl⟩ s3 ⟨c,hc,rfl⟩ k
    refine⟨_,rfl,_,v1,x5 (k _ _ _ ⟨_,rfl⟩ (aX.refl _) ?_)⟩;have :z.cps.toList[i]? =some c:=by simpa using hc
    rw[aJ,this];rfl
   ·intro vs H2 l hvl hF s2 hl2
    have e:=bool_list hvl hF;subst e;refine⟨l,_,rfl,SqL.of av,?_⟩;have e2:((aQ z.length).map fun i=>fO (z.cps.toList.getD i 0)).all id=z.cps.toList.all fO:=by
     have :=Ep z.cps.toList 0 fO
     rw[show z.cps.toList.length=z.length by simp[wX]]at this;exact this
    rw[e2];exact hR _ (s2.trans (aB hl2))
  simp only[Bool.not_true,bO,if_false,v2,fG,exists_eq_left',exists_eq_left,V.bl.injEq,V.int.injEq,le_ii,len_s,hl,true_and];have q':∀H',aX H H'->Q (.bl (gL z)) H':=q;unfold gL at q';by_cases h1:1<=z.length
  ·by_cases h2:z.length<=8
   ·have e1:decide ((1:Int)<=z.length)=true:=decide_eq_true (by omega)
    have e2:decide ((z.length:Int)<=8)=true:=decide_eq_true (by omega);rw[decide_eq_true (And.intro h1 h2),Bool.true_and]at q';simp only[e1,e2,if_true,Bool.not_true,bO,if_false];exact all Q q'
   ·have e1:decide ((1:Int)<=z.length)=true:=decide_eq_true (by omega)
    have e2:decide ((z.length:Int)<=8)=false:=decide_eq_false (by omega);rw[decide_eq_false (fun h=>h2 h.2),eY]at q';simp only[e1,e2,if_true,Bool.not_false];exact q' H (aX.refl H)
  ·have e1:decide ((1:Int)<=z.length)=false:=decide_eq_false (by omega)
   rw[decide_eq_false (fun h=>h1 h.1),eY]at q';simp only[e1,bO,if_false,Bool.not_false,if_true];exact q' H (aX.refl H)
 |_=>exact q H (aX.refl H)
theorem sY{J:It}{Hc:Hp->Prop}{g:TG}{tc:TT}{te:TE}{Q:VK}{τ0:L2.St}{H1:Hp}{xs:List V}(S:pF J xs.length (fun i x _=>xs[i]? =some x) Hc)(hn:xs.length<=sizeLine)(hc:∀H,aX H1 H->Hc H)
  (t:V->Bool)(f:V->V)(T:L2.St->Prop)(hT:T τ0)
  (step:∀x τ H3 (Rt:L2.St->V->Hp->Prop)(Rf:L2.St->Hp->Prop),x∈xs->T τ->aX H1 H3->(∀τ' H6,T τ'->aX H3 H6->t x=true->Rt τ' (f x) H6)->(∀τ' H6,T τ'->aX H3 H6->t x=false->Rf τ' H6)->
   g x τ H3 fun τ4 H4=>tc τ4 H4 fun b H5=>if b=true then te τ4 H5 (Rt τ4)else Rf τ4 H5)
  (fin:∀H2 l,aX H1 H2->H2 l=none->Q (.ref l) (upd H2 l (.lst ((xs.filter t).map f)))):zG J g tc te τ0 H1 Q:=by
 refine⟨fun i m τ acc H2=>m=xs.length-i/\i<=xs.length/\T τ/\acc=((xs.take i).filter t).map f/\aX H1 H2,⟨xs.length,by simp,aM _,hT,by simp,aX.refl _⟩,?_⟩;rintro i m τ acc H2 ⟨rfl,hi,ht,rfl,sm⟩;have q:=hc H2 sm;by_cases hlt:i<xs.length
 ·refine .inr ⟨S.go i H2 q hlt,fun τ' acc' H'=>T τ'/\acc'=((xs.take (i+1)).filter t).map f/\aX H1 H',fun τ' acc' H' ⟨a,b,c⟩=>⟨xs.length-(i+1),by omega,rfl,hlt,a,b,c⟩,fun x H3 y=>?_⟩
  obtain⟨y1,y2⟩:=S.yld i H2 x H3 q hlt y;have e:xs.take (i+1)=xs.take i++[x]:=by rw[bM,y1];rfl
  have hlen:(((xs.take i).filter t).map f).length<=i:=by
   rw[ag];refine aU (eQ _ _) ?_;rw[bb];omega
  refine step x τ H3 _ _ (aS y1) ht (sm.trans y2) (fun τ' H6 h1 h2 h3=>⟨by omega,h1,?_,(sm.trans y2).trans h2⟩) (fun τ' H6 h1 h2 h3=>⟨h1,?_,(sm.trans y2).trans h2⟩)
  ·rw[e,fX,aD]
   simp[h3]
  ·rw[e,fX,aD]
   simp[h3]
 ·have e:i=xs.length:=by omega
  subst e;rw[bY];exact .inl ⟨S.stop _ H2 q (ar _),fun l hl'=>fin H2 l sm hl'⟩
end Cp
namespace Lt
open PySem R
noncomputable def rS:List Str:=["_law_script","_law_k"]
noncomputable def lC:List Str:=["_law_script","_law_k"]
noncomputable def lR:CB:=
  (.cons (.iff (.cmp .Lt (.var 1) (.bfn .len (.cons (.var 0) .nil)))
  (.cons (.ret (.idx (.var 0) (.var 1)))
  .nil)
  .nil)
  (.cons (.ret (.con (.int 0)))
  .nil))
end Lt
namespace Lt
open PySem PySem.Spec PyProof.Rows L2 R Cp
theorem zr{i j:Int}(h0:0<=j)(h1:j<18446744073709551616):yw i j:=.inr ⟨by omega,by omega⟩
theorem cmulL{i j:Int}(h0:0<=i)(h1:i<18446744073709551616):yw i j:=.inl ⟨by omega,by omega⟩
noncomputable def xy(K:aa):Sp:=fun vs H Q _=>∃(a:Addr)(ns:List Int)(k:Nat),vs=[.ref a,.int k]/\SqL K H a (ns.map V.int)/\Q (.int (ns.getD k 0)) H
theorem wp_cell{G:Gam}{K:aa}:Sat G K (xy K) lR lC:=by
 rintro vs H Q E ⟨a,ns,k,rfl,hs,q⟩;unfold lR;change wpB G K _ _ _ [some (.ref a),some (.int k)] H;walk_at "wp";refine Or.inl ⟨a,_,rfl,.inl hs,?_⟩;show gJ K .Lt (.int (k:Int)) (.int ((ns.map V.int).length:Int)) H _;rw[DH,ag];refine⟨_,rfl,?_⟩;by_cases hk:k<ns.length
 ·rw[decide_eq_true (by omega:(k:Int)<(ns.length:Int)),if_pos rfl]
  refine .inl ⟨a,_,k,_,rfl,rfl,hs,gV (j:=k) (v:=.int (ns.getD k 0)) ?_,q⟩;rw[aZ,ai hk,aJ,ai hk];rfl
 ·rw[decide_eq_false (by omega:¬(k:Int)<(ns.length:Int)),if_neg bp]
  rw[aJ,lX (by omega)]at q;exact q
noncomputable def uw(x:Int):Nat:=97+(x%26).toNat
theorem lett_ok(x:Int):fO (uw x)=true:=by
 have h0:0<=x%26:=cS _ (by decide);have h1:x%26<26:=f9 _ (by decide);unfold fO uw;exact decide_eq_true (by omega)
theorem v5{x y:Int}(h:uw x=uw y):x%26=y%26:=by
 have h0:0<=x%26:=cS _ (by decide);have h1:0<=y%26:=cS _ (by decide);unfold uw at h;have e:=Nat.add_left_cancel h;rw[<-fH h0,<-fH h1,e]
noncomputable abbrev mkS(l:List Nat):Str:=⟨l.toArray⟩
theorem ur(a b:List Nat):mkS a++mkS b=mkS (a++b):=by
 show(⟨a.toArray++b.toArray⟩:Str)=⟨(a++b).toArray⟩;rw[List.append_toArray]
theorem kn(a:List Nat):(mkS a).length=a.length:=by show a.toArray.size=_;simp
theorem wq(l:List Nat)(k:Nat):yi (mkS l) none (some (k:Int))=mkS (l.take k):=by
 unfold yi;rw[HT.pP,HT.mK,kn];show mkS _=_;congr 1;show((l.toArray.toList.drop 0).take (min k l.length-0))=l.take k;rw[vf,lg];show l.take (min k l.length)=l.take k;by_cases h:k<=l.length
 ·rw[uY h]
 ·rw[Nat.min_eq_right (by omega),bY,eF (by omega)]
theorem xU:∀j:Fin 26,LETTERS.cps.toList[j.val]? =some (97+j.val):=by decide+kernel
theorem rp(x:Int):atI LETTERS.cps.toList (x%26)=some (uw x):=by
 have h0:0<=x%26:=cS _ (by decide);have h1:x%26<26:=f9 _ (by decide);obtain⟨j,hj⟩:=zN h0;rw[hj];refine gV ?_;have :=xU ⟨j,by omega⟩;rw[this];unfold uw;rw[hj];rfl
theorem mW:LETTERS.length<=sizeLine:=by decide+kernel
theorem short{n:Nat}(h:n<=40):n<=sizeLine:=aU h (by decide)
theorem mk1(x:Nat):(⟨#[x]⟩:Str)=mkS [x]:=rfl
end Lt
namespace Q
open PySem PySem.Spec PySem.W PyProof.Rows L2
theorem vO{ks:List Str}(nd:ks.Nodup):(ord ks).Perm (aQ ks.length):=by
 unfold ord;split
 ·exact fW _
 ·have P:=(kj (lY nd) (by omega)).1
  have :=u3.mp P.perm
  simpa using this
theorem range_getD{α:Type}(d:α)(ys:List α):(aQ ys.length).map (fun i=>ys.getD i d)=ys:=by
 apply dv
 ·simp
 ·intro i h1 h2
  simp[h2]
theorem ki{α:Type}(d:α){ks:List Str}{ys:List α}(nd:ks.Nodup)(hl:ks.length=ys.length):(sortBy d ks ys).Perm ys:=by
 unfold sortBy;have h:=(vO nd).map fun i=>ys.getD i d;rw[hl,range_getD]at h;exact h
theorem iY{ks:List Str}(nd:ks.Nodup):(sortBy ("":Str) ks ks).Pairwise fun a b=>tlt a b=true:=by
 unfold sortBy ord;split
 ·rename_i h
  rw[range_getD]
  match ks,h with
  | [],_=>exact .nil
  | [x],_=>simp
  |_::_::_,h=>simp at h;omega
 ·rename_i h
  obtain⟨P,U,_⟩:=kj (lY nd) (by omega:1<=ks.length);rw[wZ];intro i j hi hj hij;have hi':i<ks.length:=by simpa[P.size]using hi
  have hj':j<ks.length:=by simpa[P.size]using hj
  have u:=U i j hij hj';rw[bL,bL];have e:∀(k:Nat)(hk:k<(run (jC ks) (dj ks.length)).toList.length),(run (jC ks) (dj ks.length)).toList[k]=at' (run (jC ks) (dj ks.length)) k:=fun k hk=>by
   have hk':k<(run (jC ks) (dj ks.length)).size:=by simpa using hk
   simp[at',hk']
  rw[e,e];exact u
theorem zR{x y:Str}(a:tlt x y=true)(b:tlt y x=true):False:=by
 have c:=sk a b;unfold tlt at c;exact List.lt_irrefl _ (of_decide_eq_true c)
theorem lr:∀{l m:List Str},l.Perm m->l.Pairwise (fun a b=>tlt a b=true)->m.Pairwise (fun a b=>tlt a b=true)->l=m
 | [],m,p,_,_=>by rw[List.nil_perm.mp p]
 |x::l,[],p,_,_=>by simpa using p.length_eq
 |x::l,y::m,p,h1,h2=>by
  rw[List.pairwise_cons]at h1 h2;have e:x=y:=by
   by_cases e:x=y
   ·exact e
   ·have hx:x∈m:=by
     have :=p.mem_iff.mp (au (a:=x) (l:=l))
     rcases aK.mp this with z|z
     ·exact absurd z e
     ·exact z
    have hy:y∈l:=by
     have :=p.mem_iff.mpr (au (a:=y) (l:=m))
     rcases aK.mp this with z|z
     ·exact absurd z.symm e
     ·exact z
    exact(zR (h1.1 y hy) (h2.1 x hx)).elim
  subst e;rw[lr (List.perm_cons x |>.mp p) h1.2 h2.2]
end Q
namespace Kc
open PySem PySem.Spec PyProof.Rows L2 R Cp Lt
theorem fh{J:It}{n:Nat}{it:Nat->V->Hp->Prop}{Hc:Hp->Prop}{g:TG}{tb:TS}{D:Ends}{σ:L2.St}{H:Hp}(S:pF J n it Hc)(Pv:Nat->L2.St->Hp->Prop)(h0:Pv 0 σ H)(hl:∀i σ H,i<=n->Pv i σ H->Hc H)
  (hs:∀i x σ H H' (D2:Ends),i<n->Pv i σ H->it i x H'->aX H H'->(∀σ2 H2,Pv (i+1) σ2 H2->D2.nx σ2 H2)->D2.rt=D.rt->g x σ H' fun σ2 H2=>tb D2 σ2 H2)(hd:∀σ H,Pv n σ H->D.nx σ H):ForB J g tb D σ H:=
 for_seq S Pv h0 hl (fun i x σ H H' a b c d=>hs i x σ H H' _ a b c d (fun _ _ h=>h) rfl) hd
theorem jB{us:List Value}(h:us.length=1):∃a,us=[a]:=by
 cases us with
 |nil=>exact nomatch h
 |cons a r=>exact⟨a,by rw[dY.mp (hZ h)]⟩
theorem fL{us:List Value}(h:us.length=2):∃a b,us=[a,b]:=by
 cases us with
 |nil=>exact nomatch h
 |cons a r=>
  obtain⟨b,e⟩:=jB (hZ h);exact⟨a,b,by rw[e]⟩
theorem fM{us:List Value}(h:us.length=3):∃a b c,us=[a,b,c]:=by
 cases us with
 |nil=>exact nomatch h
 |cons a r=>
  obtain⟨b,c,e⟩:=fL (hZ h);exact⟨a,b,c,by rw[e]⟩
theorem aY{α:Type}{F:α->Prop}{vs:List V}{n:Nat}(h:∃a,F a)(k:∀a,F a->vs.length=n):vs.length=n:=let⟨a,f⟩:=h;k a f
theorem dN{P:Prop}{l vs:List V}{n:Nat}(h:vs=l/\P)(e:l.length=n):vs.length=n:=by rw[h.1];exact e
end Kc
namespace F5
open PySem
noncomputable abbrev Nm:=Str
noncomputable def ch(T:Nm->Int)(F:List (Nm×Nm)):Nat:=F.countP fun e=>decide (T e.1≠T e.2)
noncomputable def bad(t:Int)(l:List Int):Nat:=l.countP fun x=>decide (x≠t)
noncomputable def zo(r:Option Int)(z o:Nat):Nat×Nat:=if r=some 0 then(o+1,o)else if r=some 1 then(z,z+1)else(z,o)
noncomputable def half(z o:Nat):Option Int:=if o<z then some 0 else if z<o then some 1 else none
structure Cl where
 cs:Nm->List Int
 w:Nat
noncomputable def Cl.zo(rd:Nm->Option Int)(S:Cl)(n:Nm):Nat×Nat:=F5.zo (rd n) ((S.cs n).count 0) ((S.cs n).count 1)
noncomputable def Cl.half(rd:Nm->Option Int)(S:Cl)(n:Nm):Option Int:=F5.half (S.zo rd n).1 (S.zo rd n).2
noncomputable def put(cs:Nm->List Int)(h:Option Int)(p:Option Nm):Nm->List Int:=fun u=>match h,p with
 |some x,some q=>if u=q then cs q++[x]else cs u
 |_,_=>cs u
noncomputable def Cl.step(rd:Nm->Option Int)(S:Cl)(e:Nm×Option Nm):Cl:=⟨put S.cs (S.half rd e.1) e.2,S.w+min (S.zo rd e.1).1 (S.zo rd e.1).2⟩
noncomputable def halves(rd:Nm->Option Int):List (Nm×Option Nm)->Cl->List (Option Int)
 | [],_=>[]
 |e::r,S=>S.half rd e.1::halves rd r (S.step rd e)
noncomputable def gd(rd:Nm->Option Int)(R:List (Nm×Option Nm))(S:Cl):Cl:=R.foldl (fun S e=>S.step rd e) S
inductive Back:List (Nm×Option Nm)->Prop
 |nil:Back []
 |cons {e:Nm×Option Nm} {r:List (Nm×Option Nm)} (hp:∀q,e.2=some q->q∈r.map (·.1)) (hn:e.1∉r.map (·.1)) (t:Back r):Back (e::r)
noncomputable def R01(l:List Int):Prop:=∀x∈l,x=0\/x=1
noncomputable def un(T:Nm->Int)(e:Nm×Option Nm):Nat:=match e.2 with
 |some q=>if T e.1=T q then 0 else 1
 |none=>0
noncomputable def cost(T:Nm->Int)(R:List (Nm×Option Nm)):Nat:=(R.map (un T)).sum
noncomputable def due(T:Nm->Int)(cs:Nm->List Int)(R:List (Nm×Option Nm)):Nat:=(R.map fun e=>bad (T e.1) (cs e.1)).sum
theorem A0{t:Int}{l:List Int}(h:R01 l)(ht:t=0\/t=1):bad t l=if t=0 then l.count 1 else l.count 0:=by
 induction l with
 |nil=>rcases ht with rfl|rfl<;>rfl
 |cons x l ih=>
  have ih:=ih fun y hy=>h y (aF _ hy);unfold bad at ih⊢;rw[rK,ih];rcases h x au with rfl|rfl<;>rcases ht with rfl|rfl<;>simp[lj]
theorem zp{T:Nm->Int}{cs:Nm->List Int}{x:Int}{q:Nm}:∀{R:List (Nm×Option Nm)},Back R->due T (put cs (some x) (some q)) R=due T cs R+if q∈R.map (·.1)then(if x=T q then 0 else 1)else 0
 | [],_=>rfl
 |e::r,.cons hp hn t=>by
  have ih:=zp (T:=T) (cs:=cs) (x:=x) (q:=q) t;unfold due at ih⊢;rw[aN,fJ,aN,fJ,ih];by_cases c:e.1=q
  ·subst c
   have :e.1∉r.map (·.1):=hn;rw[if_neg this,if_pos (by simp)];show bad (T e.1) (if e.1=e.1 then cs e.1++[x]else cs e.1)+_=_;rw[if_pos rfl];unfold bad;rw[List.countP_append];by_cases h:x=T e.1<;>simp[h]<;>omega
  ·have e2:put cs (some x) (some q) e.1=cs e.1:=if_neg c
   rw[e2];by_cases h:q∈r.map (·.1)
   ·have h':q∈(e::r).map (·.1):=aF _ h
    rw[if_pos h,if_pos h'];omega
   ·have h':q∉(e::r).map (·.1):=fun z=>(aK.mp z).elim (fun z=>c z.symm) h
    rw[if_neg h,if_neg h'];omega
theorem wj{T:Nm->Int}{rd:Nm->Option Int}{S:Cl}{e:Nm×Option Nm}{r:List (Nm×Option Nm)}(b:Back (e::r)):due T (S.step rd e).cs r=due T S.cs r+match S.half rd e.1,e.2 with
  |some x,some q=>if x=T q then 0 else 1
  |_,_=>0:=by
 cases b with
 |cons hp hn t=>
  show due T (put S.cs (S.half rd e.1) e.2) r=_;cases hh:S.half rd e.1 with
  |none=>rfl
  |some x=>
   cases he:e.2 with
   |none=>rfl
   |some q=>rw[zp t,if_pos (hp q he)]
noncomputable def Tells(T:Nm->Int)(rd:Nm->Option Int)(n:Nm):Prop:=(T n=0\/T n=1)/\∀x,rd n=some x->T n=x
theorem qJ(rd:Nm->Option Int)(S:Cl)(n:Nm)(h01:R01 (S.cs n))(hr:∀x,rd n=some x->x=0\/x=1){T:Nm->Int}(hT:Tells T rd n):
  (S.half rd n=none/\bad (T n) (S.cs n)=min (S.zo rd n).1 (S.zo rd n).2)\/∃x,S.half rd n=some x/\(x=0\/x=1)/\((T n=x/\bad (T n) (S.cs n)=min (S.zo rd n).1 (S.zo rd n).2)\/(T n≠x/\bad (T n) (S.cs n)≥ min (S.zo rd n).1 (S.zo rd n).2+1)):=by
 obtain⟨ht,hrd⟩:=hT;rw[A0 h01 ht];unfold Cl.half Cl.zo F5.half F5.zo;generalize(S.cs n).count 0=z;generalize(S.cs n).count 1=o;cases hx:rd n with
 |none=>
  simp only[reduceCtorEq,if_false];rcases Nat.lt_trichotomy z o with h|h|h
  ·refine .inr ⟨1,by rw[if_neg (by omega),if_pos h],.inr rfl,?_⟩
   rcases ht with e|e
   ·exact .inr ⟨by rw[e];decide,by rw[e,if_pos rfl];omega⟩
   ·exact .inl ⟨e,by rw[e,if_neg (by decide)];omega⟩
  ·refine .inl ⟨by rw[if_neg (by omega),if_neg (by omega)],?_⟩
   rcases ht with e|e
   ·rw[e,if_pos rfl];omega
   ·rw[e,if_neg (by decide)];omega
  ·refine .inr ⟨0,by rw[if_pos h],.inl rfl,?_⟩
   rcases ht with e|e
   ·exact .inl ⟨e,by rw[e,if_pos rfl];omega⟩
   ·exact .inr ⟨by rw[e];decide,by rw[e,if_neg (by decide)];omega⟩
 |some x=>
  have e:=hrd x hx;rcases hr x hx with rfl|rfl
  ·refine .inr ⟨0,by simp,.inl rfl,.inl ⟨e,?_⟩⟩
   rw[e,if_pos rfl,if_pos rfl];show o=min (o+1) o;omega
  ·refine .inr ⟨1,by simp,.inr rfl,.inl ⟨e,?_⟩⟩
   rw[e,if_neg (by decide),if_neg (by simp),if_pos rfl];show z=min z (z+1);omega
theorem vt{rd:Nm->Option Int}{S:Cl}(h:∀n,R01 (S.cs n))(hr:∀n x,rd n=some x->x=0\/x=1)(e:Nm×Option Nm):∀n,R01 ((S.step rd e).cs n):=by
 intro n x hx;have hx:x∈put S.cs (S.half rd e.1) e.2 n:=hx;unfold put at hx;cases hh:S.half rd e.1 with
 |none=>rw[hh]at hx;exact h n x hx
 |some y=>
  have hy:y=0\/y=1:=by
   have :F5.half (S.zo rd e.1).1 (S.zo rd e.1).2=some y:=hh;unfold F5.half at this;split at this
   ·cases this;exact .inl rfl
   ·split at this
    ·cases this;exact .inr rfl
    ·cases this
  cases he:e.2 with
  |none=>rw[hh,he]at hx;exact h n x hx
  |some q=>
   rw[hh,he]at hx;dsimp only at hx;split at hx
   ·rcases aw.mp hx with hx|hx
    ·exact h q x hx
    ·rw[aq.mp hx];exact hy
   ·exact h n x hx
theorem vR{rd:Nm->Option Int}(hr:∀n x,rd n=some x->x=0\/x=1){T:Nm->Int}:∀{R:List (Nm×Option Nm)}{S:Cl},Back R->(∀n,R01 (S.cs n))->(∀e∈R,Tells T rd e.1)->(gd rd R S).w<=S.w+due T S.cs R+cost T R
 | [],S,_,_,_=>by show S.w<=S.w+0+0;omega
 |e::r,S,b,h01,hT=>by
  have ih:=vR hr (S:=S.step rd e) (R:=r) (by cases b;assumption) (vt h01 hr e) fun x hx=>hT x (aF _ hx);have d:=wj (T:=T) (rd:=rd) (S:=S) b;have hc:=qJ rd S e.1 (h01 e.1) (hr e.1) (hT e au);have e1:due T S.cs (e::r)=bad (T e.1) (S.cs e.1)+due T S.cs r:=by unfold due;rw[aN,fJ]
  have e2:cost T (e::r)=un T e+cost T r:=by unfold cost;rw[aN,fJ]
  have e3:(S.step rd e).w=S.w+min (S.zo rd e.1).1 (S.zo rd e.1).2:=rfl;show(gd rd r (S.step rd e)).w<=_;rw[e1,e2];rw[e3]at ih;rcases hc with⟨hn,hb⟩ |⟨x,hx,_,hb⟩
  ·rw[hn]at d
   dsimp only at d;omega
  ·rw[hx]at d
   unfold un;cases hp:e.2 with
   |none=>
    rw[hp]at d;dsimp only at d⊢;rcases hb with⟨_,hb⟩ |⟨_,hb⟩<;>omega
   |some q=>
    rw[hp]at d;dsimp only at d⊢;rcases hb with⟨h1,hb⟩ |⟨h1,hb⟩
    ·rw[h1]at hb⊢
     by_cases c:x=T q
     ·rw[if_pos c]at d⊢
      omega
     ·rw[if_neg c]at d⊢
      omega
    ·split at d<;>split <;>omega
noncomputable def Fit(T:Nm->Int):List (Nm×Option Nm)->List (Option Int)->Prop
 |e::r,h::hs=>(∀x,h=some x->T e.1=x)/\(h=none->∀q,e.2=some q->T e.1=T q)/\Fit T r hs
 |_,_=>True
theorem Eo{rd:Nm->Option Int}(hr:∀n x,rd n=some x->x=0\/x=1){T:Nm->Int}:∀{R:List (Nm×Option Nm)}{S:Cl},Back R->(∀n,R01 (S.cs n))->(∀e∈R,Tells T rd e.1)->Fit T R (halves rd R S)->(gd rd R S).w=S.w+due T S.cs R+cost T R
 | [],S,_,_,_,_=>by show S.w=S.w+0+0;omega
 |e::r,S,b,h01,hT,hf=>by
  obtain⟨f1,f2,f3⟩:=(show(∀x,S.half rd e.1=some x->T e.1=x)/\(S.half rd e.1=none->∀q,e.2=some q->T e.1=T q)/\Fit T r (halves rd r (S.step rd e))from hf);have ih:=Eo hr (S:=S.step rd e) (R:=r) (by cases b;assumption) (vt h01 hr e) (fun x hx=>hT x (aF _ hx)) f3;have d:=wj (T:=T) (rd:=rd) (S:=S) b;have hc:=qJ rd S e.1 (h01 e.1) (hr e.1) (hT e au);have e1:due T S.cs (e::r)=bad (T e.1) (S.cs e.1)+due T S.cs r:=by unfold due;rw[aN,fJ]
  have e2:cost T (e::r)=un T e+cost T r:=by unfold cost;rw[aN,fJ]
  have e3:(S.step rd e).w=S.w+min (S.zo rd e.1).1 (S.zo rd e.1).2:=rfl;show(gd rd r (S.step rd e)).w=_;rw[e1,e2];rw[e3]at ih;rcases hc with⟨hn,hb⟩ |⟨x,hx,_,hb⟩
  ·rw[hn]at d
   dsimp only at d;unfold un;cases hp:e.2 with
   |none=>dsimp only;omega
   |some q=>
    dsimp only;rw[if_pos (f2 hn q hp)];omega
  ·have h1:=f1 x hx
   rw[hx]at d;rcases hb with⟨_,hb⟩ |⟨h2,_⟩
   ·unfold un
    cases hp:e.2 with
    |none=>
     rw[hp]at d;dsimp only at d⊢;omega
    |some q=>
     rw[hp]at d;dsimp only at d⊢;rw[h1]at hb⊢;by_cases c:x=T q
     ·rw[if_pos c]at d⊢
      omega
     ·rw[if_neg c]at d⊢
      omega
   ·exact absurd h1 h2
theorem AJ{rd:Nm->Option Int}{S:Cl}{n:Nm}{x:Int}(hr:x=0\/x=1)(h:rd n=some x):S.half rd n=some x:=by
 unfold Cl.half Cl.zo F5.half F5.zo;rw[h];rcases hr with rfl|rfl
 ·simp
 ·simp
noncomputable def ends(F:List (Nm×Nm)):List Nm:=F.map (·.1)++F.map (·.2)
noncomputable def adj(F:List (Nm×Nm))(v:Nm):List Nm:=F.flatMap fun e=>(if e.1=v then[e.2]else[])++(if e.2=v then[e.1]else[])
theorem iN{F:List (Nm×Nm)}{v x:Nm}:x∈adj F v↔(v,x)∈F\/(x,v)∈F:=by
 unfold adj;rw[rJ];constructor
 ·rintro⟨⟨a,b⟩,he,hx⟩
  rcases aw.mp hx with hx|hx
  ·by_cases c:a=v
   ·rw[if_pos c,aq]at hx
    rw[hx,<-c];exact .inl he
   ·rw[if_neg c]at hx;cases hx
  ·by_cases c:b=v
   ·rw[if_pos c,aq]at hx
    rw[hx,<-c];exact .inr he
   ·rw[if_neg c]at hx;cases hx
 ·rintro(h|h)
  ·exact⟨_,h,by simp⟩
  ·exact⟨_,h,by simp⟩
structure Tree(F:List (Nm×Nm))(vs:List Nm):Prop where
 nd:vs.Nodup
 sub:∀e∈F,e.1∈vs/\e.2∈vs
 len:vs.length=F.length+1
 conn:∀S:Nm->Prop,(∀e∈F,S e.1↔S e.2)->∀a∈vs,∀b∈vs,S a->S b
theorem Tree.ends{F:List (Nm×Nm)}{vs:List Nm}(t:Tree F vs)(hF:F≠[])(v:Nm):v∈ends F↔v∈vs:=by
 unfold F5.ends;constructor
 ·intro h
  rcases aw.mp h with h|h
  ·obtain⟨e,he,rfl⟩:=aH.mp h
   exact(t.sub e he).1
  ·obtain⟨e,he,rfl⟩:=aH.mp h
   exact(t.sub e he).2
 ·intro hv
  by_cases c:v∈F.map (·.1)++F.map (·.2)
  ·exact c
  ·exfalso
   have h1:∀e∈F,e.1≠v/\e.2≠v:=fun e he=>⟨fun z=>c (aw.mpr (.inl (aH.mpr ⟨e,he,z⟩))),fun z=>c (aw.mpr (.inr (aH.mpr ⟨e,he,z⟩)))⟩;obtain⟨e,r,rfl⟩:=ve hF;obtain⟨h2,h3⟩:=t.sub e au;have :=t.conn (fun x=>x=v) (fun e he=>⟨fun z=>absurd z (h1 e he).1,fun z=>absurd z (h1 e he).2⟩) v hv e.1 h2 rfl;exact(h1 e au).1 this
theorem Tree.perm{F F':List (Nm×Nm)}{vs:List Nm}(t:Tree F vs)(p:F'.Perm F):Tree F' vs:=
 ⟨t.nd,fun e he=>t.sub e (p.mem_iff.mp he),by rw[t.len,p.length_eq],fun S h=>t.conn S fun e he=>h e (p.mem_iff.mpr he)⟩
noncomputable def swap(e:Nm×Nm):Nm×Nm:=(e.2,e.1)
theorem Tree.names{F:List (Nm×Nm)}{vs ws:List Nm}(t:Tree F vs)(nd:ws.Nodup)(h:∀v,v∈ws↔v∈vs):Tree F ws:=by
 have p:ws.Perm vs:=(jf nd t.nd).mpr h;exact⟨nd,fun e he=>⟨(h _).mpr (t.sub e he).1,(h _).mpr (t.sub e he).2⟩,by rw[p.length_eq,t.len],fun S hS a ha b hb=>t.conn S hS a ((h a).mp ha) b ((h b).mp hb)⟩
theorem ch_perm{T:Nm->Int}{F F':List (Nm×Nm)}(p:F'.Perm F):ch T F'=ch T F:=p.countP_eq _
inductive iF (F:List (Nm×Nm)):List (Nm×Option Nm)->Prop
 |one (s:Nm):iF F [(s,none)]
 |more {A:List (Nm×Option Nm)} {v q:Nm} (g:iF F A) (hq:q∈A.map (·.1)) (hv:v∉A.map (·.1)) (he:v∈adj F q):iF F (A++[(v,some q)])
theorem mT{A:List (Nm×Option Nm)}{v:Nm}:v∈A.reverse.map (·.1)↔v∈A.map (·.1):=by rw[cH,fi]
theorem iF.back{F:List (Nm×Nm)}{A:List (Nm×Option Nm)}(g:iF F A):Back A.reverse:=by
 induction g with
 |one s=>exact .cons (fun q z=>nomatch z) (fun z=>nomatch z) .nil
 |more g hq hv he ih=>
  rw[EF];exact .cons (fun q z=>by cases z;exact mT.mpr hq) (fun z=>hv (mT.mp z)) ih
theorem iF.nd{F:List (Nm×Nm)}{A:List (Nm×Option Nm)}(g:iF F A):(A.map (·.1)).Nodup:=by
 induction g with
 |one s=>simp
 |more g hq hv he ih=>
  rw[aD,cf];refine⟨ih,by simp,fun a ha b hb z=>?_⟩;have :b=_:=aq.mp hb;subst this z;exact hv ha
theorem AO(T:Nm->Int)(A:List (Nm×Option Nm))(e:Nm×Option Nm):cost T (A++[e]).reverse=un T e+cost T A.reverse:=by
 unfold cost;rw[EF];rfl
theorem iF.edges{F:List (Nm×Nm)}{A:List (Nm×Option Nm)}(g:iF F A):∃L:List (Nm×Nm),L.Nodup/\(∀x∈L,x∈F)/\(∀x∈L,x.1∈A.map (·.1)/\x.2∈A.map (·.1))/\L.length+1=A.length/\∀T,ch T L=cost T A.reverse:=by
 induction g with
 |one s=>exact⟨[],cA,fun x h=>(bA h).elim,fun x h=>(bA h).elim,rfl,fun T=>rfl⟩
 | @more A v q g hq hv he ih=>
  obtain⟨L,h1,h2,h3,h4,h5⟩:=ih;have up:∀x,x∈A.map (·.1)->x∈(A++[(v,some q)]).map (·.1):=fun x hx=>by rw[aD];exact aw.mpr (.inl hx)
  have hvm:v∈(A++[(v,some q)]).map (·.1):=by simp
  have fin:∀e:Nm×Nm,e∈F->(e=(q,v)\/e=(v,q))->∃L:List (Nm×Nm),L.Nodup/\(∀x∈L,x∈F)/\(∀x∈L,x.1∈(A++[(v,some q)]).map (·.1)/\x.2∈(A++[(v,some q)]).map (·.1))/\L.length+1=(A++[(v,some q)]).length/\∀T,ch T L=cost T (A++[(v,some q)]).reverse:=by
   intro e hF hc;refine⟨e::L,cb.mpr ⟨fun z=>?_,h1⟩,fun x hx=>?_,fun x hx=>?_,?_,fun T=>?_⟩
   ·obtain⟨a,b⟩:=h3 e z
    rcases hc with rfl|rfl
    ·exact hv b
    ·exact hv a
   ·rcases aK.mp hx with rfl|hx
    ·exact hF
    ·exact h2 x hx
   ·rcases aK.mp hx with rfl|hx
    ·rcases hc with rfl|rfl
     ·exact⟨up _ hq,hvm⟩
     ·exact⟨hvm,up _ hq⟩
    ·exact⟨up _ (h3 x hx).1,up _ (h3 x hx).2⟩
   ·rw[bj,aG,h4]
    rfl
   ·rw[AO,<-h5]
    unfold ch;rw[rK,Be];congr 1;show(if decide (T e.1≠T e.2)=true then 1 else 0)=if T v=T q then 0 else 1
    by_cases c:T v=T q
    ·rcases hc with rfl|rfl<;>simp[c]
    ·have c':¬T q=T v:=fun z=>c z.symm
     rcases hc with rfl|rfl<;>simp[c,c']
  rcases iN.mp he with h|h
  ·exact fin _ h (.inl rfl)
  ·exact fin _ h (.inr rfl)
theorem iF.ch{F:List (Nm×Nm)}{A:List (Nm×Option Nm)}(g:iF F A)(hl:A.length=F.length+1)(T:Nm->Int):F5.ch T F=cost T A.reverse:=by
 obtain⟨L,h1,h2,_,h4,h5⟩:=g.edges;rw[<-h5 T];exact ch_perm (Q.nU h1 h2 (by omega))
theorem Tree.all{F:List (Nm×Nm)}{vs:List Nm}{A:List (Nm×Option Nm)}(t:Tree F vs)(nd:(A.map (·.1)).Nodup)(sub:∀v∈A.map (·.1),v∈vs)(cl:∀v∈A.map (·.1),∀x∈adj F v,x∈A.map (·.1)){s:Nm}(hs:s∈A.map (·.1)):(∀v∈vs,v∈A.map (·.1))/\A.length=F.length+1:=by
 have h:∀v∈vs,v∈A.map (·.1):=fun v hv=>t.conn (fun x=>x∈A.map (·.1)) (fun e he=>⟨fun z=>cl _ z _ (iN.mpr (.inl he)),fun z=>cl _ z _ (iN.mpr (.inr he))⟩) s (sub s hs) v hv hs;have p:(A.map (·.1)).Perm vs:=(jf nd t.nd).mpr fun v=>⟨sub v,h v⟩;have :=p.length_eq;rw[ag,t.len]at this;exact⟨h,this⟩
end F5
namespace F5
open PySem R
noncomputable def uc:List Str:=["nodes","pairs"]
noncomputable def mO:List Str:=["nodes","pairs","beside","node","one","other"]
noncomputable def kD:CB:=
  (.cons (.ret (.var 2))
  .nil)
noncomputable def jn:CB:=
  (.cons (.expr (.meth1 .append (.x2 .idxk (.var 2) (.var 5)) (.var 4)))
  .nil)
noncomputable def kE:CB:=
  (.cons (.forr (.tup (.cons (.name 4) (.cons (.name 5) .nil))) (.seq (.var 1))
  (.cons (.expr (.meth1 .append (.x2 .idxk (.var 2) (.var 4)) (.var 5)))
  jn))
  kD)
noncomputable def kF:CB:=
  (.cons (.forr (.name 3) (.seq (.var 0))
  (.cons (.putk (.var 2) (.var 3) (.lst .nil))
  .nil))
  kE)
noncomputable def m5:CB:=
  (.cons (.asg (.name 2) (.dic .nil))
  kF)
noncomputable def Am:List Str:=["beside"]
noncomputable def sF:List Str:=["beside","start","ahead","waiting","node","near"]
noncomputable def oS:CB:=
  (.cons (.ret (.var 2))
  .nil)
noncomputable def iR:CB:=
  (.cons (.expr (.meth1 .append (.var 3) (.var 5)))
  .nil)
noncomputable def lF:CB:=
  (.cons (.forr (.name 5) (.seq (.x2 .idxk (.var 0) (.var 4)))
  (.cons (.iff (.x2 .nink (.var 5) (.var 2))
  (.cons (.putk (.var 2) (.var 5) (.var 4))
  iR)
  .nil)
  .nil))
  .nil)
noncomputable def oU:CB:=
  (.cons (.whl (.cmp .Gt (.bfn .len (.cons (.var 3) .nil)) (.con (.int 0)))
  (.cons (.asg (.name 4) (.meth0 .pop (.var 3)))
  lF))
  oS)
noncomputable def oW:CB:=
  (.cons (.asg (.name 3) (.lst (.cons (.var 1) .nil)))
  oU)
noncomputable def oX:CB:=
  (.cons (.asg (.name 2) (.dic (.cons (.var 1) (.con .none) .nil)))
  oW)
noncomputable def tp:CB:=
  (.cons (.asg (.name 1) (.idx (.bfn .listk (.cons (.var 0) .nil)) (.con (.int 0))))
  oX)
noncomputable def pA:List Str:=["beside","pairs"]
noncomputable def jN:List Str:=["beside","pairs"]
noncomputable def iS:CB:=
  (.cons (.ret (.and (.cmp .Eq (.bfn .len (.cons (.var 1) .nil)) (.bin .Sub (.bfn .lenk (.cons (.var 0) .nil)) (.con (.int 1)))) (.cmp .Eq (.bfn .lenk (.cons (.call "reached" (.cons (.var 0) .nil)) .nil)) (.bfn .lenk (.cons (.var 0) .nil)))))
  .nil)
noncomputable def jQ:CB:=
  (.cons (.iff (.cmp .Eq (.bfn .lenk (.cons (.var 0) .nil)) (.con (.int 0)))
  (.cons (.ret (.con (.bool true)))
  .nil)
  .nil)
  iS)
noncomputable def Ao:List Str:=["thing"]
noncomputable def sH:List Str:=["thing"]
noncomputable def pd:CB:=
  (.cons (.ret (.and (.call "is_name" (.cons (.idx (.var 0) (.con (.int 0))) .nil)) (.call "is_name" (.cons (.idx (.var 0) (.con (.int 1))) .nil))))
  .nil)
noncomputable def tu:CB:=
  (.cons (.iff (.or (.not (.bfn .isinstance (.cons (.var 0) (.cons (.ty .tuple) .nil)))) (.cmp .NotEq (.bfn .len (.cons (.var 0) .nil)) (.con (.int 2))))
  (.cons (.ret (.con (.bool false)))
  .nil)
  .nil)
  pd)
noncomputable def xI:List Str:=["frame"]
noncomputable def qt:List Str:=["frame"]
noncomputable def qW:CB:=
  (.cons (.ret (.sset (.bin .Add (.comp ["one","other"] [] (.tup (.cons (.name 0) (.cons (.name 1) .nil))) (.seq (.var 0)) .no (.var 0)) (.comp ["one","other"] [] (.tup (.cons (.name 0) (.cons (.name 1) .nil))) (.seq (.var 0)) .no (.var 1)))))
  .nil)
noncomputable def xN:List Str:=["frame","alone"]
noncomputable def qx:List Str:=["frame","alone"]
noncomputable def nj:CB:=
  (.cons (.ret (.call "leads_one_way" (.cons (.call "neighbours" (.cons (.call "names_of" (.cons (.var 0) .nil)) (.cons (.var 0) .nil))) (.cons (.var 0) .nil))))
  .nil)
noncomputable def nq:CB:=
  (.cons (.iff (.or (.cmp .IsNot (.var 1) (.con .none)) (.not (.bfn .all (.cons (.comp ["branch"] [] (.name 0) (.seq (.var 0)) .no (.call "is_pair" (.cons (.var 0) .nil))) .nil))))
  (.cons (.ret (.con (.bool false)))
  .nil)
  .nil)
  nj)
noncomputable def nu:CB:=
  (.cons (.iff (.cmp .Eq (.bfn .len (.cons (.var 0) .nil)) (.con (.int 0)))
  (.cons (.ret (.call "is_name" (.cons (.var 1) .nil)))
  .nil)
  .nil)
  nq)
noncomputable def rg:CB:=
  (.cons (.iff (.or (.not (.bfn .isinstance (.cons (.var 0) (.cons (.ty .list) .nil)))) (.cmp .Gt (.bfn .len (.cons (.var 0) .nil)) (.glo "MOST_BRANCHES")))
  (.cons (.ret (.con (.bool false)))
  .nil)
  .nil)
  nu)
noncomputable def ug:List Str:=["frame","alone"]
noncomputable def mS:List Str:=["frame","alone"]
noncomputable def kL:CB:=
  (.cons (.ret (.ite (.cmp .Eq (.bfn .len (.cons (.var 0) .nil)) (.con (.int 0))) (.lst (.cons (.var 1) .nil)) (.call "names_of" (.cons (.var 0) .nil))))
  .nil)
noncomputable def nv:CB:=
  (.cons (.iff (.not (.call "is_frame" (.cons (.var 0) (.cons (.var 1) .nil))))
  (.cons (.rais "NoFrame" (.cons (.con (.str "this is no frame")) .nil))
  .nil)
  .nil)
  kL)
end F5
namespace F5
open PySem PySem.Spec PyProof.Rows L2 R Cp Kc
noncomputable def kvS(ls:List (Nm×V)):List (Key×V):=ls.map fun q=>(.inr q.1,q.2)
noncomputable def lk(ls:List (Nm×V))(v:Nm):Option V:=(ls.find? fun q=>decide (q.1=v)).map (·.2)
theorem inr_iff{a b:Nm}:(decide ((dg a:Key)=.inr b))=decide (a=b):=by
 by_cases h:a=b
 ·rw[h,decide_eq_true rfl,decide_eq_true rfl]
 ·rw[decide_eq_false h,decide_eq_false fun z=>h (p6 z)]
theorem pN(v:Nm):∀ls:List (Nm×V),eL (kvS ls) (.inr v)=lk ls v
 | []=>rfl
 | (a,x)::ls=>by
  have ih:=pN v ls;unfold eL lk kvS at ih⊢;rw[aN,cD,cD,inr_iff];cases h:decide (a=v)with
  |true=>rfl
  |false=>exact ih
theorem any_kvS(v:Nm)(ls:List (Nm×V)):((kvS ls).any fun kv=>decide (kv.1=.inr v))=decide (v∈ls.map (·.1)):=by
 unfold kvS;rw[List.any_map,lq,fj,decide_eq_true_eq,aH];constructor
 ·rintro⟨q,hq,e⟩
  exact⟨q,hq,p6 (of_decide_eq_true e)⟩
 ·rintro⟨q,hq,rfl⟩
  exact⟨q,hq,decide_eq_true rfl⟩
theorem yP{ls:List (Nm×V)}{v:Nm}{x:V}(h:v∉ls.map (·.1)):putK (kvS ls) (.inr v) x=kvS (ls++[(v,x)]):=by
 unfold putK;rw[any_kvS,decide_eq_false h,if_neg bp];unfold kvS;rw[aD];rfl
theorem l6{ls:List (Nm×V)}{v:Nm}{x:V}(nd:(ls.map (·.1)).Nodup)(h:(v,x)∈ls):lk ls v=some x:=by
 induction ls with
 |nil=>cases h
 |cons q ls ih=>
  unfold lk;rw[cD];rw[aN,cb]at nd;rcases aK.mp h with e|h
  ·rw[<-e]
   simp
  ·have :q.1≠v:=fun z=>nd.1 (by rw[z];exact aH.mpr ⟨_,h,rfl⟩)
   rw[decide_eq_false this];exact ih nd.2 h
theorem yZ{ls:List (Nm×V)}{v:Nm}(h:v∉ls.map (·.1)):lk ls v=none:=by
 unfold lk;rw[List.find?_eq_none.mpr]
 ·rfl
 ·intro q hq z
  exact h (aH.mpr ⟨q,hq,of_decide_eq_true z⟩)
theorem uC{H:Hp}{d:Addr}{ls:List (Nm×V)}(v:Nm)(h:Rd H d (.dK (kvS ls))):j7 H d (.str v) (lk ls v):=.inl ⟨kvS ls,.inr v,h,rfl,(pN v ls).symm⟩
theorem dput{H:Hp}{d:Addr}{ls:List (Nm×V)}{v:Nm}{x:V}(h:H d=some (.dK (kvS ls)))(hl:ls.length<1000)(hv:v∉ls.map (·.1)):yv H d (.str v) x (upd H d (.dK (kvS (ls++[(v,x)])))):=by
 have :=yv.k (k:=.inr v) (v:=x) h (by unfold kvS;rw[ag];exact bf hl (by decide))
 rw[yP hv]at this;exact this
noncomputable def SmF(H H':Hp):Prop:=∀b u,H b=some u->H' b=some u\/∃o kvs,u=.dK kvs/\H' b=some (.frz o (.dK kvs))
theorem SmF.of{H H':Hp}(s:aX H H'):SmF H H':=fun b u e=>.inl (s b u e)
theorem SmF.lst{H H':Hp}(s:SmF H H'){a:Addr}{xs:List V}(h:H a=some (.lst xs)):H' a=some (.lst xs):=by
 rcases s a _ h with h|⟨_,_,z,_⟩
 ·exact h
 ·cases z
theorem SmF.tup{H H':Hp}(s:SmF H H'){a:Addr}{xs:List V}(h:H a=some (.tup xs)):H' a=some (.tup xs):=by
 rcases s a _ h with h|⟨_,_,z,_⟩
 ·exact h
 ·cases z
theorem SmF.rd{H H':Hp}(s:SmF H H'){a:Addr}{kvs:List (Key×V)}(h:Rd H a (.dK kvs)):Rd H' a (.dK kvs):=by
 rcases h with h|⟨o,h⟩
 ·rcases s a _ h with h|⟨o,_,z,h⟩
  ·exact .inl h
  ·cases z;exact .inr ⟨o,h⟩
 ·rcases s a _ h with h|⟨_,_,z,_⟩
  ·exact .inr ⟨o,h⟩
  ·cases z
noncomputable def Br(H:Hp)(y:V)(e:Nm×Nm):Prop:=∃p,y=V.ref p/\H p=some (.tup [.str e.1,.str e.2])
structure Frm(H:Hp)(f:Addr)(ys:List V)(F:List (Nm×Nm)):Prop where
 hf:H f=some (.lst ys)
 br:Paired (Br H) ys F
theorem jz{α β:Type}{P:α->β->Prop}:∀{xs:List α}{ys:List β},Paired P xs ys->∀{i:Nat}{x:α},xs[i]? =some x->∃y,ys[i]? =some y/\P x y
 |_,_,.nil,_,_,h=>nomatch h
 |_,_,.cons r _,0,_,h=>by cases h;exact⟨_,rfl,r⟩
 |_,_,.cons _ t,i+1,_,h=>jz t (i:=i) h
theorem Frm.len{H:Hp}{f:Addr}{ys:List V}{F:List (Nm×Nm)}(d:Frm H f ys F):ys.length=F.length:=d.br.length
theorem Frm.at_{H:Hp}{f:Addr}{ys:List V}{F:List (Nm×Nm)}(d:Frm H f ys F){i:Nat}{y:V}(h:ys[i]? =some y):∃a b p,F[i]? =some (a,b)/\y=V.ref p/\H p=some (.tup [.str a,.str b]):=by
 obtain⟨⟨a,b⟩,h1,p,h2,h3⟩:=jz d.br h;exact⟨a,b,p,h1,h2,h3⟩
theorem Frm.grow{H H':Hp}{f:Addr}{ys:List V}{F:List (Nm×Nm)}(d:Frm H f ys F)(s:SmF H H'):Frm H' f ys F:=⟨s.lst d.hf,L2.Paired.gM d.br fun _ _ ⟨p,e,h⟩=>⟨p,e,s.tup h⟩⟩
theorem Frm.same{H H':Hp}{f:Addr}{ys:List V}{F:List (Nm×Nm)}(d:Frm H f ys F)(s:aX H H'):Frm H' f ys F:=d.grow (.of s)
structure Bes(H:Hp)(d:Addr)(ls:List (Nm×Addr))(c:Nm->List V):Prop where
 hd:Rd H d (.dK (kvS (ls.map fun q=>(q.1,V.ref q.2))))
 nd:(ls.map (·.1)).Nodup
 na:(ls.map (·.2)).Nodup
 at_:∀q∈ls,H q.2=some (.lst (c q.1))
theorem hU(ls:List (Nm×Addr)):(ls.map fun q=>(q.1,V.ref q.2)).map (·.1)=ls.map (·.1):=by rw[bK];rfl
theorem Bes.get{H:Hp}{d:Addr}{ls:List (Nm×Addr)}{c:Nm->List V}(b:Bes H d ls c){v:Nm}(h:v∈ls.map (·.1)):∃a,(v,a)∈ls/\j7 H d (.str v) (some (.ref a))/\H a=some (.lst (c v)):=by
 obtain⟨⟨w,a⟩,hq,rfl⟩:=aH.mp h;refine⟨a,hq,?_,b.at_ _ hq⟩;have :=uC w b.hd;rw[l6 (by rw[hU];exact b.nd) (aH.mpr ⟨_,hq,rfl⟩)]at this;exact this
theorem Bes.app{H:Hp}{d:Addr}{ls:List (Nm×Addr)}{c:Nm->List V}(b:Bes H d ls c){v:Nm}{a:Addr}{l:List V}(h:(v,a)∈ls):Bes (upd H a (.lst l)) d ls (fun w=>if w=v then l else c w):=by
 have ha:=b.at_ _ h;refine⟨?_,b.nd,b.na,fun q hq=>?_⟩
 ·rcases b.hd with z|⟨o,z⟩
  ·exact .inl (by rw[aI (d5 z ha (fun z=>nomatch z))];exact z)
  ·exact .inr ⟨o,by rw[aI (d5 z ha (fun z=>nomatch z))];exact z⟩
 ·by_cases e:q.2=a
  ·have :q=(v,a):=by
    obtain⟨i,hi,ei⟩:=aT.mp hq;obtain⟨j,hj,ej⟩:=aT.mp h;have :(ls.map (·.2))[i]'(by rw[ag];exact hi)=(ls.map (·.2))[j]'(by rw[ag];exact hj):=by rw[bL,bL,ei,ej];exact e
    have :=(cc b.na).mp this
    subst this;rw[<-ei,ej]
   rw[this];show upd H a _ a=_;rw[av,if_pos rfl]
  ·rw[aI e,b.at_ q hq]
   have :q.1≠v:=fun z=>e (by
    obtain⟨i,hi,ei⟩:=aT.mp hq;obtain⟨j,hj,ej⟩:=aT.mp h;have :(ls.map (·.1))[i]'(by rw[ag];exact hi)=(ls.map (·.1))[j]'(by rw[ag];exact hj):=by rw[bL,bL,ei,ej];exact z
    have :=(cc b.nd).mp this
    subst this;rw[<-ei,ej])
   rw[if_neg this]
theorem Bes.same{H H':Hp}{d:Addr}{ls:List (Nm×Addr)}{c:Nm->List V}(b:Bes H d ls c)(s:SmF H H'):Bes H' d ls c:=⟨s.rd b.hd,b.nd,b.na,fun q hq=>s.lst (b.at_ q hq)⟩
theorem Bes.congr{H:Hp}{d:Addr}{ls:List (Nm×Addr)}{c c':Nm->List V}(b:Bes H d ls c)(h:∀q∈ls,c q.1=c' q.1):Bes H d ls c':=⟨b.hd,b.nd,b.na,fun q hq=>by rw[b.at_ q hq,h q hq]⟩
noncomputable def iD(F:List (Nm×Nm))(v:Nm):List V:=(adj F v).map V.str
noncomputable def spNb:Sp:=fun vs H Q _=>∃(n f:Addr)(ws:List Nm)(ys:List V)(F:List (Nm×Nm)),vs=[.ref n,.ref f]/\H n=some (.lst (ws.map V.str))/\Frm H f ys F/\ws.Nodup/\(∀e∈F,e.1∈ws/\e.2∈ws)/\ws.length<=200/\F.length<=200/\
 ∀H' d ls,aX H H'->H d=none->H' d=some (.dK (kvS (ls.map fun q=>(q.1,V.ref q.2))))->Bes H' d ls (iD F)->ls.map (·.1)=ws->Q (.ref d) H'
theorem ix{n:Nat}(h:n<=1000):n<=sizeLine:=aU h (by decide)
theorem l8{n:Nat}(h:n<=1000):n<sizeLine:=pL h (by decide)
theorem wO(F:List (Nm×Nm))(a b v:Nm):adj (F++[(a,b)]) v=adj F v++((if a=v then[b]else[])++(if b=v then[a]else[])):=by
 unfold adj;rw[fC];simp
theorem zD(F:List (Nm×Nm))(v:Nm):(adj F v).length<=2*F.length:=by
 unfold adj
 induction F with
 |nil=>simp
 |cons e F ih=>
  rw[p9,aG,bj];have :((if e.1=v then[e.2]else[])++(if e.2=v then[e.1]else[])).length<=2:=by
   rw[aG];split <;>split <;>simp
  omega
theorem wp_nb{G:Gam}{K:aa}:Sat G K spNb m5 mO:=by
 rintro vs H Q E ⟨n,f,ws,ys,F,rfl,hn,fr,nd,sub,l1,l2,q⟩;unfold m5;change wpB G K _ _ _ [some (.ref n),some (.ref f),none,none,none,none] H;walk_at "wp";refine .inl ⟨trivial,fun d hd=>?_⟩;unfold kF;walk_at "wp";have s0:aX H (upd H d (.dK [])):=aB hd;refine gO (dA rfl (SqL.of (s0 _ _ hn)) (fh eM (fun k σ H'=>aX H H'/\∃u ls,σ=[some (.ref n),some (.ref f),some (.ref d),u,none,none]/\H' d=some (.dK (kvS (ls.map fun q=>(q.1,V.ref q.2))))/\Bes H' d ls (fun _=>[])/\ls.map (·.1)=ws.take k/\∀q∈ls,H q.2=none)
  ⟨s0,none,[],rfl,av,⟨.inl av,cA,cA,fun q hq=>nomatch hq⟩,rfl,fun q hq=>nomatch hq⟩ (fun k σ H' _ s=>SqL.of (s.1 _ _ hn)) ?_ ?_))
 ·rintro k y σ H1 H2 D2 hk ⟨s1,u,ls,rfl,h1,b1,e1,f1⟩ hy s2 hD _
  rw[ag]at hk;rw[aZ,ai hk]at hy;cases hy;walk_at "wp";refine⟨aM _,fun p hp=>?_⟩;have h1':=s2 _ _ h1;have hnew:ws[k]∉ls.map (·.1):=by
   rw[e1];intro z;obtain⟨j,hj,ej⟩:=aT.mp z;rw[bb]at hj;rw[gy]at ej;have :=(cc nd).mp ej;omega
  have hll:ls.length=k:=by
   have :=congrArg jK e1
   rw[ag,bb]at this;omega
  have hdp:d≠p:=bg h1' hp;have h3:upd H2 p (.lst []) d=some (.dK (kvS (ls.map fun q=>(q.1,V.ref q.2)))):=by rw[aI hdp];exact h1'
  refine⟨d,_,rfl,dput h3 (by rw[ag];omega) (by rw[hU];exact hnew),?_⟩;have hpf:∀q∈ls,q.2≠p:=fun q hq=>bg (s2 _ _ (b1.at_ q hq)) hp;have hpd:∀q∈ls,q.2≠d:=fun q hq=>d5 (s2 _ _ (b1.at_ q hq)) h1' (fun z=>nomatch z);have e4:(ls.map fun q=>(q.1,V.ref q.2))++[(ws[k],V.ref p)]=(ls++[(ws[k],p)]).map fun q=>(q.1,V.ref q.2):=by rw[aD];rfl
  rw[e4];refine hD _ _ ⟨cg (cg (s1.trans s2) ((s1.trans s2).free hp)) hd,_,ls++[(ws[k],p)],rfl,av,⟨.inl av,?_,?_,fun q hq=>?_⟩,?_,fun q hq=>?_⟩
  ·rw[aD,cf]
   refine⟨b1.nd,by simp,fun a ha b hb z=>?_⟩;have :b=ws[k]:=aq.mp hb;subst this z;exact hnew ha
  ·rw[aD,cf]
   refine⟨b1.na,by simp,fun a ha b hb z=>?_⟩;have :b=p:=aq.mp hb;subst this z;obtain⟨q,hq,e⟩:=aH.mp ha;exact hpf q hq e
  ·rcases aw.mp hq with hq|hq
   ·rw[aI (hpd q hq),aI (hpf q hq)]
    exact s2 _ _ (b1.at_ q hq)
   ·cases aq.mp hq
    show upd _ _ _ p=_;rw[aI hdp.symm,av]
  ·rw[aD,e1,bM,ai hk]
   rfl
  ·rcases aw.mp hq with hq|hq
   ·exact f1 q hq
   ·cases aq.mp hq
    exact(s1.trans s2).free hp
 ·rintro σ H1 ⟨s1,u,ls,rfl,h1,b1,e1,f1⟩
  rw[ag,bY]at e1;unfold kE;walk_at "wp";refine gO (dA rfl (SqL.of (s1 _ _ fr.hf)) (fh eM (fun k σ H'=>aX H H'/\H' d=some (.dK (kvS (ls.map fun q=>(q.1,V.ref q.2))))/\Bes H' d ls (iD (F.take k))/\∃u v w,σ=[some (.ref n),some (.ref f),some (.ref d),u,v,w])
   ⟨s1,h1,b1,_,_,_,rfl⟩ (fun k σ H' _ s=>SqL.of (s.1 _ _ fr.hf)) ?_ ?_))
  ·rintro k y σ H2 H3 D2 hk ⟨s2,h2,b2,u',v',w',rfl⟩ hy s3 hD _
   obtain⟨a,b,p,hF,rfl,hp⟩:=fr.at_ hy;obtain⟨ha,hb⟩:=(show a∈ws/\b∈ws from sub _ (aS hF));rw[<-e1]at ha hb;have s4:=s2.trans s3;have b3:=b2.same (.of s3);have h3:=s3 _ _ h2;refine⟨p,_,rfl,SqT.of (s4 _ _ hp),rfl,_,_,rfl,_,_,rfl,rfl,?_⟩;walk_at "wp";obtain⟨pa,ma,ga,ea⟩:=b3.get ha;have dN:∀v,(iD (F.take k) v).length<sizeLine-5:=fun v=>by
    unfold iD;rw[ag];have :=zD (F.take k) v;rw[bb]at this;exact pL (show(adj (F.take k) v).length<=1000 by omega) (by decide)
   refine⟨d,_,rfl,ga,.inl ⟨rfl,_,SqL.of ea⟩,_,_,_,rfl,rfl,ea,by have :=dN a;omega,?_⟩;unfold jn;walk_at "wp";have b4:=b3.app (l:=iD (F.take k) a++[V.str b]) ma;obtain⟨pb,mb,gb,eb⟩:=b4.get hb;refine⟨d,_,rfl,gb,.inl ⟨rfl,_,SqL.of eb⟩,_,_,_,rfl,rfl,eb,?_,?_⟩
   ·have h1:=dN a
    have h2:=dN b;by_cases c:b=a
    ·rw[if_pos c,aG,bX]
     omega
    ·rw[if_neg c]
     omega
   ·have hpa:d≠pa:=d5 h3 ea (by intro z;cases z)
    have hd4:upd H3 pa (.lst (iD (F.take k) a++[V.str b])) d=some (.dK (kvS (ls.map fun q=>(q.1,V.ref q.2)))):=by rw[aI hpa];exact h3
    have hpb:d≠pb:=d5 hd4 eb (by intro z;cases z);refine hD _ _ ⟨cg (cg s4 (f1 _ ma)) (f1 _ mb),by rw[aI hpb];exact hd4,(b4.app mb).congr fun q _=>?_,_,_,_,rfl⟩;have et:F.take (k+1)=F.take k++[(a,b)]:=by rw[bM,hF];rfl
    unfold iD;rw[et,wO,aD,aD];generalize q.1=w;by_cases c1:w=b
    ·subst c1
     by_cases c2:w=a
     ·subst c2
      simp
     ·simp[c2,cz c2]
    ·by_cases c2:w=a
     ·subst c2
      simp[c1,cz c1]
     ·simp[c1,c2,cz c1,cz c2]
  ·rintro σ H2 ⟨s2,h2,b2,u',v',w',rfl⟩
   unfold kD;walk_at "wp";rw[fr.len,bY]at b2;exact q H2 d ls s2 hd h2 b2 e1
noncomputable def pV:Option Nm->V
 |some q=>.str q
 |none=>.non
noncomputable def aV(A:List (Nm×Option Nm)):List (Nm×V):=A.map fun e=>(e.1,pV e.2)
theorem pX(A:List (Nm×Option Nm)):(aV A).map (·.1)=A.map (·.1):=by unfold aV;rw[bK];rfl
theorem aV_len(A:List (Nm×Option Nm)):(aV A).length=A.length:=ag ..
structure Found(F:List (Nm×Nm))(vs:List Nm)(A:List (Nm×Option Nm)):Prop where
 g:iF F A
 sub:∀v∈A.map (·.1),v∈vs
 cl:∀v∈A.map (·.1),∀x∈adj F v,x∈A.map (·.1)
noncomputable def spRe:Sp:=fun vs H Q _=>∃(d:Addr)(ls:List (Nm×Addr))(F:List (Nm×Nm)),vs=[.ref d]/\Bes H d ls (iD F)/\ls≠[]/\(∀e∈F,e.1∈ls.map (·.1)/\e.2∈ls.map (·.1))/\ls.length<=200/\F.length<=200/\
 ∀H' a A,aX H H'->H a=none->H' a=some (.dK (kvS (aV A)))->Found F (ls.map (·.1)) A->Q (.ref a) H'
theorem hJ{α:Type}[DecidableEq α]{l m:List α}(nd:l.Nodup)(h:∀x∈l,x∈m):l.length<=m.length:=L2.mL nd h
structure DF(F:List (Nm×Nm))(ks:List Nm)(ex:Nm->Prop)(H H':Hp)(a w:Addr)(A:List (Nm×Option Nm))(W:List Nm):Prop where
 sm:aX H H'
 ha:H' a=some (.dK (kvS (aV A)))
 hw:H' w=some (.lst (W.map V.str))
 g:iF F A
 gs:∀v∈A.map (·.1),v∈ks
 ws:∀v∈W,v∈A.map (·.1)
 cl:∀v∈A.map (·.1),v∉W->¬ex v->∀x∈adj F v,x∈A.map (·.1)
theorem DF.le{F:List (Nm×Nm)}{ks:List Nm}{ex:Nm->Prop}{H H':Hp}{a w:Addr}{A:List (Nm×Option Nm)}{W:List Nm}(D:DF F ks ex H H' a w A W):A.length<=ks.length:=by
 have :=hJ D.g.nd D.gs
 rw[ag]at this;exact this
theorem DF.same{F:List (Nm×Nm)}{ks:List Nm}{ex:Nm->Prop}{H H1 H2:Hp}{a w:Addr}{A:List (Nm×Option Nm)}{W:List Nm}(D:DF F ks ex H H1 a w A W)(s:aX H1 H2):DF F ks ex H H2 a w A W:={D with sm:=D.sm.trans s,ha:=s _ _ D.ha,hw:=s _ _ D.hw}
theorem wp_re{G:Gam}{K:aa}:Sat G K spRe tp sF:=by
 rintro vs H Q E ⟨d,ls,F,rfl,b,hne,sub,l1,l2,q⟩;unfold tp;change wpB G K _ _ _ [some (.ref d),none,none,none,none,none] H;walk_at "wp";obtain⟨⟨s,sa⟩,r,e0⟩:=ve hne;refine⟨d,_,rfl,b.hd,fun l hl=>.inl ⟨l,_,0,.str s,rfl,rfl,SqL.of av,gV (j:=0) (by rw[e0];rfl),?_⟩⟩;have s1:aX H (upd H l (.lst ((kvS (ls.map fun q=>(q.1,V.ref q.2))).map fun kv=>kV kv.1))):=aB hl;generalize upd H l (.lst ((kvS (ls.map fun q=>(q.1,V.ref q.2))).map fun kv=>kV kv.1))=H1 at s1;have hs:s∈ls.map (·.1):=by rw[e0];exact au
 have hll:(ls.map (·.1)).length=ls.length:=ag ..;unfold oX;walk_at "wp";refine .inr ⟨(by intro z;cases z),fun a ha=>?_⟩;simp only[wpP,tN,wpE,mG,tC,cv,kd,yA,fG,exists_eq_left'];refine⟨av,[(.inr s,.non)],rfl,(by show 1<=15;decide),?_⟩;unfold oW;walk_at "wp";refine⟨(by show 1<=sizeLine;decide),fun w hw=>?_⟩;have haH:H a=none:=s1.free ha;have hwa:w≠a:=fun z=>by rw[z,av]at hw;cases hw
 have hwH:H w=none:=s1.free (by rw[aI hwa,aI hwa]at hw;exact hw);unfold oU;walk_at "wp";refine⟨fun m σ H'=>∃(A:List (Nm×Option Nm))(W:List Nm)(u v:Option V),m=2*(ls.length-A.length)+W.length/\σ=[some (.ref d),some (.str s),some (.ref a),some (.ref w),u,v]/\W.length<=A.length/\DF F (ls.map (·.1)) (fun _=>False) H H' a w A W,
  ⟨_,[(s,none)],[s],none,none,rfl,rfl,ar _,cg (cg (cg s1 haH) haH) hwH,by rw[aI hwa.symm,av];rfl,av,.one s,fun v hv=>by rw[aq.mp hv];exact hs,fun v hv=>by rw[aq.mp hv];exact au,fun v hv hn=>absurd hv hn⟩,?_⟩
 rintro m σ H2 ⟨A,W,u,v,rfl,rfl,wl,D⟩;walk_at "wp";refine .inl ⟨w,_,rfl,.inl (SqL.of D.hw),?_⟩;rw[ag];refine qK.mpr ⟨_,rfl,?_⟩;have gl:=D.le;rw[hll]at gl;by_cases hW:W=[]
 ·subst hW
  rw[if_neg (by simp)];unfold oS;walk_at "wp";exact q H2 a A D.sm haH D.ha ⟨D.g,D.gs,fun v hv=>D.cl v hv (fun z=>nomatch z) id⟩
 ·have hl0:0<W.length:=iK.mpr hW
  rw[if_pos (decide_eq_true (by omega))];refine⟨fun σ' H'=>∃m',m'<2*(ls.length-A.length)+W.length/\∃(A':List (Nm×Option Nm))(W':List Nm)(u v:Option V),m'=2*(ls.length-A'.length)+W'.length/\σ'=[some (.ref d),some (.str s),some (.ref a),some (.ref w),u,v]/\W'.length<=A'.length/\DF F (ls.map (·.1)) (fun _=>False) H H' a w A' W',fun _ _ h=>h,?_⟩;obtain⟨W0,n,rfl⟩:∃W0 n,W=W0++[n]:=⟨W.dropLast,W.getLast hW,(List.dropLast_concat_getLast hW).symm⟩;refine⟨.inl ⟨rfl,_,SqL.of D.hw⟩,.inl ⟨w,_,.str n,rfl,rfl,D.hw,?_,?_⟩⟩
  ·rw[ag,aG,aZ,cP (by simp)]
   simp
  have e0:((W0++[n]).map V.str).dropLast=W0.map V.str:=by rw[aD];simp
  rw[e0];have nA:n∈A.map (·.1):=D.ws n (by simp);rw[aG,bX]at wl⊢;have D3:DF F (ls.map (·.1)) (fun v=>v=n) H (upd H2 w (.lst (W0.map V.str))) a w A W0:=⟨cg D.sm hwH,by rw[aI hwa.symm];exact D.ha,av,D.g,D.gs,fun v hv=>D.ws v (aw.mpr (.inl hv)),fun v hv hn hne x hx=>D.cl v hv (fun z=>by
   rcases aw.mp z with z|z
   ·exact hn z
   ·exact hne (aq.mp z)) id x hx⟩
  generalize upd H2 w (.lst (W0.map V.str))=H3 at D3;unfold lF;walk_at "wp";obtain⟨pn,mn,gn,en⟩:=(b.same (.of D3.sm)).get (D.gs n nA);have ln:(iD F n).length=(adj F n).length:=ag ..;refine gO ⟨_,rfl,_,rfl,d,_,rfl,gn,.inl ⟨pn,rfl,⟨_,SqL.of en⟩,?_⟩⟩;refine fh eM (fun k σ H'=>∃(A':List (Nm×Option Nm))(W':List Nm)(v':Option V),σ=[some (.ref d),some (.str s),some (.ref a),some (.ref w),some (.str n),v']/\(A'.length+W0.length=W'.length+A.length/\A.length<=A'.length)/\DF F (ls.map (·.1)) (fun v=>v=n) H H' a w A' W'/\n∈A'.map (·.1)/\∀x∈(adj F n).take k,x∈A'.map (·.1))
   ⟨A,W0,v,rfl,⟨by omega,ar _⟩,D3,nA,fun x hx=>by rw[List.take_zero]at hx;cases hx⟩ (fun k σ H' _ h=>by obtain⟨_,_,_,_,_,D',_⟩:=h;exact SqL.of (D'.sm _ _ (b.at_ _ mn))) ?_ ?_
  ·rintro k y σ H4 H5 D2 hk ⟨A',W',v',rfl,⟨hl1,hl2⟩,D4,nA',tk⟩ hy s5 hD _
   rw[ln]at hk;obtain⟨x,hx⟩:∃x,(adj F n)[k]? =some x:=⟨_,ai hk⟩;rw[show(iD F n)[k]? =some (V.str x) by unfold iD;rw[aZ,hx];rfl]at hy;cases hy;have D5:=D4.same s5;have et:(adj F n).take (k+1)=(adj F n).take k++[x]:=by rw[bM,hx];rfl
   have xa:x∈adj F n:=aS hx;have gl':=D5.le;rw[hll]at gl';walk_at "wp";refine⟨a,_,rfl,uC x (.inl D5.ha),?_⟩;by_cases c:x∈A'.map (·.1)
   ·obtain⟨⟨x',p⟩,hm,e⟩:=aH.mp c
    have e:x'=x:=e;subst e;have hlk:lk (aV A') x'=some (pV p):=l6 (by rw[pX];exact D5.g.nd) (aH.mpr ⟨_,hm,rfl⟩);rw[hlk,if_neg (by simp)];refine hD _ _ ⟨A',W',_,rfl,⟨hl1,hl2⟩,D5,nA',fun z hz=>?_⟩;rw[et]at hz;rcases aw.mp hz with hz|hz
    ·exact tk z hz
    ·rw[aq.mp hz];exact c
   ·rw[yZ (by rw[pX];exact c),if_pos (by rfl)]
    refine⟨a,_,rfl,dput D5.ha (by rw[aV_len];omega) (by rw[pX];exact c),?_⟩;have hwa':w≠a:=hwa;unfold iR;walk_at "wp";have h8:upd H5 a (.dK (kvS (aV A'++[(x,.str n)]))) w=some (.lst (W'.map V.str)):=by rw[aI hwa];exact D5.hw
    refine⟨.inl ⟨rfl,_,SqL.of h8⟩,w,_,_,rfl,rfl,h8,?_,?_⟩
    ·rw[ag]
     exact l8 (by omega)
    have ks:∀v,v∈(A'++[(x,some n)]).map (·.1)↔v∈A'.map (·.1)\/v=x:=fun v=>by rw[aD,aw];simp
    refine hD _ _ ⟨A'++[(x,some n)],W'++[x],_,rfl,⟨by rw[aG,aG,bX,bX];omega,by rw[aG];omega⟩,⟨cg (cg D5.sm haH) hwH,?_,?_,.more D5.g nA' c xa,fun v hv=>?_,fun v hv=>?_,fun v hv hn hne z hz=>?_⟩,(ks _).mpr (.inl nA'),fun z hz=>(ks z).mpr ?_⟩
    ·rw[aI hwa.symm,av]
     unfold aV;rw[aD];rfl
    ·rw[av,aD]
     rfl
    ·rcases(ks v).mp hv with h|rfl
     ·exact D5.gs v h
     ·rcases iN.mp xa with h|h
      ·exact(sub _ h).2
      ·exact(sub _ h).1
    ·rcases aw.mp hv with h|h
     ·exact(ks v).mpr (.inl (D5.ws v h))
     ·exact(ks v).mpr (.inr (aq.mp h))
    ·rcases(ks v).mp hv with h|rfl
     ·exact(ks z).mpr (.inl (D5.cl v h (fun q=>hn (aw.mpr (.inl q))) hne z hz))
     ·exact absurd (aw.mpr (.inr (aq.mpr rfl))) hn
    ·rw[et]at hz
     rcases aw.mp hz with hz|hz
     ·exact .inl (tk z hz)
     ·exact .inr (aq.mp hz)
  ·rintro σ H4 ⟨A',W',v',rfl,⟨hl1,hl2⟩,D4,nA',tk⟩
   have gl':=D4.le;rw[hll]at gl';refine⟨_,?_,A',W',_,_,rfl,rfl,by omega,{D4 with cl:=fun v hv hn _ x hx=>?_}⟩
   ·omega
   ·by_cases c:v=n
    ·subst c
     rw[ln,bY]at tk;exact tk x hx
    ·exact D4.cl v hv hn c x hx
theorem iF.ne{F:List (Nm×Nm)}{A:List (Nm×Option Nm)}(g:iF F A):∃s,s∈A.map (·.1):=by
 cases g with
 |one s=>exact⟨s,au⟩
 |more g hq _ _=>exact⟨_,by rw[aD];exact aw.mpr (.inl hq)⟩
noncomputable def spLw:Sp:=fun vs H Q _=>∃(d f:Addr)(ls:List (Nm×Addr))(ys:List V)(F:List (Nm×Nm)),vs=[.ref d,.ref f]/\Bes H d ls (iD F)/\Frm H f ys F/\Tree F (ls.map (·.1))/\F.length<=100/\∀H',aX H H'->Q (.bl true) H'
theorem wp_lw{G:Gam}{K:aa}(g1:G.fn "reached" 1=some (spRe,[])):Sat G K spLw jQ jN:=by
 rintro vs H Q E ⟨d,f,ls,ys,F,rfl,b,fr,t,l1,q⟩;unfold jQ;change wpB G K _ _ _ [some (.ref d),some (.ref f)] H;walk_at "wp";have hl:ls.length=F.length+1:=by rw[<-t.len,ag]
 have hk:(kvS (ls.map fun q=>(q.1,V.ref q.2))).length=ls.length:=by unfold kvS;rw[ag,ag]
 refine⟨d,_,rfl,b.hd,?_⟩;rw[hk];refine qM.mpr ⟨_,rfl,?_⟩;rw[if_neg (by rw[decide_eq_false (by omega)];decide)];unfold iS;walk_at "wp";refine .inl ⟨f,_,rfl,.inl (SqL.of fr.hf),d,_,rfl,b.hd,?_⟩;rw[hk];refine BY.mpr (qM.mpr ⟨_,rfl,?_⟩);rw[if_pos (decide_eq_true (by rw[fr.len];omega))];refine⟨_,_,g1,d,ls,F,rfl,b,(fun z=>by rw[z]at hl;cases hl),t.sub,by omega,by omega,fun H1 a A s1 ha h1 fo=>?_⟩;refine⟨a,_,rfl,.inl h1,d,_,rfl,(SmF.of s1).rd b.hd,?_⟩;obtain⟨s,hs⟩:=fo.g.ne;have all:=t.all fo.g.nd fo.sub fo.cl hs;rw[hk,show(kvS (aV A)).length=A.length by unfold kvS aV;rw[ag,ag]];refine qM.mpr ?_;rw[decide_eq_true (by omega)];exact q H1 s1
noncomputable def spPr:Sp:=fun vs H Q _=>∃(p:Addr)(a b:Nm),vs=[.ref p]/\H p=some (.tup [.str a,.str b])/\gL a=true/\gL b=true/\∀H',aX H H'->Q (.bl true) H'
theorem mM{a:Nm}(h:gL a=true):a.length<=8:=by
 unfold gL at h;exact(of_decide_eq_true (aP _ _▸h).1).2
theorem wp_pair{G:Gam}{K:aa}(g1:G.fn "is_name" 1=some (spN,[])):Sat G K spPr tu sH:=by
 rintro vs H Q E ⟨p,a,b,rfl,hp,na,nb,q⟩;unfold tu;change wpB G K _ _ _ [some (.ref p)] H;walk_at "wp";refine isi (DI hp) .tuple ⟨_,rfl,?_⟩;rw[show tyName H (.ref p)="tuple" by show gA (H p)=_;rw[hp];rfl];rw[if_neg (by decide)];refine .inl ⟨p,_,rfl,.inr (SqT.of hp),?_⟩;refine oA.mpr ⟨_,rfl,?_⟩;rw[if_neg (by show ¬(!decide ((2:Int)=2))=true;decide)];unfold pd;walk_at "wp";refine⟨_,_,g1,.inr (.inl ⟨p,_,0,_,rfl,rfl,SqT.of hp,rfl,?_⟩)⟩;refine⟨.str a,rfl,ux,(fun z e=>by cases e;exact aU (mM na) (by decide)),fun H1 s1=>⟨_,rfl,?_⟩⟩;rw[show isName (.str a)=true from na,if_pos rfl];refine⟨_,_,g1,.inr (.inl ⟨p,_,1,_,rfl,rfl,SqT.of (s1 _ _ hp),rfl,?_⟩)⟩;refine⟨.str b,rfl,ux,(fun z e=>by cases e;exact aU (mM nb) (by decide)),fun H2 s2=>?_⟩;rw[show isName (.str b)=true from nb];exact q H2 (s1.trans s2)
theorem mI{ks:List Str}(nd:ks.Nodup):fN ks=(_root_.Q.sortBy ("":Str) ks ks).map V.str:=by
 unfold fN _root_.Q.sortBy;rw[bK];apply dW;intro i hi;have hi':i<ks.length:=by
  have :=(_root_.Q.vO nd).mem_iff.mp hi
  simpa using this
 show(ks.map V.str).getD i V.non=V.str (ks.getD i "");rw[aJ,aJ,aZ,ai hi'];rfl
structure k6(ns vs:List Nm):Prop where
 nd:ns.Nodup
 mem:∀v,v∈ns↔v∈vs
 up:ns.Pairwise fun a b=>_root_.Q.tlt a b=true
noncomputable def spNo:Sp:=fun vs H Q _=>∃(f:Addr)(ys:List V)(F:List (Nm×Nm))(ws:List Nm),vs=[.ref f]/\Frm H f ys F/\F.length<=100/\ws.length<64/\(∀v,v∈ends F↔v∈ws)/\
 ∀H' l ns,aX H H'->H l=none->H' l=some (.lst (ns.map V.str))->k6 ns ws->Q (.ref l) H'
theorem sq{vs:List V}{l:List Nm}(h:vs.length=l.length)(hv:∀(i:Nat) v,vs[i]? =some v->v=V.str (l.getD i "")):vs=l.map V.str:=by
 apply dv
 ·rw[h,ag]
 ·intro i h1 h2
  rw[hv i _ (ai h1),bL,aJ,ai (by omega)];rfl
theorem wp_no{G:Gam}{K:aa}:Sat G K spNo qW qt:=by
 rintro vs H Q E ⟨f,ys,F,ws,rfl,fr,l1,l2,he,q⟩;unfold qW;change wpB G K _ _ _ [some (.ref f)] H;walk_at "wp";have comp:∀(j:Nat)(g:Nm×Nm->Nm)(hj:∀(a b:Nm)(τ:L2.St),∃v,[some (V.str a),some (V.str b)][j]? =some (some v)/\v=V.str (g (a,b)))(H1:Hp)(s1:aX H H1)(R:VK),(∀H2 l,aX H1 H2->H1 l=none->H2 l=some (.lst ((F.map g).map V.str))->R (.ref l) H2)->
   qe (AG K (mG 0)) (gTup K 2 (we (mX 0) (we (mX 1) gNil))) zS (mG j) (jw ["one","other"] []) [some (.ref f)] H1 R:=by
  intro j g hj H1 s1 R hR;refine gU (dA rfl (SqL.of (s1 _ _ fr.hf)) (jm eM (ix (by rw[fr.len];omega)) (fun H4 s6=>SqL.of (s6 _ _ (s1 _ _ fr.hf))) (fun i v _=>v=V.str ((F.map g).getD i "")) (fun _ _ _ _ _ h=>h) (fun τ=>∃t u,τ=[t,u]) ⟨none,none,rfl⟩ ?_ ?_))
  ·rintro i x τ H3 R hi ⟨t,u,rfl⟩ s3 hx k
   obtain⟨a,b,p,hF,rfl,hp⟩:=fr.at_ hx;obtain⟨v,hv,rfl⟩:=hj a b [];refine⟨p,_,rfl,SqT.of ((s1.trans s3) _ _ hp),rfl,_,_,rfl,_,_,rfl,rfl,?_⟩;refine⟨_,hv,k _ _ _ ⟨_,_,rfl⟩ (aX.refl _) ?_⟩;rw[aJ,aZ,hF];rfl
  ·intro vs H2 l hvl hF s2 hl2
   rw[sq (by rw[hvl,ag,fr.len]) hF];exact hR _ l (s2.trans (aB hl2)) (s2.free hl2) av
 refine comp 0 (·.1) (fun a b τ=>⟨_,rfl,rfl⟩) H (aX.refl H) _ fun H1 p1 s1 n1 h1=>?_;refine comp 1 (·.2) (fun a b τ=>⟨_,rfl,rfl⟩) H1 s1 _ fun H2 p2 s2 n2 h2=>?_;refine .inr (.inr (.inl ⟨p1,p2,_,_,rfl,rfl,s2 _ _ h1,h2,?_,fun p3 n3=>?_⟩))
 ·rw[ag,ag,ag,ag]
  exact ix (by omega)
 rw[<-aD];refine⟨p3,ends F,rfl,SqL.of av,?_,⟨ws,l2,fun x hx=>(he x).mp hx⟩,fun ms l nd mem hl=>?_⟩
 ·unfold ends
  rw[aG,ag,ag];omega
 rw[mI nd];have hp:=_root_.Q.ki ("":Str) nd rfl;exact q _ l _ (((s1.trans s2).trans (aB n3)).trans (aB hl)) (((s1.trans s2).trans (aB n3)).free hl) av ⟨hp.nodup_iff.mpr nd,fun v=>hp.mem_iff.trans ((mem v).trans (he v)),_root_.Q.iY nd⟩
structure Good(H:Hp)(f:Addr)(al:V)(ys:List V)(F:List (Nm×Nm))(ws:List Nm):Prop where
 fr:Frm H f ys F
 t:Tree F ws
 n63:ws.length<64
 nm:∀v∈ws,gL v=true
 al:(F=[]/\∃a,al=.str a/\ws=[a])\/(F≠[]/\al=.non)
theorem Good.grow{H H':Hp}{f:Addr}{al:V}{ys:List V}{F:List (Nm×Nm)}{ws:List Nm}(g:Good H f al ys F ws)(s:SmF H H'):Good H' f al ys F ws:={g with fr:=g.fr.grow s}
theorem Good.le{H:Hp}{f:Addr}{al:V}{ys:List V}{F:List (Nm×Nm)}{ws:List Nm}(g:Good H f al ys F ws):F.length<=62:=by
 have :=g.t.len
 have :=g.n63
 omega
noncomputable def spIf:Sp:=fun vs H Q _=>∃(f:Addr)(al:V)(ys:List V)(F:List (Nm×Nm))(ws:List Nm),vs=[.ref f,al]/\Good H f al ys F ws/\∀H',aX H H'->Q (.bl true) H'
theorem wp_if{G:Gam}{K:aa}(v1:G.val "MOST_BRANCHES"=some (.int 80))(g1:G.fn "is_name" 1=some (spN,[]))(g2:G.fn "is_pair" 1=some (spPr,[]))(g3:G.fn "names_of" 1=some (spNo,[]))(g4:G.fn "neighbours" 2=some (spNb,[]))(g5:G.fn "leads_one_way" 2=some (spLw,[])):
  Sat G K spIf rg qx:=by
 rintro vs H Q E ⟨f,al,ys,F,ws,rfl,g,q⟩;unfold rg;change wpB G K _ _ _ [some (.ref f),some al] H;have hle:=g.le;have hlen:=g.fr.len;walk_at "wp";refine isi (xX g.fr.hf) .list ⟨_,rfl,?_⟩;rw[show tyName H (.ref f)="list" by show gA (H f)=_;rw[g.fr.hf];rfl,if_neg (by decide)];refine .inl ⟨f,_,rfl,.inl (SqL.of g.fr.hf),?_⟩;refine⟨_,v1,qK.mpr ⟨_,rfl,?_⟩⟩;rw[if_neg (by rw[decide_eq_false (by omega)];decide)];unfold nu;walk_at "wp";refine .inl ⟨f,_,rfl,.inl (SqL.of g.fr.hf),?_⟩;refine qM.mpr ⟨_,rfl,?_⟩;rcases g.al with⟨hF,a,rfl,hw⟩ |⟨hF,rfl⟩
 ·rw[hF]at hlen
  rw[if_pos (decide_eq_true (by rw[hlen];rfl))];have na:=g.nm a (by rw[hw];exact au);refine⟨_,_,g1,.str a,rfl,ux,(fun z e=>by cases e;exact aU (mM na) (by decide)),fun H1 s1=>?_⟩;rw[show isName (.str a)=true from na];exact q H1 s1
 ·have h0:0<F.length:=iK.mpr hF
  rw[if_neg (by rw[decide_eq_false (by omega)];decide)];unfold nq;walk_at "wp";rw[if_neg (by simp)];refine gU (dA rfl (SqL.of g.fr.hf) (jm eM (ix (by omega)) (fun H4 s6=>SqL.of (s6 _ _ g.fr.hf)) (fun i v _=>v=.bl true) (fun _ _ _ _ _ h=>h) (fun τ=>∃t,τ=[t]) ⟨none,rfl⟩ ?_ ?_))
  ·rintro i x τ H3 R hi ⟨t,rfl⟩ s3 hx k
   obtain⟨a,b,p,hF',rfl,hp⟩:=g.fr.at_ hx;obtain⟨ha,hb⟩:=(show a∈ws/\b∈ws from g.t.sub _ (aS hF'));walk_at "wp";exact⟨_,_,g2,p,a,b,rfl,s3 _ _ hp,g.nm a ha,g.nm b hb,fun H4 s4=>k _ _ _ ⟨_,rfl⟩ s4 rfl⟩
  ·intro vs H2 l hvl hv s2 hl2
   have e:vs=((aQ ys.length).map fun _=>true).map V.bl:=by rw[<-hvl];exact bool_list rfl hv
   subst e;refine⟨l,_,rfl,SqL.of av,_,rfl,?_⟩;have e2:(((aQ ys.length).map fun _=>true).all id)=true:=by rw[qb];simp
   rw[e2,if_neg (by decide)];have s3:=s2.trans (aB (o:=.lst (((aQ ys.length).map fun _=>true).map V.bl)) hl2);generalize upd H2 l (.lst (((aQ ys.length).map fun _=>true).map V.bl))=H3 at s3;unfold nj;walk_at "wp";refine⟨_,_,g5,_,_,g4,_,_,g3,f,ys,F,ws,rfl,g.fr.same s3,by omega,g.n63,fun v=>g.t.ends hF v,fun H4 n ns s4 n4 h4 rs=>?_⟩;have t':=g.t.names rs.nd rs.mem;refine⟨n,f,ns,ys,F,rfl,h4,g.fr.same (s3.trans s4),rs.nd,t'.sub,?_,by omega,fun H5 d ls s5 n5 h5 b e5=>?_⟩
   ·have :=t'.len
    omega
   ·refine⟨d,f,ls,ys,F,rfl,b,g.fr.same ((s3.trans s4).trans s5),?_,by omega,fun H6 s6=>q H6 (((s3.trans s4).trans s5).trans s6)⟩
    rw[e5];exact t'
noncomputable def spFl:Sp:=fun vs H Q _=>∃(f:Addr)(al:V)(ys:List V)(F:List (Nm×Nm))(ws:List Nm),vs=[.ref f,al]/\Good H f al ys F ws/\∀H' l ns,aX H H'->H l=none->H' l=some (.lst (ns.map V.str))->k6 ns ws->Q (.ref l) H'
theorem wp_fl{G:Gam}{K:aa}(g1:G.fn "is_frame" 2=some (spIf,[]))(g2:G.fn "names_of" 1=some (spNo,[])):Sat G K spFl nv mS:=by
 rintro vs H Q E ⟨f,al,ys,F,ws,rfl,g,q⟩;unfold nv;change wpB G K _ _ _ [some (.ref f),some al] H;have hle:=g.le;have hlen:=g.fr.len;walk_at "wp";refine⟨_,_,g1,f,al,ys,F,ws,rfl,g,fun H1 s1=>⟨_,rfl,?_⟩⟩;rw[if_neg (by decide)];unfold kL;walk_at "wp";refine .inl ⟨f,_,rfl,.inl (SqL.of (s1 _ _ g.fr.hf)),qM.mpr ⟨_,rfl,?_⟩⟩;rcases g.al with⟨hF,a,rfl,hw⟩ |⟨hF,rfl⟩
 ·rw[hF]at hlen
  rw[if_pos (decide_eq_true (by rw[hlen];rfl))];refine⟨(by show 1<=sizeLine;decide),fun l hl=>q _ l [a] (s1.trans (aB hl)) (s1.free hl) av ?_⟩;rw[hw];exact⟨by simp,fun v=>Iff.rfl,by simp⟩
 ·have h0:0<F.length:=iK.mpr hF
  rw[if_neg (by rw[decide_eq_false (by omega)];decide)];exact⟨_,_,g2,f,ys,F,ws,rfl,g.fr.same s1,by omega,g.n63,fun v=>g.t.ends hF v,fun H4 n ns s4 n4 h4 rs=>q H4 n ns (s1.trans s4) (s1.free n4) h4 rs⟩
end F5
namespace F5
open PySem R
noncomputable def An:List Str:=["thing","names"]
noncomputable def sG:List Str:=["thing","names"]
noncomputable def o9:CB:=
  (.cons (.ret (.bfn .all (.cons (.tM (.comp ["name","reading"] [1] (.tup (.cons (.name 0) (.cons (.name 1) .nil))) (.ditems (.var 0)) .no (.and (.call "is_name" (.cons (.var 0) .nil)) (.and (.cmp .In (.var 0) (.var 2)) (.call "is_reading" (.cons (.var 1) .nil)))))) .nil)))
  .nil)
noncomputable def tq:CB:=
  (.cons (.iff (.not (.bfn .isinstance (.cons (.var 0) (.cons (.ty .dict) .nil))))
  (.cons (.ret (.con (.bool false)))
  .nil)
  .nil)
  o9)
noncomputable def xO:List Str:=["halves","reading"]
noncomputable def qy:List Str:=["halves","reading"]
noncomputable def rn:CB:=
  (.cons (.ret (.comp ["first","names"] [1] (.tup (.cons (.name 0) (.cons (.name 1) .nil))) (.seq (.var 0)) (.yes (.cmp .Eq (.var 0) (.var 2))) (.var 1)))
  .nil)
noncomputable def Dr:List Str:=["zeros","ones","name"]
noncomputable def vS:List Str:=["zeros","ones","name"]
noncomputable def wK:CB:=
  (.cons (.ret (.comp ["zero","one"] [2] (.tup (.cons (.name 0) (.cons (.name 1) .nil))) (.zip (.var 0) (.var 1)) .no (.bin .Add (.bin .Add (.var 0) (.lst (.cons (.var 2) .nil))) (.lrev (.var 1)))))
  .nil)
noncomputable def vH:List Str:=["zeros","ones","name"]
noncomputable def oB:List Str:=["zeros","ones","name"]
noncomputable def lG:CB:=
  (.cons (.ret (.con .none))
  .nil)
noncomputable def lH:CB:=
  (.cons (.iff (.cmp .Gt (.bfn .len (.cons (.var 1) .nil)) (.bfn .len (.cons (.var 0) .nil)))
  (.cons (.ret (.tup (.cons (.con (.int 1)) (.cons (.bin .Add (.idx (.var 1) (.bfn .len (.cons (.var 0) .nil))) (.lst (.cons (.var 2) .nil))) .nil))))
  .nil)
  .nil)
  lG)
noncomputable def oY:CB:=
  (.cons (.iff (.cmp .Gt (.bfn .len (.cons (.var 0) .nil)) (.bfn .len (.cons (.var 1) .nil)))
  (.cons (.ret (.tup (.cons (.con (.int 0)) (.cons (.bin .Add (.idx (.var 0) (.bfn .len (.cons (.var 1) .nil))) (.lst (.cons (.var 2) .nil))) .nil))))
  .nil)
  .nil)
  lH)
noncomputable def Aq:List Str:=["ahead","read"]
noncomputable def sJ:List Str:=["ahead","read","coming","leaning","ways","name","zeros","ones","half"]
noncomputable def pf:CB:=
  (.cons (.ret (.tup (.cons (.var 3) (.cons (.var 4) .nil))))
  .nil)
noncomputable def gq:CB:=
  (.cons (.iff (.and (.cmp .IsNot (.var 8) (.con .none)) (.cmp .IsNot (.x2 .idxk (.var 0) (.var 5)) (.con .none)))
  (.cons (.expr (.meth1 .append (.x2 .idxk (.var 2) (.x2 .idxk (.var 0) (.var 5))) (.var 8)))
  .nil)
  .nil)
  .nil)
noncomputable def i6:CB:=
  (.cons (.putk (.var 3) (.var 5) (.ite (.cmp .Is (.var 8) (.con .none)) (.con .none) (.idx (.var 8) (.con (.int 0)))))
  gq)
noncomputable def i7:CB:=
  (.cons (.asg (.name 8) (.call "left_over" (.cons (.var 6) (.cons (.var 7) (.cons (.var 5) .nil)))))
  i6)
noncomputable def i8:CB:=
  (.cons (.expr (.meth1 .extend (.var 4) (.call "joined" (.cons (.var 6) (.cons (.var 7) (.cons (.var 5) .nil))))))
  i7)
noncomputable def i9:CB:=
  (.cons (.iff (.cmp .Eq (.x2 .getk (.var 1) (.var 5)) (.con (.int 1)))
  (.cons (.asg (.name 7) (.bin .Mult (.lst (.cons (.lst .nil) .nil)) (.bin .Add (.bfn .len (.cons (.var 6) .nil)) (.con (.int 1)))))
  .nil)
  .nil)
  i8)
noncomputable def ja:CB:=
  (.cons (.iff (.cmp .Eq (.x2 .getk (.var 1) (.var 5)) (.con (.int 0)))
  (.cons (.asg (.name 6) (.bin .Mult (.lst (.cons (.lst .nil) .nil)) (.bin .Add (.bfn .len (.cons (.var 7) .nil)) (.con (.int 1)))))
  .nil)
  .nil)
  i9)
noncomputable def jb:CB:=
  (.cons (.asg (.name 7) (.call "begun_at" (.cons (.x2 .idxk (.var 2) (.var 5)) (.cons (.con (.int 1)) .nil))))
  ja)
noncomputable def ph:CB:=
  (.cons (.forr (.name 5) (.lrevd (.bfn .listk (.cons (.var 0) .nil)))
  (.cons (.asg (.name 6) (.call "begun_at" (.cons (.x2 .idxk (.var 2) (.var 5)) (.cons (.con (.int 0)) .nil))))
  jb))
  pf)
noncomputable def pj:CB:=
  (.cons (.asg (.name 4) (.lst .nil))
  ph)
noncomputable def kM:CB:=
  (.cons (.asg (.name 3) (.dic .nil))
  pj)
noncomputable def tz:CB:=
  (.cons (.asg (.name 2) (.bfn .dictl (.cons (.tM (.comp ["name"] [] (.name 0) (.dkeys (.var 0)) .no (.tup (.cons (.var 0) (.cons (.lst .nil) .nil))))) .nil)))
  kM)
noncomputable def Al:List Str:=["ahead","leaning"]
noncomputable def sE:List Str:=["ahead","leaning","told","name","above"]
noncomputable def oQ:CB:=
  (.cons (.ret (.var 2))
  .nil)
noncomputable def oR:CB:=
  (.cons (.thawS (.forr (.tup (.cons (.name 3) (.cons (.name 4) .nil))) (.ditems (.var 0))
  (.cons (.iff (.cmp .IsNot (.x2 .idxk (.var 1) (.var 3)) (.con .none))
  (.cons (.putk (.var 2) (.var 3) (.x2 .idxk (.var 1) (.var 3)))
  .nil)
  (.cons (.putk (.var 2) (.var 3) (.ite (.cmp .Is (.var 4) (.con .none)) (.con (.int 0)) (.x2 .idxk (.var 2) (.var 4))))
  .nil))
  .nil)))
  oQ)
noncomputable def tm:CB:=
  (.cons (.asg (.name 2) (.dic .nil))
  oR)
noncomputable def Ds:List Str:=["frame","read","alone"]
noncomputable def vT:List Str:=["frame","read","alone","names","ahead","found"]
noncomputable def rh:CB:=
  (.cons (.ret (.tup (.cons (.call "settled" (.cons (.var 4) (.cons (.idx (.var 5) (.con (.int 0))) .nil))) (.cons (.idx (.var 5) (.con (.int 1))) .nil))))
  .nil)
noncomputable def rj:CB:=
  (.cons (.asg (.name 5) (.call "climbed" (.cons (.var 4) (.cons (.var 1) .nil))))
  rh)
noncomputable def rl:CB:=
  (.cons (.asg (.name 4) (.call "reached" (.cons (.call "neighbours" (.cons (.var 3) (.cons (.var 0) .nil))) .nil)))
  rj)
noncomputable def rm:CB:=
  (.cons (.iff (.not (.call "is_read" (.cons (.var 1) (.cons (.var 3) .nil))))
  (.cons (.rais "NoFrame" (.cons (.con (.str "what is read is no dict from names of the frame to readings")) .nil))
  .nil)
  .nil)
  rl)
noncomputable def wL:CB:=
  (.cons (.asg (.name 3) (.call "frame_list" (.cons (.var 0) (.cons (.var 2) .nil))))
  rm)
end F5
namespace F5
open PySem PySem.Spec PyProof.Rows L2 R Cp Kc
theorem sx{d:Addr}{o:Obj}{kvs:List (Key×V)}:pF (Iti d o kvs) kvs.length (fun i x H=>∃p k v,x=.ref p/\H p=some (.tup [kV k,v])/\kvs[i]? =some (k,v)) (fun H=>H d=some (.frz o (.dK kvs))) where
 go:=fun i H h hi=>⟨h,hi⟩
 stop:=fun i H h hi=>⟨h,hi⟩
 yld:=fun i H x H' h hi y=>by
  obtain⟨p,k,v,hp,e,ex,y⟩:=y;subst e ex;exact⟨⟨p,k,v,rfl,av,y⟩,aB hp⟩
theorem Cf{d:Addr}{o:Obj}{kvs:List (Key×V)}:pF (Itk d o kvs) kvs.length (fun i x _=>∃k v,kvs[i]? =some (k,v)/\x=kV k) (fun H=>H d=some (.frz o (.dK kvs))) where
 go:=fun i H h hi=>⟨h,hi⟩
 stop:=fun i H h hi=>⟨h,hi⟩
 yld:=fun i H x H' h hi y=>by
  obtain⟨e,y⟩:=y;subst e;exact⟨y,aX.refl _⟩
theorem seq_rev{K:aa}{a:Addr}{xs:List V}:pF (Itv K a xs) xs.length (fun i x _=>xs.reverse[i]? =some x) (fun H=>SqL K H a xs) where
 go:=fun i H h hi=>⟨h,hi⟩
 stop:=fun i H h hi=>hi
 yld:=fun i H x H' h hi y=>by
  obtain⟨e,y⟩:=y;subst e;exact⟨y,aX.refl _⟩
theorem vy{K:aa}{a b:Addr}{xs ys:List V}:pF (Itz K a b) (min xs.length ys.length) (fun i v H=>∃p x y,v=.ref p/\H p=some (.tup [x,y])/\xs[i]? =some x/\ys[i]? =some y) (fun H=>SqL K H a xs/\SqL K H b ys) where
 go:=fun i H h hi=>⟨xs,ys,xs[i]'(by omega),ys[i]'(by omega),h.1,h.2,ai _,ai _⟩
 stop:=fun i H h hi=>⟨xs,ys,h.1,h.2,by omega⟩
 yld:=fun i H v H' h hi y=>by
  obtain⟨p,x,z,hp,e,ev,y1,y2⟩:=y;subst e ev;exact⟨⟨p,x,z,rfl,av,y1 _ h.1,y2 _ h.2⟩,aB hp⟩
theorem sy{H H':Hp}{d:Addr}{o:Obj}{kvs:List (Key×V)}(h:H d=some (.dK kvs))(s:aX (upd H d (.frz o (.dK kvs))) H'):aX H (upd H' d (.dK kvs)):=fun b u e=>by
 by_cases c:b=d
 ·subst c
  rw[h]at e;cases e;exact av
 ·rw[aI c]
  exact s b u (by rw[aI c];exact e)
theorem xC{H H':Hp}{d:Addr}{o:Obj}{kvs:List (Key×V)}(h:H' d=some (.dK kvs))(s:aX H H'):aX H (upd (upd H' d (.frz o (.dK kvs))) d (.dK kvs)):=fun b u e=>by
 by_cases c:b=d
 ·subst c
  rw[av,<-h];exact s b u e
 ·rw[aI c,aI c]
  exact s b u e
theorem nN{H H':Hp}{d l:Addr}{o:Obj}{kvs:List (Key×V)}(h:H d=some (.dK kvs))(s:aX (upd H d (.frz o (.dK kvs))) H')(hl:H' l=none):H l=none/\l≠d:=by
 have :=s.free hl
 by_cases c:l=d
 ·rw[c,av]at this;cases this
 ·rw[aI c]at this;exact⟨this,c⟩
noncomputable def mV(ms:List (Nm×Int)):List (Nm×V):=ms.map fun q=>(q.1,.int q.2)
theorem uy(ms:List (Nm×Int)):(mV ms).map (·.1)=ms.map (·.1):=by unfold mV;rw[bK];rfl
noncomputable def spIr:Sp:=fun vs H Q _=>∃(r n:Addr)(ms:List (Nm×Int))(ns:List Nm),vs=[.ref r,.ref n]/\H r=some (.dK (kvS (mV ms)))/\H n=some (.lst (ns.map V.str))/\(∀q∈ms,q.1∈ns/\(q.2=0\/q.2=1))/\(∀v∈ns,gL v=true)/\ms.length<=100/\ns.length<=100/\∀H',aX H H'->Q (.bl true) H'
theorem ze(a:Nm)(l:List Nm):inV (V.str a) (l.map V.str)=decide (a∈l):=by
 unfold inV;rw[List.any_map,lq,fj,decide_eq_true_eq];constructor
 ·rintro⟨x,hx,e⟩
  have :x=a:=by simpa[eqV]using e
  rw[<-this];exact hx
 ·intro h
  exact⟨a,h,by simp[eqV]⟩
theorem sV(l:List Nm):(l.map V.str).all mY=true:=by
 rw[dw];intro v hv;obtain⟨m,_,rfl⟩:=aH.mp hv;rfl
theorem wp_ir{G:Gam}{K:aa}(g1:G.fn "is_name" 1=some (spN,[]))(g2:G.fn "is_reading" 1=some (spB jk,[])):Sat G K spIr tq sG:=by
 rintro vs H Q E ⟨r,n,ms,ns,rfl,hr,hn,hm,nn,l1,l2,q⟩;unfold tq;change wpB G K _ _ _ [some (.ref r),some (.ref n)] H;walk_at "wp";refine isi (kn_dK hr) .dict ⟨_,rfl,?_⟩;rw[show tyName H (.ref r)="dict" by show gA (H r)=_;rw[hr];rfl,if_neg (by decide)];unfold o9;walk_at "wp";refine⟨r,_,hr,gU ⟨_,rfl,r,_,rfl,.inl ⟨hr,fun o=>?_⟩⟩⟩;have hkl:(kvS (mV ms)).length=ms.length:=by unfold kvS mV;rw[ag,ag]
 have hnr:n≠r:=d5 hn hr (by intro z;cases z);have hn':upd H r (.frz o (.dK (kvS (mV ms)))) n=some (.lst (ns.map V.str)):=by rw[aI hnr];exact hn
 refine jm sx (ix (by omega)) (fun H3 s3=>s3 _ _ av) (fun i v _=>v=.bl true) (fun _ _ _ _ _ h=>h) (fun τ=>∃u v,τ=[u,v,some (.ref n)]) ⟨none,none,rfl⟩ ?_ ?_
 ·rintro i x τ H3 R hi ⟨u,v,rfl⟩ s3 ⟨p,k,v,rfl,hp,hv⟩ kk
  have hv':∃m,m∈ms/\k=.inr m.1/\v=.int m.2:=by
   have :=aS hv
   unfold kvS mV at this;rw[bK]at this;obtain⟨m,h1,h2⟩:=aH.mp this;cases h2;exact⟨m,h1,rfl,rfl⟩
  obtain⟨⟨a,x⟩,hm1,rfl,rfl⟩:=hv';obtain⟨h1,h2⟩:=(show a∈ns/\(x=0\/x=1)from hm _ hm1);refine⟨p,_,rfl,SqT.of hp,rfl,_,_,rfl,_,_,rfl,rfl,?_⟩;walk_at "wp";refine⟨_,_,g1,.str a,rfl,ux,(fun z e=>by cases e;exact aU (mM (nn a h1)) (by decide)),fun H4 s4=>⟨_,rfl,?_⟩⟩;rw[show isName (.str a)=true from nn a h1,if_pos rfl];refine .inr ⟨n,_,rfl,.inl (SqL.of ((s3.trans s4) _ _ hn')),rfl,sV ns,_,rfl,?_⟩;show if inV (V.str a) (ns.map V.str)=true then _ else _
  rw[ze,decide_eq_true h1,if_pos rfl];refine⟨_,_,g2,.int x,rfl,xY,fun H5 s5=>?_⟩;rw[show jk (.int x)=true by rcases h2 with rfl|rfl<;>rfl];exact kk _ _ _ ⟨_,_,rfl⟩ (s4.trans s5) rfl
 ·intro vs H2 l hvl hv s2 hl2
  have e:vs=((aQ (kvS (mV ms)).length).map fun _=>true).map V.bl:=by rw[<-hvl];exact bool_list rfl hv
  subst e;obtain⟨f1,f2⟩:=nN hr s2 hl2;refine⟨o,by rw[aI f2.symm];exact s2 _ _ av,l,_,rfl,SqL.of (by rw[aI f2,av]),?_⟩;rw[show(((aQ (kvS (mV ms)).length).map fun _=>true).all id)=true by rw[qb];simp];exact q _ (sy hr (s2.trans (aB hl2)))
noncomputable def itm(H:Hp)(y:V)(i:Nat):V:=match y with
 |.ref p=>match H p with
  |some (.tup xs)=>xs.getD i .non
  |_=>.non
 |_=>.non
theorem md{H:Hp}{p:Addr}{xs:List V}(h:H p=some (.tup xs))(i:Nat):itm H (.ref p) i=xs.getD i .non:=by
 show(match H p with |some (.tup xs)=>xs.getD i V.non|_=>V.non)=_;rw[h]
noncomputable def S0:Cl:=⟨fun _=>[],0⟩
theorem oN(rd:Nm->Option Int)(e:Nm×Option Nm):∀(l:List (Nm×Option Nm))(S:Cl),halves rd (l++[e]) S=halves rd l S++[(gd rd l S).half rd e.1]
 | [],_=>rfl
 |x::l,S=>congrArg (S.half rd x.1::·) (oN rd e l (S.step rd x))
theorem iZ(rd:Nm->Option Int):∀(l:List (Nm×Option Nm))(S:Cl),(halves rd l S).length=l.length
 | [],_=>rfl
 |_::l,_=>congrArg (·+1) (iZ rd l _)
theorem put_len(cs:Nm->List Int)(h:Option Int)(p:Option Nm)(v:Nm):(put cs h p v).length<=(cs v).length+1:=by
 unfold put;cases h with
 |none=>exact eE _
 |some x=>
  cases p with
  |none=>exact eE _
  |some q=>
   dsimp only;by_cases c:v=q
   ·rw[if_pos c,c,aG]
    exact ar _
   ·rw[if_neg c]
    exact eE _
theorem zo_le(r:Option Int){z o b:Nat}(h1:z<=b)(h2:o<=b):(zo r z o).1<=b+1/\(zo r z o).2<=b+1:=by
 unfold zo;split
 ·exact⟨by omega,by omega⟩
 ·split
  ·exact⟨by omega,by omega⟩
  ·exact⟨by omega,by omega⟩
noncomputable def lv(rd:Nm->Option Int)(R:List (Nm×Option Nm)):List (Nm×Option Int):=(R.map (·.1)).zip (halves rd R S0)
theorem lv_snoc(rd:Nm->Option Int)(l:List (Nm×Option Nm))(e:Nm×Option Nm):lv rd (l++[e])=lv rd l++[(e.1,(gd rd l S0).half rd e.1)]:=by
 unfold lv;rw[oN,aD,List.zip_append (by rw[ag,iZ])];rfl
theorem kQ(rd:Nm->Option Int)(R:List (Nm×Option Nm)):(lv rd R).map (·.1)=R.map (·.1):=by
 unfold lv;rw[List.map_fst_zip (by rw[ag,iZ];exact ar _)]
noncomputable def hV:Option Int->V
 |some x=>.int x
 |none=>.non
noncomputable def oV(L:List (Nm×Option Int)):List (Nm×V):=L.map fun q=>(q.1,hV q.2)
theorem za(L:List (Nm×Option Int)):(oV L).map (·.1)=L.map (·.1):=by unfold oV;rw[bK];rfl
noncomputable def rdO(ms:List (Nm×Int))(v:Nm):Option Int:=(ms.find? fun q=>decide (q.1=v)).map (·.2)
theorem vY(v:Nm):∀ms:List (Nm×Int),lk (mV ms) v=(rdO ms v).map V.int
 | []=>rfl
 | (a,x)::ms=>by
  have ih:=vY v ms;unfold lk rdO mV at ih⊢;rw[aN,cD,cD];cases h:decide (a=v)with
  |true=>rfl
  |false=>exact ih
theorem t8{ms:List (Nm×Int)}{v:Nm}{x:Int}(h:rdO ms v=some x):(v,x)∈ms:=by
 unfold rdO at h;obtain⟨⟨a,b⟩,h1,h2⟩:=gf.mp h;have h3:=tJ h1;have :a=v:=of_decide_eq_true h3;subst this;cases h2;exact jv h1
noncomputable def refs(ls:List (Nm×Addr)):List (Nm×V):=ls.map fun q=>(q.1,V.ref q.2)
theorem qm{α β:Type}{F:α->β->Prop}{a:α}{b:β}(h:F a b):∀{l:List α}{m:List β},Paired F l m->Paired F (l++[a]) (m++[b])
 |_,_,.nil=>.cons h .nil
 |_,_,.cons r t=>.cons r (qm h t)
noncomputable def Bl(ls:List (Nm×Addr))(w:Addr):Addr->Prop:=fun n=>n=w\/n∈ls.map (·.2)
section
variable {G:Gam}{K:aa}{E:XS}{D:Ends}{H H1:Hp}{a r d e w l0:Addr}{ls:List (Nm×Addr)}{N:List V}{cs:Nm->List Int}{b:Nat}{L:List (Nm×Option Int)}{wn:Nat}{A:List (Nm×Option Nm)}{v:Nm}{p:Option Nm}{h:Option Int}{y:V}{x6 x7 x8:Option V}
theorem oV_snoc(L:List (Nm×Option Int))(v:Nm)(h:Option Int):oV L++[(v,hV h)]=oV (L++[(v,h)]):=by unfold oV;rw[aD];rfl
theorem eq_oi{x:Option Int}{i:Int}{Q:VK}(q:Q (.bl (decide (x=some i))) H):gJ K .Eq ((x.map V.int).getD .non) (.int i) H Q:=by
 cases x with
 |none=>exact⟨.non,.int i,rfl,rfl,aM _,q⟩
 |some x=>
  refine qM.mpr ?_;rw[show decide (some x=some i)=decide (x=i) by simp]at q;exact q
theorem zm{Q:VK}{o:Addr}{os:List V}(ho:H o=some (.lst os))(l:os.length<=200)(q:∀H2 z n,aX H H2->H z=none->H n=none->H2 z=some (.lst (aO (os.length+1) (.ref n)))->H2 n=some (.lst [])->Q (.ref z) H2):
  ([]:List V).length<=sizeLine/\∀p,H p=none->[V.ref p].length<=sizeLine/\∀p1,upd H p (.lst []) p1=none->rBf K .len [.ref o] (upd (upd H p (.lst [])) p1 (.lst [.ref p])) fun x H1=>jy K .Add x (.int 1) H1 fun y H2=>jy K .Mult (.ref p1) y H2 Q:=by
 refine⟨aM _,fun p hp=>⟨(by show 1<=sizeLine;decide),fun p1 h1=>.inl ⟨o,_,rfl,.inl (SqL.of (aB h1 _ _ (aB hp _ _ ho))),Er.mpr ?_⟩⟩⟩;have s:=(aB (o:=.lst []) hp).trans (aB (o:=.lst [.ref p]) h1);refine .inr (.inl ⟨p1,_,[.ref p],rfl,rfl,av,by omega,by omega,ix (by show 1*_<=_;omega),fun z hz=>q _ z p (s.trans (aB hz)) (s.free hz) hp ?_ (aB hz _ _ (aB h1 _ _ av))⟩);rw[av,List.flatten_replicate_singleton];rfl
end
theorem Ee{J:It}{n:Nat}{it:Nat->V->Hp->Prop}{Hc:Hp->Prop}{g:TG}{te:TE}{Q:VK}{τ0:L2.St}{H1:Hp}(S:pF J n it Hc)(hn:n<=sizeLine)(hc:∀H,aX H1 H->Hc H)
  (P:Nat->List V->Hp->Prop)(Pm:∀i a H H',aX H H'->P i a H->P i a H')(T:L2.St->Prop)(hT:T τ0)(h0:P 0 [] H1)
  (step:∀i x τ acc H3 (R:L2.St->V->Hp->Prop),i<n->T τ->aX H1 H3->it i x H3->P i acc H3->(∀τ' v H6,T τ'->aX H3 H6->P (i+1) (acc++[v]) H6->R τ' v H6)->g x τ H3 fun τ4 H4=>te τ4 H4 (R τ4))
  (fin:∀vs H2 l,P n vs H2->aX H1 H2->H2 l=none->Q (.ref l) (upd H2 l (.lst vs))):
  zG J g zS te τ0 H1 Q:=by
 refine⟨fun i m τ acc H2=>m=n-i/\i<=n/\T τ/\acc.length=i/\aX H1 H2/\P i acc H2,⟨n,by simp,aM _,hT,rfl,aX.refl _,h0⟩,?_⟩;rintro i m τ acc H2 ⟨rfl,hi,ht,hl,sm,hF⟩;have q:=hc H2 sm;by_cases hlt:i<n
 ·refine .inr ⟨S.go i H2 q hlt,fun τ' acc' H'=>T τ'/\acc'.length=i+1/\aX H1 H'/\P (i+1) acc' H',fun τ' acc' H' ⟨a,b,c,d⟩=>⟨n-(i+1),by omega,rfl,hlt,a,b,c,d⟩,fun x H3 y=>?_⟩
  obtain⟨y1,y2⟩:=S.yld i H2 x H3 q hlt y;exact step i x τ acc H3 (fun τ' v H6=>acc.length<sizeLine/\T τ'/\(acc++[v]).length=i+1/\aX H1 H6/\P (i+1) (acc++[v]) H6) hlt ht (sm.trans y2) y1 (Pm _ _ _ _ y2 hF) fun τ' v H6 ht' s6 f6=>⟨by omega,ht',by simp[hl],(sm.trans y2).trans s6,f6⟩
 ·have e:i=n:=by omega
  subst e;exact .inl ⟨S.stop i H2 q (ar _),fun l hl'=>fin acc H2 l hF sm hl'⟩
structure Nw(H H':Hp)(A:List (Nm×Option Nm))(acc:List V)(ls:List (Nm×Addr)):Prop where
 ks:ls.map (·.1)=A.map (·.1)
 na:(ls.map (·.2)).Nodup
 pr:Paired (fun y q=>∃p,y=V.ref p/\H' p=some (.tup [.str q.1,.ref q.2])) acc ls
 at_:∀q∈ls,H' q.2=some (.lst [])/\H q.2=none
theorem Nw.same{H H1 H2:Hp}{A:List (Nm×Option Nm)}{acc:List V}{ls:List (Nm×Addr)}(h:Nw H H1 A acc ls)(s:aX H1 H2):Nw H H2 A acc ls:=⟨h.ks,h.na,L2.Paired.gM h.pr fun _ _ ⟨p,e,z⟩=>⟨p,e,s _ _ z⟩,fun q hq=>⟨s _ _ (h.at_ q hq).1,(h.at_ q hq).2⟩⟩
theorem aV_at{A:List (Nm×Option Nm)}{i:Nat}{k:Key}{x:V}(h:(kvS (aV A))[i]? =some (k,x)):∃e,A[i]? =some e/\k=.inr e.1/\x=pV e.2:=by
 unfold kvS aV at h;rw[bK,aZ]at h;obtain⟨e,h1,h2⟩:=gf.mp h;cases h2;exact⟨e,h1,rfl,rfl⟩
theorem pT{α β γ:Type}{F:α->γ->Prop}{f:β->γ}:∀{l:List α}{m:List β},Paired (fun a b=>F a (f b)) l m->Paired F l (m.map f)
 |_,_,.nil=>.nil
 |_,_,.cons h t=>.cons h (pT t)
theorem Av{l:List Nm}(h:l.Nodup):(l.map (dg:Nm->Key)).Nodup:=by
 rw[vb,gw];exact h.imp fun hn z=>hn (p6 z)
theorem w_le(rd:Nm->Option Int):∀(l:List (Nm×Option Nm))(S:Cl)(b c:Nat),(∀v,(S.cs v).length<=b)->b+l.length<=c->(gd rd l S).w<=S.w+l.length*(c+1)
 | [],S,b,c,_,_=>by simp[gd]
 |e::l,S,b,c,h,hc=>by
  rw[bj]at hc;have :=w_le rd l (S.step rd e) (b+1) c (fun v=>aU (put_len ..) (Nat.succ_le_succ (h v))) (by omega);have h1:(S.cs e.1).count 0<=(S.cs e.1).length:=Bv;have h2:(S.cs e.1).count 1<=(S.cs e.1).length:=Bv;have h3:=h e.1;have h4:=zo_le (rd e.1) (aU h1 h3) (aU h2 h3);have h5:(S.step rd e).w=S.w+min (S.zo rd e.1).1 (S.zo rd e.1).2:=rfl;have h6:(S.zo rd e.1).1<=b+1:=h4.1;show(gd rd l (S.step rd e)).w<=_;rw[bj,Nat.add_mul,Nat.one_mul];omega
theorem Back.mem{R:List (Nm×Option Nm)}(b:Back R){e:Nm×Option Nm}(he:e∈R){q:Nm}(h:e.2=some q):q∈R.map (·.1):=by
 induction b with
 |nil=>cases he
 | @cons x r hp hn t ih=>
  rw[aN];rcases aK.mp he with rfl|he
  ·exact aF _ (hp q h)
  ·exact aF _ (ih he)
structure Stl(A:List (Nm×Option Nm))(L:List (Nm×Option Int))(Ts:List (Nm×Int)):Prop where
 ks:Ts.map (·.1)=A.map (·.1)
 v01:∀q∈Ts,q.2=0\/q.2=1
 sm:∀e∈A,∀x,(e.1,some x)∈L->(e.1,x)∈Ts
 no:∀e∈A,(e.1,none)∈L->∀q,e.2=some q->∃x,(e.1,x)∈Ts/\(q,x)∈Ts
noncomputable def spSe:Sp:=fun vs H Q _=>∃(a e:Addr)(A:List (Nm×Option Nm))(L:List (Nm×Option Int)),vs=[.ref a,.ref e]/\H a=some (.dK (kvS (aV A)))/\H e=some (.dK (kvS (oV L)))/\(A.map (·.1)).Nodup/\(L.map (·.1)).Nodup/\(∀v∈A.map (·.1),v∈L.map (·.1))/\(∀q∈L,∀x,q.2=some x->x=0\/x=1)/\(∀(i:Nat) e q,A[i]? =some e->e.2=some q->q∈(A.take i).map (·.1))/\A.length<=200/\
 ∀H' t Ts,aX H H'->H t=none->H' t=some (.dK (kvS (mV Ts)))->Stl A L Ts->Q (.ref t) H'
theorem yY(Ts:List (Nm×Int))(v:Nm)(x:Int):mV Ts++[(v,.int x)]=mV (Ts++[(v,x)]):=by unfold mV;rw[aD];rfl
theorem pY{α:Type}{L:List (Nm×α)}(nd:(L.map (·.1)).Nodup){v:Nm}{x y:α}(h1:(v,x)∈L)(h2:(v,y)∈L):x=y:=by
 obtain⟨i,hi,ei⟩:=aT.mp h1;obtain⟨j,hj,ej⟩:=aT.mp h2;have :(L.map (·.1))[i]'(by rw[ag];exact hi)=(L.map (·.1))[j]'(by rw[ag];exact hj):=by rw[bL,bL,ei,ej]
 have :=(cc nd).mp this
 subst this;rw[ei]at ej;cases ej;rfl
theorem Stl.snoc{A:List (Nm×Option Nm)}{L:List (Nm×Option Int)}{Ts:List (Nm×Int)}(S:Stl A L Ts)(nd:(L.map (·.1)).Nodup){e:Nm×Option Nm}{h:Option Int}{x:Int}(hL:(e.1,h)∈L)(hx:x=0\/x=1)(h1:∀y,h=some y->x=y)(h2:h=none->∀q,e.2=some q->(q,x)∈Ts):Stl (A++[e]) L (Ts++[(e.1,x)]):=by
 refine⟨by rw[aD,aD,S.ks];rfl,fun q hq=>?_,fun u hu y hy=>?_,fun u hu hy q hq=>?_⟩
 ·rcases aw.mp hq with hq|hq
  ·exact S.v01 q hq
  ·rw[aq.mp hq];exact hx
 ·rcases aw.mp hu with hu|hu
  ·exact aw.mpr (.inl (S.sm u hu y hy))
  ·cases aq.mp hu
   rw[h1 y (pY nd hL hy)];exact aw.mpr (.inr au)
 ·rcases aw.mp hu with hu|hu
  ·obtain⟨y,y1,y2⟩:=S.no u hu hy q hq
   exact⟨y,aw.mpr (.inl y1),aw.mpr (.inl y2)⟩
  ·cases aq.mp hu
   exact⟨x,aw.mpr (.inr au),aw.mpr (.inl (h2 (pY nd hL hy) q hq))⟩
theorem lk_oV{L:List (Nm×Option Int)}(nd:(L.map (·.1)).Nodup){v:Nm}{h:Option Int}(m:(v,h)∈L):lk (oV L) v=some (hV h):=l6 (by rw[za];exact nd) (aH.mpr ⟨_,m,rfl⟩)
theorem xT{Ts:List (Nm×Int)}(nd:(Ts.map (·.1)).Nodup){v:Nm}{x:Int}(m:(v,x)∈Ts):lk (mV Ts) v=some (.int x):=l6 (by rw[uy];exact nd) (aH.mpr ⟨_,m,rfl⟩)
theorem wp_se{G:Gam}{K:aa}:Sat G K spSe tm sE:=by
 rintro vs H Q E ⟨a,e,A,L,rfl,ha,he,nA,nL,sub,l01,up,l1,q⟩;unfold tm;change wpB G K _ _ _ [some (.ref a),some (.ref e),none,none,none] H;have hkl:(kvS (aV A)).length=A.length:=by unfold kvS aV;rw[ag,ag]
 walk_at "wp"
 refine .inl ⟨trivial,fun t ht=>?_⟩;unfold oR;walk_at "wp";have s0:aX H (upd H t (.dK [])):=aB ht;have ha0:=s0 _ _ ha;refine⟨a,_,ha0,gO ⟨_,rfl,a,_,rfl,.inl ⟨ha0,fun o=>?_⟩⟩⟩;have hta:t≠a:=(bg ha ht).symm;have hea:e≠t:=bg he ht;refine fh sx (fun k σ H'=>(∃y3 y4,σ=[some (.ref a),some (.ref e),some (.ref t),y3,y4])/\H' a=some (.frz o (.dK (kvS (aV A))))/\aX H (upd H' a (.dK (kvS (aV A))))/\∃Ts,H' t=some (.dK (kvS (mV Ts)))/\Stl (A.take k) L Ts)
  ⟨⟨_,_,rfl⟩,av,xC ha0 s0,[],by rw[aI hta,av];rfl,rfl,(fun q hq=>nomatch hq),(fun q hq=>nomatch hq),(fun q hq=>nomatch hq)⟩ (fun k σ H' _ s=>s.2.1) ?_ ?_
 ·rintro k x σ H1 H2 D2 hk ⟨⟨y3,y4,rfl⟩,fz,sm,Ts,h1,S⟩ ⟨p,kk,v,rfl,hp,hkv⟩ s2 hD2 _
  obtain⟨u,hu,rfl,rfl⟩:=aV_at hkv;rw[hkl]at hk;have hum:=aS hu;refine⟨p,_,rfl,SqT.of hp,rfl,_,_,rfl,_,_,rfl,rfl,?_⟩;walk_at "wp";have fz2:=s2 _ _ fz;have h2:=s2 _ _ h1;have sm2:aX H (upd H2 a (.dK (kvS (aV A)))):=fun b w hb=>by
   have :=sm b w hb
   by_cases c:b=a
   ·rw[c,av]at this⊢
    exact this
   ·rw[aI c]at this⊢
    exact s2 b w this
  have hre:Rd H2 e (.dK (kvS (oV L))):=by
   have :=sm2 _ _ he
   by_cases c:e=a
   ·rw[c,av]at this
    rw[c,<-bh this];exact .inr ⟨o,fz2⟩
   ·rw[aI c]at this
    exact .inl this
  obtain⟨⟨w,h⟩,hq,ew⟩:=aH.mp (sub _ (bS hum));have ew:w=u.1:=ew;subst ew;have ge:=lk_oV nL hq▸uC u.1 hre;have hlk:Ts.length=k:=by
   have :=congrArg jK S.ks
   rw[ag,ag,bb]at this;omega
  have hnew:u.1∉Ts.map (·.1):=by
   rw[S.ks,List.map_take];intro z;obtain⟨j,hj,ej⟩:=aT.mp z;rw[bb]at hj;rw[gy]at ej;have e2:(A.map (·.1))[k]'(by rw[ag];exact hk)=u.1:=by rw[bL,(bE.mp hu).2]
   rw[<-e2]at ej;have :=(cc nA).mp ej;omega
  have fin:∀x:Int,(x=0\/x=1)->(∀y,h=some y->x=y)->(h=none->∀q,u.2=some q->(q,x)∈Ts)->∃a_1 H4,V.ref t=V.ref a_1/\yv H2 a_1 (kV (dg u.1)) (.int x) H4/\D2.nx [some (.ref a),some (.ref e),some (.ref t),some (kV (dg u.1)),some (pV u.2)] H4:=by
   intro x hx c1 c2;have hdp:=dput (x:=.int x) h2 (by unfold mV;rw[ag];omega) (by rw[uy];exact hnew);rw[yY]at hdp;refine⟨t,_,rfl,hdp,hD2 _ _ ⟨⟨_,_,rfl⟩,by rw[aI hta.symm];exact fz2,fun b w hb=>?_,_,av,?_⟩⟩
   ·have :=sm2 b w hb
    by_cases c:b=a
    ·rw[c,av]at this⊢
     exact this
    ·rw[aI c]at this⊢
     rw[aI (bg hb ht)];exact this
   ·rw[bM,hu]
    exact S.snoc nL hq hx c1 c2
  refine⟨e,_,rfl,ge,?_⟩;cases h with
  |some y=>
   rw[if_pos (by simp[hV])];exact⟨e,_,rfl,ge,fin y (l01 _ hq y rfl) (fun z hz=>bh hz) (fun z=>nomatch z)⟩
  |none=>
   rw[if_neg (by simp[hV])];cases hp2:u.2 with
   |none=>
    rw[hp2]at fin;rw[if_pos (by simp[pV])];exact fin 0 (.inl rfl) (fun y hy=>nomatch hy) (fun _ q hq=>nomatch hq)
   |some q=>
    rw[hp2]at fin;rw[if_neg (by simp[pV])];have hqT:=up k u q hu hp2;rw[<-S.ks]at hqT;obtain⟨⟨w,x⟩,hw,ew⟩:=aH.mp hqT;have ew:w=q:=ew;subst ew;exact⟨t,_,rfl,xT (by rw[S.ks,List.map_take];exact nA.sublist (p8 ..)) hw▸uC w (.inl h2),fin x (S.v01 _ hw) (fun y hy=>nomatch hy) (fun _ q hq=>by cases hq;exact hw)⟩
 ·rintro σ H1 ⟨⟨y3,y4,rfl⟩,fz,sm,Ts,h1,S⟩
  rw[hkl,bY]at S;refine⟨o,fz,?_⟩;unfold oQ;walk_at "wp";exact q _ t Ts sm ht (by rw[aI hta];exact h1) S
noncomputable def tl(Ts:List (Nm×Int))(v:Nm):Int:=(rdO Ts v).getD 0
theorem xF{Ts:List (Nm×Int)}(nd:(Ts.map (·.1)).Nodup){v:Nm}{x:Int}(m:(v,x)∈Ts):rdO Ts v=some x:=by
 have h:=xT nd m;rw[vY]at h;obtain⟨y,h1,h2⟩:=gf.mp h;cases h2;exact h1
theorem so{Ts:List (Nm×Int)}(nd:(Ts.map (·.1)).Nodup){v:Nm}{x:Int}(m:(v,x)∈Ts):tl Ts v=x:=by
 unfold tl;rw[xF nd m];rfl
theorem iF.up{F:List (Nm×Nm)}{A:List (Nm×Option Nm)}(g:iF F A):∀(i:Nat) e q,A[i]? =some e->e.2=some q->q∈(A.take i).map (·.1):=by
 induction g with
 |one s=>
  intro i e q h1 h2;cases i with
  |zero=>cases h1;cases h2
  |succ i=>cases h1
 | @more A v p g hq hv he ih=>
  intro i e q h1 h2;by_cases c:i<A.length
  ·rw[fw c]at h1
   rw[List.take_append_of_le_length (gF c)];exact ih i e q h1 h2
  ·rw[cP (by omega)]at h1
   have h0:i-A.length=0:=by
    have :=(bE.mp h1).1
    rw[bX]at this;omega
   rw[h0]at h1;cases h1;cases h2;have :i=A.length:=by omega
   rw[this,List.take_left];exact hq
structure Few(F:List (Nm×Nm))(ws:List Nm)(ms Ts:List (Nm×Int))(n:Nat):Prop where
 nd:(Ts.map (·.1)).Nodup
 ks:∀v,v∈Ts.map (·.1)↔v∈ws
 v01:∀q∈Ts,q.2=0\/q.2=1
 ext:∀q∈ms,q∈Ts
 ch:ch (tl Ts) F=n
 few:∀T,(∀v∈ws,Tells T (rdO ms) v)->n<=F5.ch T F
theorem half_01{rd:Nm->Option Int}{S:Cl}{n:Nm}{y:Int}(h:S.half rd n=some y):y=0\/y=1:=by
 have :F5.half (S.zo rd n).1 (S.zo rd n).2=some y:=h;unfold F5.half at this;split at this
 ·cases this;exact .inl rfl
 ·split at this
  ·cases this;exact .inr rfl
  ·cases this
theorem mf{rd:Nm->Option Int}:∀{R:List (Nm×Option Nm)}{S:Cl}{e:Nm×Option Int},e∈(R.map (·.1)).zip (halves rd R S)->∃S',e.2=Cl.half rd S' e.1
 | [],_,_,h=>nomatch h
 |x::R,S,e,h=>by
  rcases aK.mp (show e∈(x.1,S.half rd x.1)::(R.map (·.1)).zip (halves rd R (S.step rd x))from h)with rfl|h
  ·exact⟨S,rfl⟩
  ·exact mf h
theorem DW{T:Nm->Int}{rd:Nm->Option Int}:∀{R:List (Nm×Option Nm)}{S:Cl},(∀e∈R,∀h,(e.1,h)∈(R.map (·.1)).zip (halves rd R S)->(∀x,h=some x->T e.1=x)/\(h=none->∀q,e.2=some q->T e.1=T q))->Fit T R (halves rd R S)
 | [],_,_=>trivial
 |x::R,S,h=>by
  have h0:=h x au (S.half rd x.1) au;exact⟨h0.1,h0.2,DW fun e he y hy=>h e (aF _ he) y (aF _ hy)⟩
theorem few_of{F:List (Nm×Nm)}{ws vs:List Nm}{A:List (Nm×Option Nm)}{ms Ts:List (Nm×Int)}(t:Tree F ws)(fd:Found F vs A)(hvs:∀v,v∈vs↔v∈ws)(hm:∀q∈ms,q.1∈ws/\(q.2=0\/q.2=1))(nm:(ms.map (·.1)).Nodup)(S:Stl A (lv (rdO ms) A.reverse) Ts):Few F ws ms Ts (gd (rdO ms) A.reverse S0).w:=by
 have hr:∀n x,rdO ms n=some x->x=0\/x=1:=fun n x h=>(hm _ (t8 h)).2;have nA:=fd.g.nd;have nT:(Ts.map (·.1)).Nodup:=S.ks▸nA;obtain⟨s,hs⟩:∃s,s∈A.map (·.1):=by
  cases fd.g with
  |one s=>exact⟨s,au⟩
  |more g hq hv he=>exact⟨_,by rw[aD];exact aw.mpr (.inl hq)⟩
 obtain⟨al,len⟩:=t.all nA (fun v hv=>(hvs v).mp (fd.sub v hv)) fd.cl hs;have hkA:∀v,v∈A.map (·.1)↔v∈ws:=fun v=>⟨fun h=>(hvs v).mp (fd.sub v h),al v⟩;have nL:((lv (rdO ms) A.reverse).map (·.1)).Nodup:=by rw[kQ,cH];exact(gv _).nodup_iff.mpr nA
 have hL:∀e∈A,∃h,(e.1,h)∈lv (rdO ms) A.reverse:=fun e he=>by
  have :e.1∈(lv (rdO ms) A.reverse).map (·.1):=by rw[kQ];exact mT.mpr (bS he)
  obtain⟨q,hq,e⟩:=aH.mp this;exact⟨q.2,e▸hq⟩
 have ext:∀q∈ms,q∈Ts:=fun q hq=>by
  obtain⟨e,he,ee⟩:=aH.mp (al _ (hm q hq).1);obtain⟨h,hh⟩:=hL e he;obtain⟨S',e2⟩:=mf hh;have e2:h=Cl.half (rdO ms) S' e.1:=e2;rw[AJ (hm q hq).2 (by rw[ee];exact xF nm hq)]at e2;subst e2;have :=S.sm e he _ hh;rw[ee]at this;exact this
 have tells:∀v∈ws,Tells (tl Ts) (rdO ms) v:=fun v hv=>by
  rw[<-hkA,<-S.ks]at hv;obtain⟨q,hq,rfl⟩:=aH.mp hv;have e1:=so nT (show(q.1,q.2)∈Ts from hq);refine⟨by rw[e1];exact S.v01 q hq,fun x hx=>?_⟩;exact so nT (ext _ (t8 hx))
 have inA:∀e∈A.reverse,e.1∈ws:=fun e he=>(hkA _).mp (bS (fi.mp he));have d0:∀T R,due T S0.cs R=0:=fun T R=>by
  unfold due
  induction R with
  |nil=>rfl
  |cons e R ih=>rw[aN,fJ,ih];rfl
 have fit:Fit (tl Ts) A.reverse (halves (rdO ms) A.reverse S0):=DW fun e he h hh=>by
  have he:=fi.mp he;refine⟨fun x hx=>so nT (S.sm e he x (hx▸hh)),fun hn q hq=>?_⟩;obtain⟨x,x1,x2⟩:=S.no e he (hn▸hh) q hq;rw[so nT x1,so nT x2]
 have few1:=Eo hr fd.g.back (S:=S0) (fun _ _ h=>nomatch h) (fun e he=>tells _ (inA e he)) fit;rw[d0]at few1;refine⟨nT,fun v=>by rw[S.ks];exact hkA v,S.v01,ext,?_,fun T hT=>?_⟩
 ·rw[fd.g.ch len,few1]
  show _=0+0+_;omega
 ·have :=vR hr fd.g.back (S:=S0) (fun _ _ h=>nomatch h) fun e he=>hT _ (inA e he)
  rw[d0]at this;rw[fd.g.ch len];have h0:S0.w=0:=rfl;omega
end F5
namespace F5
open PySem R
noncomputable def vL:List Str:=["_law_script","_law_k"]
noncomputable def oG:List Str:=["_law_script","_law_k"]
noncomputable def i5:CB:=
  (.cons (.ret (.bin .Mod (.bin .Mult (.bin .Add (.idx (.var 0) (.var 1)) (.con (.int 1))) (.bin .Add (.con (.int 48271)) (.bin .Mult (.bin .Mult (.con (.int 7919)) (.var 1)) (.var 1)))) (.con (.int 2147483629))))
  .nil)
noncomputable def o6:CB:=
  (.cons (.iff (.and (.cmp .Eq (.bin .Mod (.bin .FloorDiv (.idx (.var 0) (.con (.int 0))) (.con (.int 64))) (.con (.int 2))) (.con (.int 1))) (.cmp .Gt (.idx (.var 0) (.var 1)) (.bin .Pow (.con (.int 10)) (.con (.int 12)))))
  (.cons (.ret (.bin .Mod (.idx (.var 0) (.var 1)) (.bin .Pow (.con (.int 10)) (.con (.int 30)))))
  .nil)
  .nil)
  i5)
noncomputable def xK:List Str:=["_law_number","_law_form"]
noncomputable def qv:List Str:=["_law_number","_law_form","_law_letters","_law_ahead","_law_word"]
noncomputable def m9:CB:=
  (.cons (.ret (.bin .Add (.var 4) (.cut (.con (.str "zzz")) .no (.yes (.bin .Mod (.bin .FloorDiv (.var 1) (.con (.int 4))) (.con (.int 4)))))))
  .nil)
noncomputable def nc:CB:=
  (.cons (.asg (.name 4) (.bin .Add (.bin .Add (.cut (.con (.str "qqq")) .no (.yes (.var 3))) (.idx (.var 2) (.bin .Mod (.var 0) (.con (.int 26))))) (.idx (.var 2) (.bin .Mod (.bin .FloorDiv (.var 0) (.con (.int 26))) (.con (.int 26))))))
  m9)
noncomputable def ng:CB:=
  (.cons (.asg (.name 3) (.bin .Mod (.var 1) (.con (.int 4))))
  nc)
noncomputable def qY:CB:=
  (.cons (.asg (.name 2) (.con (.str "abcdefghijklmnopqrstuvwxyz")))
  ng)
noncomputable def vN:List Str:=["_law_number","_law_k","_law_form"]
noncomputable def oI:List Str:=["_law_number","_law_k","_law_form"]
noncomputable def lU:CB:=
  (.cons (.ret (.bin .Mod (.var 0) (.var 1)))
  .nil)
noncomputable def lV:CB:=
  (.cons (.iff (.cmp .Eq (.bin .Mod (.var 2) (.con (.int 5))) (.con (.int 2)))
  (.cons (.ret (.bin .Mod (.var 0) (.bfn .min (.cons (.var 1) (.cons (.con (.int 3)) .nil)))))
  .nil)
  .nil)
  lU)
noncomputable def o8:CB:=
  (.cons (.iff (.cmp .Eq (.bin .Mod (.var 2) (.con (.int 5))) (.con (.int 1)))
  (.cons (.ret (.bin .Sub (.var 1) (.con (.int 1))))
  .nil)
  .nil)
  lV)
noncomputable def vK:List Str:=["_law_script","_law_form","_law_most"]
noncomputable def oF:List Str:=["_law_script","_law_form","_law_most","_law_frame_here","_law_k","_law_number","_law_branch","_law_at"]
noncomputable def lO:CB:=
  (.cons (.ret (.var 3))
  .nil)
noncomputable def jT:CB:=
  (.cons (.asg (.name 3) (.bin .Add (.bin .Add (.cut (.var 3) .no (.yes (.var 7))) (.lst (.cons (.var 6) .nil))) (.cut (.var 3) (.yes (.var 7)) .no)))
  .nil)
noncomputable def gP:CB:=
  (.cons (.asg (.name 7) (.bin .Mod (.bin .FloorDiv (.var 5) (.con (.int 2))) (.bin .Add (.bfn .len (.cons (.var 3) .nil)) (.con (.int 1)))))
  jT)
noncomputable def jU:CB:=
  (.cons (.iff (.cmp .Eq (.bin .Mod (.var 5) (.con (.int 2))) (.con (.int 1)))
  (.cons (.asg (.name 6) (.tup (.cons (.idx (.var 6) (.con (.int 1))) (.cons (.idx (.var 6) (.con (.int 0))) .nil))))
  .nil)
  .nil)
  gP)
noncomputable def jV:CB:=
  (.cons (.asg (.name 6) (.tup (.cons (.call "_law_name" (.cons (.var 4) (.cons (.var 1) .nil))) (.cons (.call "_law_name" (.cons (.call "_law_above" (.cons (.bin .FloorDiv (.var 5) (.con (.int 200))) (.cons (.var 4) (.cons (.var 1) .nil)))) (.cons (.var 1) .nil))) .nil))))
  jU)
noncomputable def lP:CB:=
  (.cons (.forr (.name 4) (.range2 (.con (.int 1)) (.bfn .min (.cons (.bfn .len (.cons (.var 0) .nil)) (.cons (.var 2) .nil))))
  (.cons (.asg (.name 5) (.call "_law_drawn" (.cons (.var 0) (.cons (.var 4) .nil))))
  jV))
  lO)
noncomputable def o5:CB:=
  (.cons (.asg (.name 3) (.lst .nil))
  lP)
noncomputable def vJ:List Str:=["_law_script","_law_form","_law_most"]
noncomputable def oE:List Str:=["_law_script","_law_form","_law_most"]
noncomputable def o4:CB:=
  (.cons (.ret (.comp ["_law_k"] [1] (.name 0) (.range1 (.bfn .max (.cons (.con (.int 1)) (.cons (.bfn .min (.cons (.bfn .len (.cons (.var 0) .nil)) (.cons (.var 2) .nil))) .nil)))) .no (.call "_law_name" (.cons (.var 0) (.cons (.var 1) .nil)))))
  .nil)
end F5
namespace F5
open PySem PySem.Spec PyProof.Rows L2 R Cp Kc Lt
theorem uL{ns:List Int}{k:Nat}(h:k<ns.length):atI (ns.map V.int) (k:Int)=some (.int ns[k]):=gV (by rw[aZ,ai h];rfl)
noncomputable def spDr(K:aa):Sp:=fun vs H Q _=>∃(s:Addr)(ns:List Int)(k:Nat),vs=[.ref s,.int k]/\SqL K H s (ns.map V.int)/\k<ns.length/\k<=100/\∀d:Int,Q (.int d) H
theorem wp_dr{G:Gam}{K:aa}:Sat G K (spDr K) o6 oG:=by
 rintro vs H Q E ⟨s,ns,k,rfl,hs,hk,l1,q⟩;unfold o6;change wpB G K _ _ _ [some (.ref s),some (.int k)] H;walk_at "wp";have a0:=uL (ns:=ns) (k:=0) (by omega);have ak:=uL hk;have last:wpB G K (fun _=>E) i5 {nx:=fun x H'=>Q V.non H',rt:=Q} [some (.ref s),some (.int k)] H:=by
  unfold i5;walk_at "wp";refine .inl ⟨s,_,_,_,rfl,rfl,hs,ak,?_⟩;walk_at "wp";have h2:(k:Int)*k<=100*100:=Int.mul_le_mul (by omega) (by omega) (by omega) (by decide);have h3:0<=(k:Int)*k:=Int.mul_nonneg (by omega) (by omega);have h4:7919*(k:Int)*k=7919*(k*k):=Int.mul_assoc ..;exact⟨cmulL (by decide) (by decide),zr (by omega) (by omega),zr (by omega) (by omega),by decide,q _⟩
 refine .inl ⟨s,_,0,_,rfl,rfl,hs,a0,?_⟩;walk_at "wp";refine⟨⟨by decide,by decide⟩,by decide,?_⟩;split
 ·refine .inl ⟨s,_,_,_,rfl,rfl,hs,ak,⟨by decide,by decide,by decide⟩,qK.mpr ⟨_,rfl,?_⟩⟩
  split
  ·refine .inl ⟨s,_,_,_,rfl,rfl,hs,ak,⟨by decide,by decide,by decide⟩,qz.mpr ⟨by decide,q _⟩⟩
  ·exact last
 ·rw[if_neg bp]
  exact last
noncomputable def fsg(c k:Int):List Nat:=[113,113,113].take (c%4).toNat++[uw k]++[uw (k/26)]++[122,122,122].take (c/4%4).toNat
noncomputable def fnm(c k:Int):Str:=mkS (fsg c k)
noncomputable def spNm:Sp:=fun vs H Q _=>∃(c k:Int),vs=[.int k,.int c]/\∀H',aX H H'->Q (.str (fnm c k)) H'
theorem wp_nm{G:Gam}{K:aa}:Sat G K spNm qY qv:=by
 rintro vs H Q E ⟨c,k,rfl,q⟩;unfold qY;change wpB G K _ _ _ [some (.int k),some (.int c),none,none,none] H;walk_at "wp";unfold ng;walk_at "wp";refine⟨by decide,?_⟩;unfold nc;walk_at "wp";have e1:c%4=((c%4).toNat:Int):=(fH (cS _ (by decide))).symm;have e2:c/4%4=((c/4%4).toNat:Int):=(fH (cS _ (by decide))).symm;have l1:([113,113,113].take (c%4).toNat).length<=3:=by rw[bb];exact hG ..
 have l2:([122,122,122].take (c/4%4).toNat).length<=3:=by rw[bb];exact hG ..
 rw[e1];rw[show cF "qqq"=mkS [113,113,113] by decide+kernel,wq];have h1a:∀x:Nat,[x].length=1:=fun _=>rfl;refine⟨by decide+kernel,by decide,_,mW,rp _,?_,⟨by decide,by decide⟩,by decide,_,mW,rp _,?_,?_⟩
 ·rw[mk1,kn,kn,h1a]
  exact short (by omega)
 ·rw[mk1,mk1,ur,kn,kn,aG,h1a,h1a]
  exact short (by omega)
 unfold m9;walk_at "wp";rw[e2,show cF "zzz"=mkS [122,122,122] by decide+kernel,wq,mk1,mk1,ur,ur];refine⟨⟨by decide,by decide⟩,by decide,by decide+kernel,?_,?_⟩
 ·rw[kn,kn,aG,aG,h1a,h1a]
  exact short (by omega)
 ·rw[ur]
  exact q H (aX.refl H)
theorem fnm_ok(c k:Int):gL (fnm c k)=true:=by
 have l1:([113,113,113].take (c%4).toNat).length<=3:=by rw[bb];exact hG ..
 have l2:([122,122,122].take (c/4%4).toNat).length<=3:=by rw[bb];exact hG ..
 have hl:(fnm c k).length=([113,113,113].take (c%4).toNat).length+2+([122,122,122].take (c/4%4).toNat).length:=by
  show(mkS (fsg c k)).length=_;rw[kn];unfold fsg;simp only[aG,bj,fV]
 unfold gL;rw[hl,aP];refine⟨decide_eq_true (by omega),?_⟩;show(fsg c k).toArray.toList.all fO=true;rw[EE];unfold fsg;simp only[List.all_append,aP,ot,List.all_nil,lett_ok,and_true];have h1:[113,113,113].all fO=true:=by decide
 have h2:[122,122,122].all fO=true:=by decide
 rw[dw]at h1 h2;exact⟨dw.mpr fun y hy=>h1 y (mC hy),dw.mpr fun y hy=>h2 y (mC hy)⟩
theorem fnm_inj{c:Int}{i j:Nat}(hi:i<600)(hj:j<600)(h:fnm c i=fnm c j):i=j:=by
 have e:fsg c i=fsg c j:=by
  have :=congrArg (fun z:Str=>z.cps.toList) h
  simpa[fnm]using this
 unfold fsg at e;have e1:=List.append_cancel_right e;have e2:=List.append_inj_right' e1 (by simp);have e3:=List.append_cancel_left (List.append_inj_left' e1 (by simp));injection e2 with e2 _
 injection e3 with e3 _;have a:=v5 e2;have b:=v5 e3;omega
noncomputable def spAb:Sp:=fun vs H Q _=>∃(n c:Int)(k:Nat),vs=[.int n,.int k,.int c]/\1<=k/\k<=100/\∀j:Nat,j<k->Q (.int j) H
theorem wp_ab{G:Gam}{K:aa}:Sat G K spAb o8 oI:=by
 rintro vs H Q E ⟨n,c,k,rfl,h1,h2,q⟩;unfold o8;change wpB G K _ _ _ [some (.int n),some (.int k),some (.int c)] H;walk_at "wp";refine⟨by decide,?_⟩;have fin:∀m:Int,0<m->m<=k->Q (.int (n%m)) H:=fun m hm hk=>by
  have h0:=cS n (show m≠0 by omega);have h1:=f9 n hm;have :=q (n%m).toNat (by omega);rw[fH h0]at this;exact this
 split
 ·have :=q (k-1) (by omega)
  rw[show((k-1:Nat):Int)=(k:Int)-1 by omega]at this;exact this
 ·unfold lV
  walk_at "wp"
  refine⟨by decide,?_⟩;split
  ·refine⟨_,_,rfl,qz.mpr ?_⟩
   split
   ·exact⟨by decide,fin _ (by decide) (by omega)⟩
   ·exact⟨by omega,fin _ (by omega) (by omega)⟩
  ·unfold lU
   walk_at "wp"
   exact⟨by omega,fin _ (by omega) (by omega)⟩
theorem Tree.put{F F':List (Nm×Nm)}{vs:List Nm}(t:Tree F vs){v u:Nm}{e:Nm×Nm}(hv:v∉vs)(hu:u∈vs)(he:e=(v,u)\/e=(u,v))(p:F'.Perm (e::F)):Tree F' (vs++[v]):=by
 have t':Tree (e::F) (vs++[v]):=by
  have m1:∀{x},x∈vs->x∈vs++[v]:=fun h=>aw.mpr (.inl h);have m2:v∈vs++[v]:=aw.mpr (.inr au);refine⟨?_,fun x hx=>?_,by rw[aG,t.len];rfl,fun S hS a ha b hb sa=>?_⟩
  ·rw[cf]
   refine⟨t.nd,by simp,fun a ha b hb z=>?_⟩;cases aq.mp hb;exact hv (z▸ha)
  ·rcases aK.mp hx with rfl|hx
   ·rcases he with rfl|rfl
    ·exact⟨m2,m1 hu⟩
    ·exact⟨m1 hu,m2⟩
   ·exact⟨m1 (t.sub x hx).1,m1 (t.sub x hx).2⟩
  ·have hS':∀x∈F,S x.1↔S x.2:=fun x hx=>hS x (aF _ hx)
   have he':S v↔S u:=by
    have :=hS e au
    rcases he with rfl|rfl
    ·exact this
    ·exact this.symm
   have ka:S u:=by
    rcases aw.mp ha with ha|ha
    ·exact t.conn S hS' a ha u hu sa
    ·cases aq.mp ha
     exact he'.mp sa
   rcases aw.mp hb with hb|hb
   ·exact t.conn S hS' u hu b hb ka
   ·cases aq.mp hb
    exact he'.mpr ka
 exact t'.perm p
noncomputable def nms(c:Int)(n:Nat):List Nm:=(aQ n).map fun k:Nat=>fnm c k
theorem Dy(c:Int)(n:Nat):nms c (n+1)=nms c n++[fnm c n]:=by unfold nms;rw[List.range_succ,aD];rfl
theorem nms_mem{c:Int}{n j:Nat}(h:j<n):fnm c j∈nms c n:=aH.mpr ⟨j,dX.mpr h,rfl⟩
theorem nms_new{c:Int}{n:Nat}(h:n<600):fnm c n∉nms c n:=fun z=>by
 obtain⟨j,hj,e⟩:=aH.mp z;have hj:=dX.mp hj;have :=fnm_inj (by omega) h e;omega
noncomputable def spFr(K:aa):Sp:=fun vs H Q _=>∃(s:Addr)(ns:List Int)(c:Int)(m:Nat),vs=[.ref s,.int c,.int m]/\m<=64/\SqL K H s (ns.map V.int)/\
 ∀H' f ys F,aX H H'->H f=none->Frm H' f ys F->Tree F (nms c (max 1 (min ns.length m)))->Q (.ref f) H'
theorem ua{α β:Type}{P:α->β->Prop}:∀{a:List α}{b:List β}{a':List α}{b':List β},Paired P a b->Paired P a' b'->Paired P (a++a') (b++b')
 |_,_,_,_,.nil,h=>h
 |_,_,_,_,.cons r t,h=>.cons r (ua t h)
theorem vE{α β:Type}{P:α->β->Prop}:∀{a:List α}{b:List β}(n:Nat),Paired P a b->Paired P (a.take n) (b.take n)
 |_,_,0,_=>.nil
 |_,_,_+1,.nil=>.nil
 |_,_,n+1,.cons r t=>.cons r (vE n t)
theorem vF{α β:Type}{P:α->β->Prop}:∀{a:List α}{b:List β}(n:Nat),Paired P a b->Paired P (a.drop n) (b.drop n)
 |_,_,0,h=>h
 |_,_,_+1,.nil=>.nil
 |_,_,n+1,.cons r t=>vF n t
theorem AM{ys:List V}{z:Nat}(h:z<=ys.length):qN ys none (some (z:Int))=ys.take z:=by
 unfold qN;rw[HT.mK,HT.pP,uY h,vf,lg]
theorem AN{ys:List V}{z:Nat}(h:z<=ys.length):qN ys (some (z:Int)) none=ys.drop z:=by
 unfold qN;rw[HT.mK,HT.pP,uY h,eF (by rw[gS];omega)]
theorem fr4{G:Gam}{K:aa}{E:XS}{D:Ends}{H H1:Hp}{s f p:Addr}{c dn:Int}{ys:List V}{F:List (Nm×Nm)}{e:Nm×Nm}{y4 y7:Option V}(hp:H1 p=some (.tup [.str e.1,.str e.2]))(s1:aX H H1)(fr:Frm H1 f ys F)(l:F.length<=200)
  (hk:∀H2 f' ys' F' y7,aX H H2->H f'=none->Frm H2 f' ys' F'->F'.Perm (e::F)->D.nx [some (.ref s),some (.int c),some (.int m),some (.ref f'),y4,some (.int dn),some (.ref p),y7] H2):
  wpB G K E gP D [some (.ref s),some (.int c),some (.int m),some (.ref f),y4,some (.int dn),some (.ref p),y7] H1:=by
 have hl:=fr.len;unfold gP;walk_at "wp";refine⟨⟨by decide,by decide⟩,.inl ⟨f,_,rfl,.inl (SqL.of fr.hf),?_⟩⟩;walk_at "wp";refine⟨by omega,?_⟩;have h0:=cS (dn/2) (show(ys.length:Int)+1≠0 by omega);have h1:=f9 (dn/2) (show(0:Int)<(ys.length:Int)+1 by omega);obtain⟨m,hm⟩:=zN h0;rw[hm]at h1⊢;unfold jT;walk_at "wp";refine .inl ⟨f,ys,rfl,SqL.of fr.hf,fun p1 n1=>⟨(by show 1<=sizeLine;decide),fun p2 n2=>?_⟩⟩;rw[AM (by omega)]at n2⊢;have s2:=(aB (o:=.lst (ys.take m)) n1).trans (aB (o:=.lst [.ref p]) n2);have lt:(ys.take m).length<=ys.length:=by rw[bb];omega
 have ld:(ys.drop m).length<=ys.length:=by rw[gS];omega
 refine .inr (.inr (.inl ⟨p1,p2,_,_,rfl,rfl,aB n2 _ _ av,av,ix (by show _+1<=_;omega),fun p3 n3=>?_⟩));have s3:=s2.trans (aB (o:=.lst (ys.take m++[.ref p])) n3);refine .inl ⟨f,ys,rfl,SqL.of (s3 _ _ fr.hf),fun p4 n4=>?_⟩;rw[AN (by omega)];have s4:=s3.trans (aB (o:=.lst (ys.drop m)) n4);refine .inr (.inr (.inl ⟨p3,p4,_,_,rfl,rfl,aB n4 _ _ av,av,ix (by rw[aG];show _+1+_<=_;omega),fun p5 n5=>?_⟩));have s5:=s4.trans (aB (o:=.lst (ys.take m++[.ref p]++ys.drop m)) n5);refine hk _ p5 _ (F.take m++[e]++F.drop m) _ (s1.trans s5) ((s1.trans s4).free n5) ⟨av,?_⟩ ?_
 ·exact ua (ua (vE m (fr.same s5).br) (.cons ⟨p,rfl,s5 _ _ hp⟩ .nil)) (vF m (fr.same s5).br)
 ·rw[df]
  refine List.perm_middle.trans ?_;show(e::(F.take m++F.drop m)).Perm (e::F);rw[gQ]
theorem wp_fr{G:Gam}{K:aa}(g1:G.fn "_law_drawn" 2=some (spDr K,[]))(g2:G.fn "_law_name" 2=some (spNm,[]))(g3:G.fn "_law_above" 3=some (spAb,[])):Sat G K (spFr K) o5 oF:=by
 rintro vs H Q E ⟨s,ns,c,m,rfl,hm,hs,q⟩;unfold o5;change wpB G K _ _ _ [some (.ref s),some (.int c),some (.int m),none,none,none,none,none] H;walk_at "wp";refine⟨aM _,fun f0 n0=>?_⟩;unfold lP;walk_at "wp";refine gO ?_;walk_at "wp";have em:(if(m:Int)<(ns.map V.int).length then(m:Int)else((ns.map V.int).length:Int))=((min ns.length m:Nat):Int):=by
  rw[ag];split <;>omega
 refine .inl ⟨s,_,rfl,.inl (aX.seq (aB n0) hs),_,_,rfl,?_⟩;rw[em];refine⟨1,_,rfl,by omega,?_⟩;have et:(((min ns.length m:Nat):Int)-1).toNat=min ns.length m-1:=by omega
 rw[et];refine fh nR (fun i σ H'=>aX H H'/\∃f ys F y4 y5 y6 y7,σ=[some (.ref s),some (.int c),some (.int m),some (.ref f),y4,y5,y6,y7]/\H f=none/\Frm H' f ys F/\Tree F (nms c (i+1)))
  ⟨aB n0,f0,[],[],_,_,_,_,rfl,n0,⟨av,.nil⟩,⟨by simp[nms],(fun e he=>nomatch he),rfl,fun S _ a ha b hb=>?_⟩⟩ (fun _ _ _ _ _=>trivial) ?_ ?_
 ·have h1:a=fnm c ((0:Nat):Int):=aq.mp ha
  have h2:b=fnm c ((0:Nat):Int):=aq.mp hb;rw[h1,h2];exact id
 ·rintro i x σ H1 H2 D2 hi ⟨s1,f,ys,F,y4,y5,y6,y7,rfl,nf,fr,t⟩ rfl s2 hD _
  have ek:(1:Int)+(i:Int)=((i+1:Nat):Int):=by omega
  rw[ek];walk_at "wp";refine⟨_,_,g1,s,ns,i+1,rfl,(s1.trans s2).seq hs,by omega,by omega,fun dn=>?_⟩;unfold jV;walk_at "wp";refine⟨_,_,g2,c,_,rfl,fun H3 s3=>⟨_,_,g2,_,_,g3,⟨by decide,by decide⟩,_,c,i+1,rfl,by omega,by omega,fun j hj=>⟨c,j,rfl,fun H4 s4=>⟨(by show 2<=sizeLine;decide),fun p hp=>?_⟩⟩⟩⟩;have s5:=(s1.trans s2).trans ((s3.trans s4).trans (aB (o:=.tup [.str (fnm c ((i+1:Nat):Int)),.str (fnm c j)]) hp));have fr5:=fr.same (s2.trans ((s3.trans s4).trans (aB (o:=.tup [.str (fnm c ((i+1:Nat):Int)),.str (fnm c j)]) hp)));have new:=nms_new (c:=c) (n:=i+1) (by omega);have old:=nms_mem (c:=c) hj;have hk2:∀{e:Nm×Nm}{p':Addr},(e=(fnm c ((i+1:Nat):Int),fnm c j)\/e=(fnm c j,fnm c ((i+1:Nat):Int)))->∀H6 f' ys' F' y7,aX H H6->H f'=none->Frm H6 f' ys' F'->F'.Perm (e::F)->D2.nx [some (.ref s),some (.int c),some (.int m),some (.ref f'),some (.int ((i+1:Nat):Int)),some (.int dn),some (.ref p'),y7] H6:=fun he H6 f' ys' F' y7 s6 n6 fr6 pm=>hD _ _ ⟨s6,f',ys',F',_,_,_,_,rfl,n6,fr6,Dy c (i+1)▸t.put new old he pm⟩;have hl:=t.len;have hl2:(nms c (i+1)).length=i+1:=by unfold nms;rw[ag,dG]
  unfold jU;walk_at "wp";refine⟨by decide,?_⟩;split
  ·refine .inr (.inl ⟨p,_,1,_,rfl,rfl,SqT.of av,rfl,.inr (.inl ⟨p,_,0,_,rfl,rfl,SqT.of av,rfl,(by show 2<=sizeLine;decide),fun p2 n2=>?_⟩)⟩)
   exact fr4 (e:=(fnm c j,fnm c ((i+1:Nat):Int))) av (s5.trans (aB n2)) (fr5.same (aB n2)) (by omega) (hk2 (.inr rfl))
  ·exact fr4 (e:=(fnm c ((i+1:Nat):Int),fnm c j)) av s5 fr5 (by omega) (hk2 (.inl rfl))
 ·rintro σ H1 ⟨s1,f,ys,F,y4,y5,y6,y7,rfl,nf,fr,t⟩
  rw[show min ns.length m-1+1=max 1 (min ns.length m) by omega]at t;unfold lO;walk_at "wp";exact q H1 f ys F s1 nf fr t
noncomputable def spNs(K:aa):Sp:=fun vs H Q _=>∃(s:Addr)(ns:List Int)(c:Int)(m:Nat),vs=[.ref s,.int c,.int m]/\m<=64/\SqL K H s (ns.map V.int)/\
 ∀H' l,aX H H'->H l=none->H' l=some (.lst ((nms c (max 1 (min ns.length m))).map V.str))->Q (.ref l) H'
theorem wp_ns{G:Gam}{K:aa}(g2:G.fn "_law_name" 2=some (spNm,[])):Sat G K (spNs K) o4 oE:=by
 rintro vs H Q E ⟨s,ns,c,m,rfl,hm,hs,q⟩;unfold o4;change wpB G K _ _ _ [some (.ref s),some (.int c),some (.int m)] H;walk_at "wp";refine gU ?_;walk_at "wp";have em:(if(m:Int)<(ns.map V.int).length then(m:Int)else((ns.map V.int).length:Int))=((min ns.length m:Nat):Int):=by
  rw[ag];split <;>omega
 refine .inl ⟨s,_,rfl,.inl hs,_,_,rfl,?_⟩;rw[em];refine⟨_,_,rfl,((max 1 (min ns.length m):Nat):Int),?_,by omega,by omega,?_⟩
 ·congr 2
  split <;>omega
 rw[dh];refine jm nR (ix (by omega)) (fun _ _=>trivial) (fun i v _=>v=V.str ((nms c (max 1 (min ns.length m))).getD i "")) (fun _ _ _ _ _ h=>h) (fun τ=>∃t,τ=[t,some (.int c)]) ⟨none,rfl⟩ ?_ ?_
 ·rintro i x τ H3 R hi ⟨t,rfl⟩ s3 rfl k
  refine⟨_,_,g2,_,rfl,_,rfl,c,_,rfl,fun H4 s4=>k _ _ _ ⟨_,rfl⟩ s4 ?_⟩;unfold nms;rw[aJ,aZ,EG hi,Int.zero_add];rfl
 ·intro vs H2 l hvl hF s2 hl2
  rw[sq (by rw[hvl];unfold nms;rw[ag,dG]) hF];exact q _ l (s2.trans (aB hl2)) (s2.free hl2) av
end F5
namespace F5
open PySem R
noncomputable def vM:List Str:=["_law_frame_here","_law_names_here"]
noncomputable def oH:List Str:=["_law_frame_here","_law_names_here"]
noncomputable def lS:CB:=
  (.cons (.ret (.con .none))
  .nil)
noncomputable def o7:CB:=
  (.cons (.iff (.cmp .Eq (.var 0) (.lst .nil))
  (.cons (.ret (.idx (.var 1) (.con (.int 0))))
  .nil)
  .nil)
  lS)
noncomputable def xJ:List Str:=["_law_script","_law_names_here","_law_form"]
noncomputable def qu:List Str:=["_law_script","_law_names_here","_law_form","_law_marked","_law_k","_law_number","_law_way"]
noncomputable def m7:CB:=
  (.cons (.ret (.var 3))
  .nil)
noncomputable def kI:CB:=
  (.cons (.iff (.cmp .Lt (.var 6) (.con (.int 2)))
  (.cons (.putk (.var 3) (.idx (.var 1) (.var 4)) (.var 6))
  .nil)
  .nil)
  .nil)
noncomputable def fP:CB:=
  (.cons (.asg (.name 6) (.bin .Mod (.var 5) (.idx (.lst (.cons (.con (.int 3)) (.cons (.con (.int 5)) (.cons (.con (.int 12)) (.cons (.con (.int 2)) .nil))))) (.bin .Mod (.bin .FloorDiv (.var 2) (.con (.int 16))) (.con (.int 4))))))
  kI)
noncomputable def iB:CB:=
  (.cons (.iff (.and (.cmp .Eq (.bin .Mod (.bin .FloorDiv (.var 2) (.con (.int 64))) (.con (.int 2))) (.con (.int 1))) (.cmp .Gt (.idx (.var 0) (.var 4)) (.bin .Pow (.con (.int 10)) (.con (.int 32)))))
  (.cons (.asg (.name 5) (.divb (.idx (.var 0) (.var 4)) (.bin .Pow (.con (.int 10)) (.con (.int 30)))))
  .nil)
  .nil)
  fP)
noncomputable def m8:CB:=
  (.cons (.forr (.name 4) (.range1 (.bfn .len (.cons (.var 1) .nil)))
  (.cons (.asg (.name 5) (.bin .Mod (.bin .Mult (.ite (.cmp .NotEq (.var 0) (.lst .nil)) (.call "_law_drawn" (.cons (.var 0) (.cons (.var 4) .nil))) (.con (.int 5))) (.con (.int 69621))) (.con (.int 2147483647))))
  iB))
  m7)
noncomputable def qX:CB:=
  (.cons (.asg (.name 3) (.dic .nil))
  m8)
noncomputable def rR:List Str:=["_law_frame_here","_law_told"]
noncomputable def lB:List Str:=["_law_frame_here","_law_told"]
noncomputable def lQ:CB:=
  (.cons (.ret (.bfn .len (.cons (.comp ["_law_branch"] [1] (.name 0) (.seq (.var 0)) (.yes (.cmp .NotEq (.x2 .idxk (.var 1) (.idx (.var 0) (.con (.int 0)))) (.x2 .idxk (.var 1) (.idx (.var 0) (.con (.int 1)))))) (.var 0)) .nil)))
  .nil)
end F5
namespace F5
open PySem PySem.Spec PyProof.Rows L2 R Cp Kc Lt
noncomputable def bD(e:Nm×Nm):D:=.tup [.str e.1,.str e.2]
theorem pR{K:aa}{H:Hp}:∀{ys:List V}{F:List (Nm×Nm)},Paired (Br H) ys F->fR K H (F.map bD) ys
 |_,_,.nil=>rfl
 |_,_,.cons ⟨p,e,h⟩ t=>⟨_,_,rfl,⟨p,_,e,SqT.of h,_,_,rfl,rfl,_,_,rfl,rfl,rfl⟩,pR t⟩
theorem ya:∀F:List (Nm×Nm),gB (F.map bD)<=1
 | []=>aM _
 |e::F=>by
  have :=ya F
  show max (hgt (bD e)) (gB (F.map bD))<=1;have h1:hgt (bD e)=1:=rfl;omega
noncomputable def spAl:Sp:=fun vs H Q _=>∃(f n:Addr)(ys:List V)(F:List (Nm×Nm))(v:Nm)(ws:List Nm),vs=[.ref f,.ref n]/\Frm H f ys F/\H n=some (.lst ((v::ws).map V.str))/\
 (F=[]->∀H',aX H H'->Q (.str v) H')/\(F≠[]->∀H',aX H H'->Q .non H')
theorem wp_al{G:Gam}{K:aa}:Sat G K spAl o7 oH:=by
 rintro vs H Q E ⟨f,n,ys,F,v,ws,rfl,fr,hn,q1,q2⟩;unfold o7;change wpB G K _ _ _ [some (.ref f),some (.ref n)] H;walk_at "wp";refine⟨aM _,fun p hp=>?_⟩;have s1:aX H (upd H p (.lst [])):=aB hp;have hh:=ya F;refine⟨.lst (F.map bD),.lst [],⟨f,_,rfl,SqL.of (s1 _ _ fr.hf),pR (fr.same s1).br⟩,⟨p,_,rfl,SqL.of av,rfl⟩,by show gB (F.map bD)+1<=30;omega,_,rfl,?_⟩;cases F with
 |nil=>
  rw[if_pos (show eqD (.lst (([]:List (Nm×Nm)).map bD)) (.lst [])=true from rfl)];exact .inl ⟨n,_,0,.str v,rfl,rfl,SqL.of (s1 _ _ hn),(gV (j:=0) (kd ..):atI ((v::ws).map V.str) ((0:Nat):Int)=_),q1 rfl _ s1⟩
 |cons e F=>
  rw[if_neg (by show ¬kA (bD e::F.map bD) []=true;exact fun z=>nomatch z)];unfold lS;walk_at "wp";exact q2 (fun z=>nomatch z) _ s1
theorem DU(ns:List Int):hgt (.lst (ns.map .int))<=1:=by
 show gB (ns.map .int)+1<=1;have :gB (ns.map .int)=0:=by
  induction ns with
  |nil=>rfl
  |cons a l ih=>
   show max (hgt (.int a)) (gB (l.map .int))=0;rw[ih];rfl
 omega
noncomputable def spRd(K:aa):Sp:=fun vs H Q _=>∃(s n:Addr)(ns:List Int)(ws:List Nm)(m:Nat),vs=[.ref s,.ref n,.int (ns.getD 0 0)]/\SqL K H s (ns.map V.int)/\H n=some (.lst (ws.map V.str))/\ws.Nodup/\ws.length=max 1 (min ns.length m)/\1<=m/\m<=64/\
 ∀H' r ms,aX H H'->H r=none->H' r=some (.dK (kvS (mV ms)))->(∀q∈ms,q.1∈ws/\(q.2=0\/q.2=1))->(ms.map (·.1)).Nodup->Q (.ref r) H'
theorem rd4{G:Gam}{K:aa}{E:XS}{D:Ends}{H H1:Hp}{s n r:Addr}{c d:Int}{ws:List Nm}{k:Nat}{ms:List (Nm×Int)}{y6:Option V}(hn:H n=some (.lst (ws.map V.str)))(hk:k<ws.length)(nd:ws.Nodup)(l:ws.length<=100)(s1:aX H H1)(nr:H r=none)(hr:H1 r=some (.dK (kvS (mV ms))))(h1:∀q∈ms,q.1∈ws.take k/\(q.2=0\/q.2=1))(h2:(ms.map (·.1)).Nodup)
  (hD:∀H2 ms y6,aX H H2->H2 r=some (.dK (kvS (mV ms)))->(∀q∈ms,q.1∈ws.take (k+1)/\(q.2=0\/q.2=1))->(ms.map (·.1)).Nodup->D.nx [some (.ref s),some (.ref n),some (.int c),some (.ref r),some (.int k),some (.int d),y6] H2):
  wpB G K E fP D [some (.ref s),some (.ref n),some (.int c),some (.ref r),some (.int k),some (.int d),y6] H1:=by
 unfold fP;walk_at "wp";refine⟨(by show 4<=sizeLine;decide),fun p hp=>⟨⟨by decide,by decide⟩,by decide,?_⟩⟩;have s2:aX H1 (upd H1 p (.lst [.int 3,.int 5,.int 12,.int 2])):=aB hp;have ex:∃m:Int,atI [V.int 3,.int 5,.int 12,.int 2] (c/16%4)=some (.int m)/\0<m:=by
  have h0:0<=c/16%4:=cS _ (by decide);have h1:c/16%4<4:=f9 _ (by decide);have h:c/16%4=0\/c/16%4=1\/c/16%4=2\/c/16%4=3:=by omega
  rcases h with h|h|h|h
  ·rw[h];exact⟨3,rfl,by decide⟩
  ·rw[h];exact⟨5,rfl,by decide⟩
  ·rw[h];exact⟨12,rfl,by decide⟩
  ·rw[h];exact⟨2,rfl,by decide⟩
 obtain⟨m,hm,m0⟩:=ex;refine .inl ⟨p,_,_,_,rfl,rfl,SqL.of av,hm,qz.mpr ⟨m0,?_⟩⟩;have w0:0<=d%m:=cS _ (by omega);generalize d%m=w at w0;have s3:=s1.trans s2;have hr2:=s2 _ _ hr;generalize upd H1 p (.lst [.int 3,.int 5,.int 12,.int 2])=H2 at s3 hr2;have up:∀{v:Nm},v∈ws.take k->v∈ws.take (k+1):=fun h=>by rw[bM];exact aw.mpr (.inl h)
 have new:ws[k]∉ms.map (·.1):=fun z=>by
  obtain⟨q,hq,e⟩:=aH.mp z;have :=(h1 q hq).1;rw[e]at this;obtain⟨j,hj,ej⟩:=aT.mp this;rw[bb]at hj;rw[gy]at ej;have :=(cc nd).mp ej;omega
 have lm:ms.length<=100:=by
  have :=hJ h2 (m:=ws) fun v hv=>by obtain⟨q,hq,rfl⟩:=aH.mp hv;exact mC (h1 q hq).1
  rw[ag]at this;omega
 unfold kI;walk_at "wp";by_cases c2:w<2
 ·rw[if_pos (decide_eq_true c2)]
  have hdp:=dput (v:=ws[k]) (x:=.int w) hr2 (by unfold mV;rw[ag];omega) (by rw[uy];exact new);rw[yY]at hdp;refine .inl ⟨n,_,_,_,rfl,rfl,SqL.of (s3 _ _ hn),gV (by rw[aZ,ai hk];rfl),r,_,rfl,hdp,?_⟩;refine hD _ _ _ (cg s3 nr) av (fun q hq=>?_) ?_
  ·rcases aw.mp hq with hq|hq
   ·exact⟨up (h1 q hq).1,(h1 q hq).2⟩
   ·cases aq.mp hq
    refine⟨?_,show w=0\/w=1 by omega⟩;rw[bM,ai hk];exact aw.mpr (.inr au)
  ·rw[aD,cf]
   refine⟨h2,by simp,fun a ha b hb z=>?_⟩;cases aq.mp hb;have z:a=ws[k]:=z;exact new (z▸ha)
 ·rw[if_neg (by simpa using c2)]
  exact hD _ _ _ s3 hr2 (fun q hq=>⟨up (h1 q hq).1,(h1 q hq).2⟩) h2
theorem wp_rd{G:Gam}{K:aa}(g1:G.fn "_law_drawn" 2=some (spDr K,[])):Sat G K (spRd K) qX qu:=by
 rintro vs H Q E ⟨s,n,ns,ws,m,rfl,hs,hn,nd,lw,m1,m64,q⟩;unfold qX;change wpB G K _ _ _ [some (.ref s),some (.ref n),some (.int (ns.getD 0 0)),none,none,none,none] H;walk_at "wp";refine .inl ⟨trivial,fun r nr=>?_⟩;unfold m8;walk_at "wp";refine gO ?_;walk_at "wp";refine .inl ⟨n,_,rfl,.inl (SqL.of (aB nr _ _ hn)),?_⟩;refine⟨_,rfl,by rw[ag];omega,by rw[ag];omega,?_⟩;rw[dh,ag];refine fh nR (fun i σ H'=>aX H H'/\∃ms y4 y5 y6,σ=[some (.ref s),some (.ref n),some (.int (ns.getD 0 0)),some (.ref r),y4,y5,y6]/\H' r=some (.dK (kvS (mV ms)))/\(∀q∈ms,q.1∈ws.take i/\(q.2=0\/q.2=1))/\(ms.map (·.1)).Nodup)
  ⟨aB nr,[],_,_,_,rfl,av,(fun q hq=>nomatch hq),cA⟩ (fun _ _ _ _ _=>trivial) ?_ ?_
 ·rintro i x σ H1 H2 D2 hi ⟨s1,ms,y4,y5,y6,rfl,hr,h1,h2⟩ rfl s2 hD _
  walk_at "wp"
  rw[Int.zero_add];refine⟨aM _,fun p hp=>?_⟩;have s3:=(s1.trans s2).trans (aB (o:=.lst []) hp);have hr3:=aB (o:=.lst []) hp _ _ (s2 _ _ hr);have fin:∀d:Int,wpB G K (fun _=>E) iB D2 [some (.ref s),some (.ref n),some (.int (ns.getD 0 0)),some (.ref r),some (.int i),some (.int d),y6] (upd H2 p (.lst [])):=by
   intro d;have last:∀d:Int,wpB G K (fun _=>E) fP D2 [some (.ref s),some (.ref n),some (.int (ns.getD 0 0)),some (.ref r),some (.int i),some (.int d),y6] (upd H2 p (.lst [])):=fun d=>rd4 hn hi nd (by omega) s3 nr hr3 h1 h2 fun H4 ms' y6 s4 hr4 h3 h4=>hD _ _ ⟨s4,ms',_,_,_,rfl,hr4,h3,h4⟩;unfold iB;walk_at "wp";refine⟨⟨by decide,by decide⟩,by decide,?_⟩;by_cases c1:ns.getD 0 0/64%2=1
   ·have hi2:i<ns.length:=by
     have :ns≠[]:=fun z=>by rw[z]at c1;exact absurd c1 (by decide)
     have :=iK.mpr this
     omega
    rw[if_pos (decide_eq_true c1)];refine .inl ⟨s,_,_,_,rfl,rfl,s3.seq hs,uL hi2,⟨by decide,by decide,by decide⟩,qK.mpr ⟨_,rfl,?_⟩⟩;split
    ·exact .inl ⟨s,_,_,_,rfl,rfl,s3.seq hs,uL hi2,⟨by decide,by decide,by decide⟩,_,_,rfl,rfl,⟨by decide+kernel,by decide+kernel⟩,last _⟩
    ·exact last d
   ·rw[if_neg (by simpa using c1),if_neg bp]
    exact last d
  refine⟨.lst (ns.map .int),.lst [],⟨s,_,rfl,s3.seq hs,fR.ints ns⟩,⟨p,_,rfl,SqL.of av,rfl⟩,?_,_,rfl,?_⟩
  ·exact aU (DU ns) (by decide)
  cases ns with
  |nil=>
   rw[if_neg (by show ¬(!eqD (.lst []) (.lst []))=true;decide)];exact⟨zr (by decide) (by decide),by decide,fin _⟩
  |cons y ns=>
   rw[if_pos (show(!eqD (.lst ((y::ns).map .int)) (.lst []))=true from rfl)];have lw':ws.length=max 1 (min (ns.length+1) m):=lw;refine⟨_,_,g1,s,y::ns,i,rfl,s3.seq hs,(by rw[bj];omega),by omega,fun d=>DA.mpr ⟨zr (by decide) (by decide),qz.mpr ⟨by decide,fin _⟩⟩⟩
 ·rintro σ H1 ⟨s1,ms,y4,y5,y6,rfl,hr,h1,h2⟩
  rw[bY]at h1;unfold m7;walk_at "wp";exact q H1 r ms s1 nr hr h1 h2
structure Tld(ws:List Nm)(ms Ts:List (Nm×Int)):Prop where
 ks:Ts.map (·.1)=ws
 v01:∀q∈Ts,q.2=0\/q.2=1
 ext:∀q∈ms,q∈Ts
theorem Tld.get{ws:List Nm}{ms Ts:List (Nm×Int)}(t:Tld ws ms Ts)(nd:ws.Nodup){v:Nm}(hv:v∈ws){H:Hp}{a:Addr}(h:H a=some (.dK (kvS (mV Ts)))):∃x:Int,(x=0\/x=1)/\j7 H a (.str v) (some (.int x))/\tl Ts v=x:=by
 rw[<-t.ks]at hv;obtain⟨⟨u,x⟩,hu,e⟩:=aH.mp hv;have e:u=v:=e;subst e;have nT:(Ts.map (·.1)).Nodup:=t.ks.symm▸nd;exact⟨x,t.v01 _ hu,xT nT hu▸uC u (.inl h),so nT hu⟩
theorem din{H:Hp}{a:Addr}{ms:List (Nm×Int)}{v:Nm}(h:H a=some (.dK (kvS (mV ms)))):j7 H a (.str v) ((rdO ms v).map V.int):=vY v ms▸uC v (.inl h)
noncomputable def chg(H:Hp)(Ts:List (Nm×Int))(y:V):Bool:=match itm H y 0,itm H y 1 with
 |.str a,.str b=>decide (tl Ts a≠tl Ts b)
 |_,_=>false
theorem Eh{H:Hp}{Ts:List (Nm×Int)}{p:Addr}{a b:Nm}(h:H p=some (.tup [.str a,.str b])):chg H Ts (.ref p)=decide (tl Ts a≠tl Ts b):=by
 unfold chg;rw[md h,md h];rfl
theorem zt{H:Hp}{Ts:List (Nm×Int)}:∀{ys:List V}{F:List (Nm×Nm)},Paired (Br H) ys F->(ys.filter fun y=>chg H Ts y).length=ch (tl Ts) F
 |_,_,.nil=>rfl
 |y::ys,e::F,.cons ⟨p,h1,h2⟩ t=>by
  have ih:=zt (Ts:=Ts) t;subst h1;unfold ch at ih⊢;rw[cu,Eh h2,rK];by_cases c:tl Ts e.1≠tl Ts e.2
  ·rw[if_pos (decide_eq_true c),if_pos (decide_eq_true c),bj,ih]
  ·rw[if_neg (by simpa using c),if_neg (by simpa using c),ih]
   rfl
noncomputable def spCh:Sp:=fun vs H Q _=>∃(f t:Addr)(ys:List V)(F:List (Nm×Nm))(ws:List Nm)(ms Ts:List (Nm×Int)),vs=[.ref f,.ref t]/\Frm H f ys F/\H t=some (.dK (kvS (mV Ts)))/\Tld ws ms Ts/\ws.Nodup/\(∀e∈F,e.1∈ws/\e.2∈ws)/\F.length<=100/\
 ∀H',aX H H'->Q (.int (ch (tl Ts) F)) H'
theorem wp_ch{G:Gam}{K:aa}:Sat G K spCh lQ lB:=by
 rintro vs H Q E ⟨f,t,ys,F,ws,ms,Ts,rfl,fr,ht,T,nd,sub,l,q⟩;unfold lQ;change wpB G K _ _ _ [some (.ref f),some (.ref t)] H;have hl:=fr.len;walk_at "wp";refine gU (dA rfl (SqL.of fr.hf) (sY eM (ix (by omega)) (fun H4 s6=>SqL.of (s6 _ _ fr.hf)) (fun y=>chg H Ts y) (fun y=>y) (fun τ=>∃u,τ=[u,some (.ref t)]) ⟨none,rfl⟩ ?_ ?_))
 ·rintro x τ H3 Rt Rf hx ⟨u,rfl⟩ s3 kt kf
  obtain⟨i,hi,ei⟩:=aT.mp hx;obtain⟨a,b,p,hF,rfl,hp⟩:=fr.at_ (ai hi▸congrArg some ei);obtain⟨ma,mb⟩:=(show a∈ws/\b∈ws from sub _ (aS hF));obtain⟨xa,_,ga,ea⟩:=T.get nd ma (s3 _ _ ht);obtain⟨xb,_,gb,eb⟩:=T.get nd mb (s3 _ _ ht);rw[Eh hp,ea,eb]at kt kf;walk_at "wp";refine .inr (.inl ⟨p,_,0,_,rfl,rfl,SqT.of (s3 _ _ hp),rfl,t,_,rfl,ga,.inr (.inl ⟨p,_,1,_,rfl,rfl,SqT.of (s3 _ _ hp),rfl,t,_,rfl,gb,oA.mpr ⟨_,rfl,?_⟩⟩)⟩);by_cases c:xa=xb
  ·rw[if_neg (by rw[decide_eq_true c];decide)]
   exact kf _ _ ⟨_,rfl⟩ (aX.refl _) (decide_eq_false fun z=>z c)
  ·rw[if_pos (by rw[decide_eq_false c];rfl)]
   exact kt _ _ ⟨_,rfl⟩ (aX.refl _) (decide_eq_true c)
 ·intro H2 l s2 hl2
  refine .inl ⟨l,_,rfl,.inl (SqL.of av),?_⟩;rw[List.map_id',zt fr.br];exact q _ (s2.trans (aB hl2))
end F5
namespace F5
open PySem
structure Pn where
 to:Nm
 x:Int
 ns:List Nm
structure Wy where
 z:List Nm
 n:Nm
 o:List Nm
noncomputable def Wy.names(w:Wy):List Nm:=w.z++[w.n]++w.o.reverse
structure C2 where
 P:List Pn
 W:List Wy
noncomputable def beg(P:List Pn)(n:Nm)(r:Int):List (List Nm):=(P.filter fun h=>decide (h.to=n)&&decide (h.x=r)).map (·.ns)
noncomputable def zo2(r:Option Int)(zs os:List (List Nm)):List (List Nm)×List (List Nm):=if r=some 0 then(aO (os.length+1) [],os)else if r=some 1 then(zs,aO (zs.length+1) [])else(zs,os)
noncomputable def gR(n:Nm)(zs os:List (List Nm)):List Wy:=List.zipWith (fun z o=>⟨z,n,o⟩) zs os
noncomputable def cM(n:Nm)(zs os:List (List Nm)):Option (Int×List Nm):=if os.length<zs.length then some (0,zs.getD os.length []++[n])else if zs.length<os.length then some (1,os.getD zs.length []++[n])else none
noncomputable def C2.zo(rd:Nm->Option Int)(S:C2)(n:Nm):=zo2 (rd n) (beg S.P n 0) (beg S.P n 1)
noncomputable def jx(h:Option (Int×List Nm))(p:Option Nm):List Pn:=match h,p with
 |some h,some q=>[⟨q,h.1,h.2⟩]
 |_,_=>[]
noncomputable def C2.step(rd:Nm->Option Int)(S:C2)(e:Nm×Option Nm):C2:=
 ⟨(S.P.filter fun h=>decide (h.to≠e.1))++jx (cM e.1 (S.zo rd e.1).1 (S.zo rd e.1).2) e.2,S.W++gR e.1 (S.zo rd e.1).1 (S.zo rd e.1).2⟩
noncomputable def cl(v:Nm)(ls:List (List Nm)):Nat:=(ls.map fun l=>l.count v).sum
noncomputable def cw(v:Nm)(W:List Wy):Nat:=(W.map fun w=>w.z.count v+w.o.count v).sum
theorem cl_app(v:Nm)(a b:List (List Nm)):cl v (a++b)=cl v a+cl v b:=by unfold cl;rw[aD,List.sum_append]
theorem cw_app(v:Nm)(a b:List Wy):cw v (a++b)=cw v a+cw v b:=by unfold cw;rw[aD,List.sum_append]
theorem zq(v n:Nm):∀(zs os:List (List Nm)),cw v (gR n zs os)+(if os.length<zs.length then(zs.getD os.length []).count v else if zs.length<os.length then(os.getD zs.length []).count v else 0)<=cl v zs+cl v os
 | [],[]=>ar _
 | [],o::os=>by
  show 0+o.count v<=0+(o.count v+cl v os);omega
 |z::zs,[]=>by
  show 0+z.count v<=(z.count v+cl v zs)+0;omega
 |z::zs,o::os=>by
  have ih:=zq v n zs os;show(z.count v+o.count v+cw v (gR n zs os))+(if os.length+1<zs.length+1 then(zs.getD os.length []).count v else if zs.length+1<os.length+1 then(os.getD zs.length []).count v else 0)<=(z.count v+cl v zs)+(o.count v+cl v os);simp only[Nat.add_lt_add_iff_right];omega
theorem Ef(v:Nm)(h:Pn)(b:Bool)(l:List Pn):cl v ((if b=true then h::l else l).map (·.ns))=(if b=true then h.ns.count v else 0)+cl v (l.map (·.ns)):=by
 cases b with
 |true=>rfl
 |false=>exact(Nat.zero_add _).symm
theorem Du{a b c:Bool}{x:Nat}(h1:a=true->b=false)(h2:a=true->c=false)(h3:b=true->c=false):(if a=true then x else 0)+(if b=true then x else 0)+(if c=true then x else 0)<=x:=by
 cases a<;>cases b<;>cases c<;>simp_all
theorem Eg(v n:Nm):∀P:List Pn,cl v (beg P n 0)+cl v (beg P n 1)+cl v ((P.filter fun h=>decide (h.to≠n)).map (·.ns))<=cl v (P.map (·.ns))
 | []=>ar _
 |h::P=>by
  have ih:=Eg v n P;unfold beg at ih⊢;rw[cu,cu,cu,Ef,Ef,Ef];have e:cl v ((h::P).map (·.ns))=h.ns.count v+cl v (P.map (·.ns)):=rfl;have :=Du (x:=h.ns.count v) (a:=decide (h.to=n)&&decide (h.x=0)) (b:=decide (h.to=n)&&decide (h.x=1)) (c:=decide (h.to≠n)) (fun z=>by
   rw[aP,decide_eq_true_eq,decide_eq_true_eq]at z;rw[z.2,show decide ((0:Int)=1)=false from rfl,eZ]) (fun z=>by
   rw[aP,decide_eq_true_eq]at z;exact decide_eq_false fun y=>y z.1) (fun z=>by
   rw[aP,decide_eq_true_eq]at z;exact decide_eq_false fun y=>y z.1)
  omega
theorem yl(v:Nm):∀k,cl v (aO k [])=0
 | 0=>rfl
 |k+1=>by show 0+cl v (aO k [])=0;rw[yl v k]
theorem cl_zo(v:Nm)(r:Option Int)(zs os:List (List Nm)):cl v (zo2 r zs os).1+cl v (zo2 r zs os).2<=cl v zs+cl v os:=by
 unfold zo2;split
 ·show cl v (aO (os.length+1) [])+cl v os<=_
  rw[yl];omega
 ·split
  ·show cl v zs+cl v (aO (zs.length+1) [])<=_
   rw[yl];omega
  ·exact ar _
theorem B5{rd:Nm->Option Int}{S:C2}{e:Nm×Option Nm}(v:Nm):cl v ((S.step rd e).P.map (·.ns))+cw v (S.step rd e).W<=cl v (S.P.map (·.ns))+cw v S.W+(if v=e.1 then 1 else 0):=by
 have h1:=Eg v e.1 S.P;have h2:=cl_zo v (rd e.1) (beg S.P e.1 0) (beg S.P e.1 1);have h3:=zq v e.1 (S.zo rd e.1).1 (S.zo rd e.1).2;have h4:cl v (S.zo rd e.1).1+cl v (S.zo rd e.1).2<=cl v (beg S.P e.1 0)+cl v (beg S.P e.1 1):=h2;have one:([e.1]:List Nm).count v=if v=e.1 then 1 else 0:=by
  by_cases c:v=e.1
  ·rw[if_pos c,c];exact List.count_singleton_self
  ·rw[if_neg c];exact List.count_eq_zero.mpr fun z=>c (aq.mp z)
 have tail:∀(zs os:List (List Nm)),cl v ((jx (cM e.1 zs os) e.2).map (·.ns))<=(if os.length<zs.length then(zs.getD os.length []).count v else if zs.length<os.length then(os.getD zs.length []).count v else 0)+(if v=e.1 then 1 else 0):=by
  intro zs os;unfold cM;by_cases c:os.length<zs.length
  ·rw[if_pos c,if_pos c]
   cases e.2 with
   |none=>exact aM _
   |some q=>
    show(zs.getD os.length []++[e.1]).count v+0<=_;rw[jM,one];omega
  ·rw[if_neg c,if_neg c]
   by_cases c2:zs.length<os.length
   ·rw[if_pos c2,if_pos c2]
    cases e.2 with
    |none=>exact aM _
    |some q=>
     show(os.getD zs.length []++[e.1]).count v+0<=_;rw[jM,one];omega
   ·rw[if_neg c2,if_neg c2]
    exact aM _
 have h5:=tail (S.zo rd e.1).1 (S.zo rd e.1).2;have e1:cl v ((S.step rd e).P.map (·.ns))=cl v ((S.P.filter fun h=>decide (h.to≠e.1)).map (·.ns))+cl v ((jx (cM e.1 (S.zo rd e.1).1 (S.zo rd e.1).2) e.2).map (·.ns)):=by
  rw[<-cl_app,<-aD];rfl
 have e2:cw v (S.step rd e).W=cw v S.W+cw v (gR e.1 (S.zo rd e.1).1 (S.zo rd e.1).2):=cw_app ..;rw[e1,e2];omega
noncomputable def Up(ah:Nm->Option Nm):List Nm->Nm->Prop
 | [],_=>True
 | [v],q=>ah v=some q
 |u::v::r,q=>ah u=some v/\Up ah (v::r) q
theorem Up.snoc{ah:Nm->Option Nm}{n q:Nm}(h:ah n=some q):∀{l:List Nm},Up ah l n->Up ah (l++[n]) q
 | [],_=>h
 | [v],u=>⟨u,h⟩
 |u::v::r,⟨h1,h2⟩=>⟨h1,Up.snoc (l:=v::r) h h2⟩
theorem AI(l:List Nm)(n q:Nm):(l++[n]).headD q=l.headD n:=by cases l<;>rfl
structure HOk(ah:Nm->Option Nm)(rd:Nm->Option Int)(x:Int)(l:List Nm)(n:Nm):Prop where
 up:Up ah l n
 hd:rd (l.headD n)=some x
structure WOk(ah:Nm->Option Nm)(rd:Nm->Option Int)(S:C2):Prop where
 p:∀h∈S.P,HOk ah rd h.x h.ns h.to
 w:∀w∈S.W,HOk ah rd 0 w.z w.n/\HOk ah rd 1 w.o w.n
theorem Ek{ah:Nm->Option Nm}{rd:Nm->Option Int}{S:C2}(k:WOk ah rd S)(n:Nm)(r:Int):∀l∈beg S.P n r,HOk ah rd r l n:=fun l hl=>by
 obtain⟨h,hh,rfl⟩:=aH.mp hl;obtain⟨h1,h2⟩:=eK.mp hh;rw[aP,decide_eq_true_eq,decide_eq_true_eq]at h2;have :=k.p h h1;rw[h2.1,h2.2]at this;exact this
theorem zo_ok{ah:Nm->Option Nm}{rd:Nm->Option Int}{n:Nm}{zs os:List (List Nm)}(hz:∀l∈zs,HOk ah rd 0 l n)(ho:∀l∈os,HOk ah rd 1 l n):(∀l∈(zo2 (rd n) zs os).1,HOk ah rd 0 l n)/\∀l∈(zo2 (rd n) zs os).2,HOk ah rd 1 l n:=by
 unfold zo2;by_cases c:rd n=some 0
 ·rw[if_pos c]
  exact⟨fun l hl=>by rw[jY hl];exact⟨trivial,c⟩,ho⟩
 ·rw[if_neg c]
  by_cases c1:rd n=some 1
  ·rw[if_pos c1]
   exact⟨hz,fun l hl=>by rw[jY hl];exact⟨trivial,c1⟩⟩
  ·rw[if_neg c1]
   exact⟨hz,ho⟩
theorem By{ah:Nm->Option Nm}{rd:Nm->Option Int}{n:Nm}:∀{zs os:List (List Nm)},(∀l∈zs,HOk ah rd 0 l n)->(∀l∈os,HOk ah rd 1 l n)->∀w∈gR n zs os,HOk ah rd 0 w.z w.n/\HOk ah rd 1 w.o w.n
 | [],_,_,_,w,hw=>by cases hw
 |_::_,[],_,_,w,hw=>by cases hw
 |z::zs,o::os,hz,ho,w,hw=>by
  rcases aK.mp (show w∈(⟨z,n,o⟩:Wy)::gR n zs os from hw)with rfl|hw
  ·exact⟨hz z au,ho o au⟩
  ·exact By (fun l hl=>hz l (aF _ hl)) (fun l hl=>ho l (aF _ hl)) w hw
theorem getD_mem{α:Type}{l:List α}{k:Nat}{d:α}(h:k<l.length):l.getD k d∈l:=by
 rw[aJ,ai h];exact du h
theorem WOk.step{ah:Nm->Option Nm}{rd:Nm->Option Int}{S:C2}(k:WOk ah rd S){e:Nm×Option Nm}(he:ah e.1=e.2):WOk ah rd (S.step rd e):=by
 obtain⟨hz,ho⟩:=zo_ok (Ek k e.1 0) (Ek k e.1 1);refine⟨fun h hh=>?_,fun w hw=>?_⟩
 ·rcases aw.mp (show h∈(S.P.filter fun h=>decide (h.to≠e.1))++jx (cM e.1 (S.zo rd e.1).1 (S.zo rd e.1).2) e.2 from hh)with hh|hh
  ·exact k.p h (eK.mp hh).1
  ·have fin:∀(x:Int)(l:List Nm)(q:Nm),e.2=some q->HOk ah rd x l e.1->HOk ah rd x (l++[e.1]) q:=fun x l q hq hl=>⟨hl.up.snoc (he.trans hq),by rw[AI];exact hl.hd⟩
   unfold cM at hh;by_cases c:(S.zo rd e.1).2.length<(S.zo rd e.1).1.length
   ·rw[if_pos c]at hh
    cases hp:e.2 with
    |none=>rw[hp]at hh;cases hh
    |some q=>
     rw[hp]at hh;rw[aq.mp (show h∈[(⟨q,0,_⟩:Pn)]from hh)];exact fin 0 _ q hp (hz _ (getD_mem c))
   ·rw[if_neg c]at hh
    by_cases c2:(S.zo rd e.1).1.length<(S.zo rd e.1).2.length
    ·rw[if_pos c2]at hh
     cases hp:e.2 with
     |none=>rw[hp]at hh;cases hh
     |some q=>
      rw[hp]at hh;rw[aq.mp (show h∈[(⟨q,1,_⟩:Pn)]from hh)];exact fin 1 _ q hp (ho _ (getD_mem c2))
    ·rw[if_neg c2]at hh
     cases e.2<;>cases hh
 ·rcases aw.mp (show w∈S.W++gR e.1 (S.zo rd e.1).1 (S.zo rd e.1).2 from hw)with hw|hw
  ·exact k.w w hw
  ·exact By hz ho w hw
noncomputable def cW(rd:Nm->Option Int)(R:List (Nm×Option Nm))(S:C2):C2:=R.foldl (fun S e=>S.step rd e) S
theorem tf{ah:Nm->Option Nm}{rd:Nm->Option Int}:∀{R:List (Nm×Option Nm)}{S:C2},(∀e∈R,ah e.1=e.2)->WOk ah rd S->WOk ah rd (cW rd R S)
 | [],_,_,k=>k
 |e::R,S,h,k=>tf (S:=S.step rd e) (fun x hx=>h x (aF _ hx)) (k.step (h e au))
theorem qP{rd:Nm->Option Int}(v:Nm):∀(R:List (Nm×Option Nm))(S:C2),cl v ((cW rd R S).P.map (·.ns))+cw v (cW rd R S).W<=cl v (S.P.map (·.ns))+cw v S.W+(R.map (·.1)).count v
 | [],S=>ar _
 |e::R,S=>by
  have ih:=qP (rd:=rd) v R (S.step rd e);have h:=B5 (rd:=rd) (S:=S) (e:=e) v;have e1:((e::R).map (·.1)).count v=(R.map (·.1)).count v+if v=e.1 then 1 else 0:=by
   rw[aN,lj];by_cases c:v=e.1
   ·rw[if_pos c,if_pos (by rw[c];exact beq_self_eq_true _)]
   ·rw[if_neg c,if_neg (by simpa using fun z:e.1=v=>c z.symm)]
  rw[e1];show cl v ((cW rd R (S.step rd e)).P.map (·.ns))+cw v (cW rd R (S.step rd e)).W<=_;omega
noncomputable def prs(l:List Nm):List (Nm×Nm):=l.zip l.tail
theorem t9(n:Nm)(b:List Nm):∀a:List Nm,prs (a++n::b)=prs (a++[n])++prs (n::b)
 | []=>rfl
 | [u]=>rfl
 |u::v::a=>by
  have ih:=t9 n b (v::a);show(u,v)::prs (v::a++n::b)=(u,v)::(prs (v::a++[n])++prs (n::b));rw[ih]
theorem yR(n:Nm):∀l:List Nm,prs (n::l.reverse)=((prs (l++[n])).map swap).reverse
 | []=>rfl
 | [u]=>rfl
 |u::v::l=>by
  have ih:=yR n (v::l);have e:prs (u::v::l++[n])=(u,v)::prs (v::l++[n]):=rfl;have e0:((prs (u::v::l++[n])).map swap).reverse=((prs (v::l++[n])).map swap).reverse++[(v,u)]:=by rw[e,aN,jJ];rfl
  rw[e0,<-ih];have e2:n::(u::v::l).reverse=(n::l.reverse)++v::[u]:=by simp
  rw[e2,t9];have e3:n::l.reverse++[v]=n::(v::l).reverse:=by simp
  rw[e3];rfl
theorem xn{ah:Nm->Option Nm}{n:Nm}:∀{l:List Nm},Up ah l n->(∀p∈prs (l++[n]),ah p.1=some p.2)/\(prs (l++[n])).map (·.1)=l
 | [],_=>⟨fun p hp=>(bA hp).elim,rfl⟩
 | [v],h=>⟨fun p hp=>by rw[aq.mp (show p∈[(v,n)]from hp)];exact h,rfl⟩
 |u::v::r,⟨h1,h2⟩=>by
  obtain⟨a,b⟩:=xn (l:=v::r) h2;refine⟨fun p hp=>?_,?_⟩
  ·rcases aK.mp (show p∈(u,v)::prs (v::r++[n])from hp)with rfl|hp
   ·exact h1
   ·exact a p hp
  ·show u::(prs (v::r++[n])).map (·.1)=_
   rw[b]
noncomputable def ky(ah:Nm->Option Nm)(p:Nm×Nm):Nm:=if ah p.1=some p.2 then p.1 else p.2
theorem yD{ah:Nm->Option Nm}{rd:Nm->Option Int}{w:Wy}(acy:∀u v,ah u=some v->ah v≠some u)(h1:HOk ah rd 0 w.z w.n)(h2:HOk ah rd 1 w.o w.n):(∀p∈prs w.names,ah p.1=some p.2\/ah p.2=some p.1)/\(prs w.names).map (ky ah)=w.z++w.o.reverse:=by
 have e:w.names=w.z++w.n::w.o.reverse:=by unfold Wy.names;simp
 obtain⟨a1,b1⟩:=xn h1.up;obtain⟨a2,b2⟩:=xn h2.up;rw[e,t9,yR];refine⟨fun p hp=>?_,?_⟩
 ·rcases aw.mp hp with hp|hp
  ·exact .inl (a1 p hp)
  ·obtain⟨q,hq,rfl⟩:=aH.mp (fi.mp hp)
   exact .inr (a2 q hq)
 ·have k1:∀p∈prs (w.z++[w.n]),ky ah p=p.1:=fun p hp=>if_pos (a1 p hp)
  have k2:∀p∈prs (w.o++[w.n]),(ky ah∘swap) p=p.1:=fun p hp=>if_neg (acy p.1 p.2 (a2 p hp));rw[aD,dW k1,b1,cH,bK,dW k2,b2]
theorem ky_swap{ah:Nm->Option Nm}(acy:∀u v,ah u=some v->ah v≠some u){p:Nm×Nm}(h:ah p.1=some p.2\/ah p.2=some p.1):ky ah (swap p)=ky ah p:=by
 unfold ky swap;rcases h with h|h
 ·rw[if_pos h,if_neg (acy _ _ h)]
 ·rw[if_pos h,if_neg (acy _ _ h)]
theorem oz:∀{l:List Nm},(∀v,l.count v<=1)->l.Nodup
 | [],_=>cA
 |a::l,h=>by
  refine cb.mpr ⟨fun z=>?_,oz fun v=>?_⟩
  ·have h1:=h a
   have h2:=List.count_pos_iff.mpr z;rw[List.count_cons_self]at h1;omega
  ·have h1:=h v
   rw[lj]at h1;omega
theorem ways_ok{ah:Nm->Option Nm}{rd:Nm->Option Int}{W:List Wy}(acy:∀u v,ah u=some v->ah v≠some u)(hw:∀w∈W,HOk ah rd 0 w.z w.n/\HOk ah rd 1 w.o w.n)(hc:∀v,cw v W<=1):(∀p∈W.flatMap fun w=>prs w.names,ah p.1=some p.2\/ah p.2=some p.1)/\(W.flatMap fun w=>prs w.names).Pairwise fun p q=>p≠q/\swap p≠q:=by
 have h1:∀p∈W.flatMap fun w=>prs w.names,ah p.1=some p.2\/ah p.2=some p.1:=fun p hp=>by
  obtain⟨w,hw',hp⟩:=rJ.mp hp;exact(yD acy (hw w hw').1 (hw w hw').2).1 p hp
 refine⟨h1,?_⟩;have e:(W.flatMap fun w=>prs w.names).map (ky ah)=W.flatMap fun w=>w.z++w.o.reverse:=by
  rw[List.map_flatMap];have :∀w∈W,(prs w.names).map (ky ah)=w.z++w.o.reverse:=fun w h=>(yD acy (hw w h).1 (hw w h).2).2;rw[List.flatMap_def,List.flatMap_def,dW this]
 have cnt:∀v,(W.flatMap fun w=>w.z++w.o.reverse).count v=cw v W:=fun v=>by
  clear e h1 hc hw
  induction W with
  |nil=>rfl
  |cons w W ih=>
   rw[p9,jM,ih,jM,List.count_reverse];rfl
 have nd:((W.flatMap fun w=>prs w.names).map (ky ah)).Nodup:=by
  rw[e];exact oz fun v=>cnt v▸hc v
 rw[vb,gw]at nd;exact List.Pairwise.imp_of_mem (fun{p q} hp hq hne=>⟨fun z=>hne (by rw[z]),fun z=>hne (by rw[<-z,ky_swap acy (h1 p hp)])⟩) nd
structure Lk(S2:C2)(S:Cl)(rest:List Nm):Prop where
 w:S2.W.length=S.w
 c:∀v∈rest,(S2.P.filter fun h=>decide (h.to=v)).map (·.x)=S.cs v
theorem pZ(P:List Pn)(n:Nm)(r:Int):(beg P n r).length=((P.filter fun h=>decide (h.to=n)).map (·.x)).count r:=by
 unfold beg;rw[ag]
 induction P with
 |nil=>rfl
 |cons h P ih=>
  rw[cu,cu];by_cases c:h.to=n
  ·rw[if_pos (decide_eq_true c),aN,lj,<-ih]
   by_cases d:h.x=r
   ·rw[if_pos (by rw[decide_eq_true c,decide_eq_true d];rfl),if_pos (by rw[d];exact beq_self_eq_true _),bj]
   ·rw[if_neg (by rw[decide_eq_false d,eZ];decide),if_neg (by simpa using d)]
    rfl
  ·rw[if_neg (by rw[decide_eq_false c,eY];decide),if_neg (by rw[decide_eq_false c];decide),ih]
theorem yB(r:Option Int)(zs os:List (List Nm)):((zo2 r zs os).1.length,(zo2 r zs os).2.length)=zo r zs.length os.length:=by
 unfold zo2 zo;split
 ·show((aO (os.length+1) ([]:List Nm)).length,os.length)=_
  rw[eP]
 ·split
  ·show(zs.length,(aO (zs.length+1) ([]:List Nm)).length)=_
   rw[eP]
  ·rfl
theorem qE(n:Nm)(zs os:List (List Nm)):(cM n zs os).map (·.1)=half zs.length os.length:=by
 unfold cM half;split
 ·rfl
 ·split <;>rfl
theorem nY(n:Nm)(zs os:List (List Nm)):(gR n zs os).length=min zs.length os.length:=List.length_zipWith ..
theorem Lk.step{rd:Nm->Option Int}{S2:C2}{S:Cl}{e:Nm×Option Nm}{r:List Nm}(k:Lk S2 S (e.1::r))(hn:e.1∉r):Lk (S2.step rd e) (S.step rd e) r:=by
 have cn:=k.c e.1 au;have e1:((S2.zo rd e.1).1.length,(S2.zo rd e.1).2.length)=S.zo rd e.1:=by
  unfold C2.zo Cl.zo;rw[yB,pZ,pZ,cn]
 have z1:(S2.zo rd e.1).1.length=(S.zo rd e.1).1:=congrArg Prod.fst e1;have z2:(S2.zo rd e.1).2.length=(S.zo rd e.1).2:=congrArg Prod.snd e1;have hh:(cM e.1 (S2.zo rd e.1).1 (S2.zo rd e.1).2).map (·.1)=S.half rd e.1:=by
  rw[qE,z1,z2];rfl
 refine⟨?_,fun v hv=>?_⟩
 ·show(S2.W++gR e.1 _ _).length=S.w+min _ _
  rw[aG,nY,k.w,z1,z2]
 ·have hve:v≠e.1:=fun z=>hn (z▸hv)
  have c1:=k.c v (aF _ hv);show(((S2.P.filter fun h=>decide (h.to≠e.1))++jx (cM e.1 (S2.zo rd e.1).1 (S2.zo rd e.1).2) e.2).filter fun h=>decide (h.to=v)).map (·.x)=put S.cs (S.half rd e.1) e.2 v;have ff:(S2.P.filter fun h=>decide (h.to≠e.1)).filter (fun h=>decide (h.to=v))=S2.P.filter fun h=>decide (h.to=v):=by
   rw[pv];apply qa;intro h _;by_cases c:h.to=v
   ·rw[decide_eq_true c,decide_eq_true (show h.to≠e.1 from fun z=>hve (c▸z))];rfl
   ·rw[decide_eq_false c];rfl
  rw[fX,ff,aD,c1,<-hh];cases cM e.1 (S2.zo rd e.1).1 (S2.zo rd e.1).2 with
  |none=>exact cE _
  |some h=>
   cases hp:e.2 with
   |none=>exact cE _
   |some q=>
    show S.cs v++(([(⟨q,h.1,h.2⟩:Pn)].filter fun h=>decide (h.to=v)).map (·.x))=if v=q then S.cs q++[h.1]else S.cs v
    by_cases c:v=q
    ·rw[if_pos c,cu,if_pos (decide_eq_true c.symm),c]
     rfl
    ·rw[if_neg c,cu,if_neg (by rw[decide_eq_false fun z=>c z.symm];decide)]
     exact cE _
theorem Lk.gd{rd:Nm->Option Int}:∀{R:List (Nm×Option Nm)}{S2:C2}{S:Cl},Lk S2 S (R.map (·.1))->(R.map (·.1)).Nodup->Lk (cW rd R S2) (F5.gd rd R S) []
 | [],_,_,k,_=>k
 |e::R,S2,S,k,nd=>by
  rw[aN,cb]at nd;exact Lk.gd (R:=R) (k.step nd.1) nd.2
end F5
namespace F5
open PySem PySem.Spec PyProof.Rows L2 R Cp Kc
noncomputable def HfC(H:Hp)(bl:Addr->Prop)(y:V)(h:Int×List Nm):Prop:=∃p n,y=V.ref p/\H p=some (.tup [.int h.1,.ref n])/\H n=some (.lst (h.2.map V.str))/\¬bl n
noncomputable def LC(H:Hp)(bl:Addr->Prop)(y:V)(l:List Nm):Prop:=∃n,y=V.ref n/\H n=some (.lst (l.map V.str))/\¬bl n
theorem LC.same{H H':Hp}{bl:Addr->Prop}{y:V}{l:List Nm}(h:LC H bl y l)(s:aX H H'):LC H' bl y l:=let⟨n,e,h1,h2⟩:=h;⟨n,e,s _ _ h1,h2⟩
theorem zg{H H':Hp}{bl:Addr->Prop}{r:Int}(s:aX H H'):∀{hs:List V}{cs:List (Int×List Nm)},Paired (HfC H bl) hs cs->Paired (LC H' bl) ((hs.filter fun y=>decide (itm H y 0=.int r)).map fun y=>itm H y 1) ((cs.filter fun h=>decide (h.1=r)).map (·.2))
 |_,_,.nil=>.nil
 |y::hs,h::cs,.cons ⟨p,n,e,h1,h2,h3⟩ t=>by
  have ih:=zg (r:=r) s t;subst e;rw[cu,cu,md h1];by_cases c:h.1=r
  ·rw[if_pos (by rw[c];exact decide_eq_true rfl),if_pos (decide_eq_true c),aN,aN,md h1]
   exact .cons ⟨n,rfl,s _ _ h2,h3⟩ ih
  ·rw[if_neg (by simpa using c),if_neg (by simpa using c)]
   exact ih
noncomputable def vv:Sp:=fun vs H Q _=>∃(h:Addr)(r:Int)(hs:List V)(cs:List (Int×List Nm))(bl:Addr->Prop),vs=[.ref h,.int r]/\H h=some (.lst hs)/\Paired (HfC H bl) hs cs/\hs.length<=100/\
 ∀H' l zs,aX H H'->H l=none->H' l=some (.lst zs)->Paired (LC H' bl) zs ((cs.filter fun h=>decide (h.1=r)).map (·.2))->Q (.ref l) H'
theorem wp_baC{G:Gam}{K:aa}:Sat G K vv rn qy:=by
 rintro vs H Q E ⟨h,r,hs,cs,bl,rfl,hh,hp,l1,q⟩;unfold rn;change wpB G K _ _ _ [some (.ref h),some (.int r)] H;walk_at "wp";refine gU (dA rfl (SqL.of hh) (sY eM (ix (by omega)) (fun H4 s6=>SqL.of (s6 _ _ hh)) (fun y=>decide (itm H y 0=.int r)) (fun y=>itm H y 1) (fun τ=>∃u v,τ=[u,v,some (.int r)]) ⟨none,none,rfl⟩ ?_ ?_))
 ·rintro x τ H3 Rt Rf hx ⟨u,v,rfl⟩ s3 kt kf
  obtain⟨i,hi,ei⟩:=aT.mp hx;obtain⟨y,_,p,n,rfl,h1,h2,h3⟩:=jz hp (ai hi▸congrArg some ei);refine⟨p,_,rfl,SqT.of (s3 _ _ h1),rfl,_,_,rfl,_,_,rfl,rfl,?_⟩;walk_at "wp";rw[md h1,md h1]at kt;rw[md h1]at kf;by_cases c:y.1=r
  ·rw[if_pos (decide_eq_true c)]
   exact kt _ _ ⟨_,_,rfl⟩ (aX.refl _) (by simp[c])
  ·rw[if_neg (by simpa using c)]
   exact kf _ _ ⟨_,_,rfl⟩ (aX.refl _) (by simpa using c)
 ·intro H2 l s2 hl2
  exact q _ l _ (s2.trans (aB hl2)) (s2.free hl2) av (zg (s2.trans (aB hl2)) hp)
theorem yS{α β:Type}{P:α->β->Prop}:∀{a:List α}{b:List β},a.length=b.length->(∀(i:Nat) x,a[i]? =some x->∃y,b[i]? =some y/\P x y)->Paired P a b
 | [],[],_,_=>.nil
 |x::a,y::b,hl,h=>by
  obtain⟨z,h1,h2⟩:=h 0 x rfl;cases h1;exact .cons h2 (yS (by simpa using hl) fun i u hu=>h (i+1) u (by simpa using hu))
noncomputable def WC(H H':Hp)(y:V)(l:List Nm):Prop:=∃a,y=V.ref a/\H' a=some (.lst (l.map V.str))/\H a=none
noncomputable def oy:Sp:=fun vs H Q _=>∃(z o:Addr)(n:Nm)(zs os:List V)(zl ol:List (List Nm))(bl:Addr->Prop)(b:Nat),vs=[.ref z,.ref o,.str n]/\H z=some (.lst zs)/\H o=some (.lst os)/\Paired (LC H bl) zs zl/\Paired (LC H bl) os ol/\(∀l∈zl,l.length<=b)/\(∀l∈ol,l.length<=b)/\zs.length<=200/\os.length<=200/\b<=200/\
 ∀H' l ws,aX H H'->H l=none->H' l=some (.lst ws)->Paired (WC H H') ws ((gR n zl ol).map Wy.names)->Q (.ref l) H'
theorem wp_jnC{G:Gam}{K:aa}:Sat G K oy wK vS:=by
 rintro vs H Q E ⟨z,o,n,zs,os,zl,ol,bl,b,rfl,hz,ho,az,ao,bz,bo,l1,l2,l3,q⟩;have ez:=az.length;have eo:=ao.length;unfold wK;change wpB G K _ _ _ [some (.ref z),some (.ref o),some (.str n)] H;walk_at "wp";refine gU ⟨_,rfl,_,rfl,z,o,rfl,⟨_,SqL.of hz⟩,⟨_,SqL.of ho⟩,?_⟩;refine jm (vy (xs:=zs) (ys:=os)) (ix (by omega)) (fun H3 s3=>⟨SqL.of (s3 _ _ hz),SqL.of (s3 _ _ ho)⟩) (fun i v H'=>∃w,(gR n zl ol)[i]? =some w/\WC H H' v w.names) (fun _ _ _ _ s ⟨w,h1,a,h2,h3,h4⟩=>⟨w,h1,a,h2,s _ _ h3,h4⟩) (fun τ=>∃u v,τ=[u,v,some (.str n)]) ⟨none,none,rfl⟩ ?_ ?_
 ·rintro i x τ H3 R hi ⟨u,v,rfl⟩ s3 ⟨p,x,y,rfl,hp,hx,hy⟩ kk
  obtain⟨zn,hzn,a,rfl,ha,_⟩:=jz az hx;obtain⟨on,hon,c,rfl,hc,_⟩:=jz ao hy;have ba:=bz zn (aS hzn);have bc:=bo on (aS hon);have ha:=s3 _ _ ha;have hc:=s3 _ _ hc;refine⟨p,_,rfl,SqT.of hp,rfl,_,_,rfl,_,_,rfl,rfl,?_⟩;walk_at "wp";refine⟨(by show 1<=sizeLine;decide),fun p1 n1=>?_⟩;refine .inr (.inr (.inl ⟨a,p1,_,_,rfl,rfl,aB n1 _ _ ha,av,ix (by rw[ag];show zn.length+1<=1000;omega),fun p2 n2=>?_⟩));have s4:=(aB (o:=.lst [.str n]) n1).trans (aB (o:=.lst (zn.map V.str++[.str n])) n2);refine⟨c,_,rfl,SqL.of (s4 _ _ hc),fun p3 n3=>?_⟩;refine .inr (.inr (.inl ⟨p2,p3,_,_,rfl,rfl,aB n3 _ _ av,av,ix (by rw[aG,dk,ag,ag];show zn.length+1+on.length<=1000;omega),fun p4 n4=>?_⟩));have s5:=s4.trans (aB (o:=.lst ((on.map V.str).reverse)) n3);refine kk _ _ _ ⟨_,_,rfl⟩ (s5.trans (aB n4)) ⟨⟨zn,n,on⟩,?_,p4,rfl,?_,(s3.trans s5).free n4⟩
  ·unfold gR
   rw[List.getElem?_zipWith,hzn,hon]
  ·rw[av]
   show some (HO.lst (zn.map V.str++[.str n]++(on.map V.str).reverse))=some (.lst ((zn++[n]++on.reverse).map V.str));rw[aD,aD,cH];rfl
 ·intro vs H2 l hvl hF s2 hl2
  have s3:=s2.trans (aB (o:=.lst vs) hl2);refine q _ l vs s3 (s2.free hl2) av (pT ?_);exact yS (by rw[hvl,nY,ez,eo]) fun i v hv=>by
   obtain⟨w,h1,a,h2,h3,h4⟩:=hF i v hv;exact⟨w,h1,a,h2,aB hl2 _ _ h3,h4⟩
noncomputable def mH:Sp:=fun vs H Q _=>∃(z o:Addr)(n:Nm)(zs os:List V)(zl ol:List (List Nm))(bl:Addr->Prop)(b:Nat),vs=[.ref z,.ref o,.str n]/\H z=some (.lst zs)/\H o=some (.lst os)/\Paired (LC H bl) zs zl/\Paired (LC H bl) os ol/\(∀l∈zl,l.length<=b)/\(∀l∈ol,l.length<=b)/\b<=200/\(∀n,H n=none->¬bl n)/\
 (cM n zl ol=none->Q .non H)/\∀h H' p,cM n zl ol=some h->aX H H'->H p=none->HfC H' bl (.ref p) h->Q (.ref p) H'
theorem getD_at{α:Type}{l:List α}{k:Nat}{x d:α}(h:l[k]? =some x):l.getD k d=x:=by rw[aJ,h];rfl
theorem wp_loC{G:Gam}{K:aa}:Sat G K mH oY oB:=by
 rintro vs H Q E ⟨z,o,n,zs,os,zl,ol,bl,b,rfl,hz,ho,az,ao,bz,bo,l3,fb,q1,q2⟩;have ez:=az.length;have eo:=ao.length;have fin:∀(x:Int)(a:Addr)(l:List Nm),cM n zl ol=some (x,l++[n])->H a=some (.lst (l.map V.str))->l.length<=b->∀p1,H p1=none->jy K .Add (.ref a) (.ref p1) (upd H p1 (.lst [.str n])) fun y H2=>2<=sizeLine/\∀p,H2 p=none->Q (.ref p) (upd H2 p (.tup [.int x,y])):=by
  intro x a l hx ha hb p1 n1;refine .inr (.inr (.inl ⟨a,p1,_,_,rfl,rfl,aB n1 _ _ ha,av,ix (by rw[ag];show l.length+1<=1000;omega),fun p2 n2=>⟨by decide,fun p3 n3=>?_⟩⟩));have s4:=((aB (o:=.lst [.str n]) n1).trans (aB (o:=.lst (l.map V.str++[.str n])) n2)).trans (aB (o:=.tup [.int x,.ref p2]) n3);refine q2 _ _ p3 hx s4 (((aB n1).trans (aB n2)).free n3) ⟨p3,p2,rfl,av,aB n3 _ _ ?_,fb p2 ((aB n1).free n2)⟩;rw[av,aD];rfl
 unfold oY;change wpB G K _ _ _ [some (.ref z),some (.ref o),some (.str n)] H;walk_at "wp";refine .inl ⟨z,_,rfl,.inl (SqL.of hz),.inl ⟨o,_,rfl,.inl (SqL.of ho),qK.mpr ⟨_,rfl,?_⟩⟩⟩;by_cases c1:os.length<zs.length
 ·rw[if_pos (decide_eq_true (by omega))]
  obtain⟨l,hl,a,ea,ha,_⟩:=jz az (ai c1);have hx:cM n zl ol=some (0,l++[n]):=by
   unfold cM;rw[if_pos (by omega),<-eo,getD_at hl]
  refine .inl ⟨o,_,rfl,.inl (SqL.of ho),.inl ⟨z,_,_,.ref a,rfl,rfl,SqL.of hz,gV (by rw[ai c1,ea]),?_⟩⟩;exact⟨(by show 1<=sizeLine;decide),fun p1 n1=>fin 0 a l hx ha (bz l (aS hl)) p1 n1⟩
 ·rw[if_neg (by rw[decide_eq_false (by omega)];decide)]
  unfold lH;walk_at "wp";refine .inl ⟨o,_,rfl,.inl (SqL.of ho),.inl ⟨z,_,rfl,.inl (SqL.of hz),qK.mpr ⟨_,rfl,?_⟩⟩⟩;by_cases c2:zs.length<os.length
  ·rw[if_pos (decide_eq_true (by omega))]
   obtain⟨l,hl,a,ea,ha,_⟩:=jz ao (ai c2);have hx:cM n zl ol=some (1,l++[n]):=by
    unfold cM;rw[if_neg (by omega),if_pos (by omega),<-ez,getD_at hl]
   refine .inl ⟨z,_,rfl,.inl (SqL.of hz),.inl ⟨o,_,_,.ref a,rfl,rfl,SqL.of ho,gV (by rw[ai c2,ea]),?_⟩⟩;exact⟨(by show 1<=sizeLine;decide),fun p1 n1=>fin 1 a l hx ha (bo l (aS hl)) p1 n1⟩
  ·rw[if_neg (by rw[decide_eq_false (by omega)];decide)]
   unfold lG;walk_at "wp";exact q1 (by unfold cM;rw[if_neg (by omega),if_neg (by omega)])
noncomputable def at_(P:List Pn)(v:Nm):List (Int×List Nm):=(P.filter fun h=>decide (h.to=v)).map fun h=>(h.x,h.ns)
noncomputable def WyC(H H':Hp)(bl:Addr->Prop)(y:V)(x:Wy):Prop:=∃a,y=V.ref a/\H' a=some (.lst (x.names.map V.str))/\¬bl a/\H a=none
structure Ct(H H':Hp)(d e w l0:Addr)(ls:List (Nm×Addr))(N:List V)(rest:List Nm)(P:List Pn)(L:List (Nm×Option Int))(W:List Wy):Prop where
 sm:aX H H'
 hd:H' d=some (.dK (kvS (refs ls)))
 cm:∃c,Bes H' d ls c/\∀q∈ls,q.1∈rest->Paired (HfC H' (Bl ls w)) (c q.1) (at_ P q.1)
 he:H' e=some (.dK (kvS (oV L)))
 hw:∃ws,H' w=some (.lst ws)/\Paired (WyC H H' (Bl ls w)) ws W
 h0:H' l0=some (.lst N)
 n0:¬Bl ls w l0
 ne:H e=none
 nb:∀n,Bl ls w n->H n=none
 nw:w∉ls.map (·.2)
 de:d≠e
section
variable {H H1 H2:Hp}{d e w l0:Addr}{ls:List (Nm×Addr)}{N:List V}{rest:List Nm}{P:List Pn}{L:List (Nm×Option Int)}{W:List Wy}
theorem HfC.same{bl:Addr->Prop}{y:V}{h:Int×List Nm}(k:HfC H1 bl y h)(s:aX H1 H2):HfC H2 bl y h:=let⟨p,n,e,h1,h2,h3⟩:=k;⟨p,n,e,s _ _ h1,s _ _ h2,h3⟩
theorem HfC.upd{bl:Addr->Prop}{y:V}{h:Int×List Nm}{a:Addr}{xs:List V}{o:HO}(k:HfC H1 bl y h)(ha:bl a)(h2:H1 a=some (.lst xs)):HfC (L2.upd H1 a o) bl y h:=by
 obtain⟨p,n,e,h1,h3,h5⟩:=k;exact⟨p,n,e,by rw[aI (d5 h1 h2 (fun z=>nomatch z))];exact h1,by rw[aI (fun z=>h5 (by rw[z];exact ha))];exact h3,h5⟩
theorem HfC.dic{bl:Addr->Prop}{y:V}{h:Int×List Nm}{a:Addr}{kvs:List (Key×V)}{o:HO}(k:HfC H1 bl y h)(h2:H1 a=some (.dK kvs)):HfC (L2.upd H1 a o) bl y h:=by
 obtain⟨p,n,e,h1,h3,h4⟩:=k;exact⟨p,n,e,by rw[aI (d5 h1 h2 (fun z=>nomatch z))];exact h1,by rw[aI (d5 h3 h2 (fun z=>nomatch z))];exact h3,h4⟩
theorem LC.upd{bl:Addr->Prop}{y:V}{l:List Nm}{a:Addr}{o:HO}(k:LC H1 bl y l)(ha:bl a):LC (L2.upd H1 a o) bl y l:=by
 obtain⟨n,e,h3,h5⟩:=k;exact⟨n,e,by rw[aI (fun z=>h5 (by rw[z];exact ha))];exact h3,h5⟩
theorem WyC.same{bl:Addr->Prop}{y:V}{x:Wy}(k:WyC H H1 bl y x)(s:aX H1 H2):WyC H H2 bl y x:=let⟨a,e,h1,h2⟩:=k;⟨a,e,s _ _ h1,h2⟩
theorem WyC.upd{bl:Addr->Prop}{y:V}{x:Wy}{a:Addr}{o:HO}(k:WyC H H1 bl y x)(ha:bl a):WyC H (L2.upd H1 a o) bl y x:=by
 obtain⟨n,e,h3,h5,h6⟩:=k;exact⟨n,e,by rw[aI (fun z=>h5 (by rw[z];exact ha))];exact h3,h5,h6⟩
theorem WyC.dic{bl:Addr->Prop}{y:V}{x:Wy}{a:Addr}{kvs:List (Key×V)}{o:HO}(k:WyC H H1 bl y x)(h2:H1 a=some (.dK kvs)):WyC H (L2.upd H1 a o) bl y x:=by
 obtain⟨n,e,h3,h5⟩:=k;exact⟨n,e,by rw[aI (d5 h3 h2 (fun z=>nomatch z))];exact h3,h5⟩
theorem Ct.same(C:Ct H H1 d e w l0 ls N rest P L W)(s:aX H1 H2):Ct H H2 d e w l0 ls N rest P L W:=by
 obtain⟨c,c1,c2⟩:=C.cm;obtain⟨ws,w1,w2⟩:=C.hw;exact{C with sm:=C.sm.trans s,hd:=s _ _ C.hd,cm:=⟨c,c1.same (.of s),fun q hq hr=>L2.Paired.gM (c2 q hq hr) fun _ _ h=>h.same s⟩,he:=s _ _ C.he,hw:=⟨ws,s _ _ w1,L2.Paired.gM w2 fun _ _ h=>h.same s⟩,h0:=s _ _ C.h0}
theorem Ct.bls(C:Ct H H1 d e w l0 ls N rest P L W){n:Addr}(h:Bl ls w n):∃l,H1 n=some (.lst l):=by
 rcases h with rfl|h
 ·exact C.hw.imp fun _ h=>h.1
 ·obtain⟨q,hq,rfl⟩:=aH.mp h
  obtain⟨c,c1,_⟩:=C.cm;exact⟨_,c1.at_ q hq⟩
theorem Ct.new(C:Ct H H1 d e w l0 ls N rest P L W)(n:Addr)(h:H1 n=none):¬Bl ls w n:=fun z=>by
 obtain⟨l,hl⟩:=C.bls z;rw[h]at hl;cases hl
theorem yT{α β:Type}{F:α->β->Prop}:∀{a:List α}{b:List β}{a':List α}{b':List β},Paired F a b->Paired F a' b'->Paired F (a++a') (b++b')
 |_,_,_,_,.nil,h=>h
 |_,_,_,_,.cons r t,h=>.cons r (yT t h)
theorem Ct.ext(C:Ct H H1 d e w l0 ls N rest P L W){ws us:List V}{U:List Wy}(hw:H1 w=some (.lst ws))(h:Paired (WyC H H1 (Bl ls w)) us U):Ct H (upd H1 w (.lst (ws++us))) d e w l0 ls N rest P L (W++U):=by
 obtain⟨c,c1,c2⟩:=C.cm;obtain⟨wz,w1,w2⟩:=C.hw;rw[hw]at w1;cases w1;have nd:d≠w:=d5 C.hd hw (fun z=>nomatch z);refine{C with sm:=cg C.sm (C.nb w (.inl rfl)),hd:=by rw[aI nd];exact C.hd,cm:=⟨c,⟨.inl (by rw[aI nd];exact C.hd),c1.nd,c1.na,fun q hq=>?_⟩,fun q hq hr=>L2.Paired.gM (c2 q hq hr) fun _ _ h=>h.upd (.inl rfl) hw⟩,he:=by rw[aI (d5 C.he hw (fun z=>nomatch z))];exact C.he,hw:=⟨_,av,L2.Paired.gM (yT w2 h) fun _ _ h=>h.upd (.inl rfl)⟩,h0:=by rw[aI (fun z=>C.n0 (.inl z))];exact C.h0};rw[aI (fun z=>C.nw (by rw[<-z];exact bS hq))];exact c1.at_ q hq
theorem Ct.put(C:Ct H H1 d e w l0 ls N rest P L W){L':List (Nm×Option Int)}:Ct H (upd H1 e (.dK (kvS (oV L')))) d e w l0 ls N rest P L' W:=by
 obtain⟨c,c1,c2⟩:=C.cm;obtain⟨wz,w1,w2⟩:=C.hw;refine{C with sm:=cg C.sm C.ne,hd:=by rw[aI C.de];exact C.hd,cm:=⟨c,⟨.inl (by rw[aI C.de];exact C.hd),c1.nd,c1.na,fun q hq=>?_⟩,fun q hq hr=>L2.Paired.gM (c2 q hq hr) fun _ _ h=>h.dic C.he⟩,he:=av,hw:=⟨wz,by rw[aI (d5 w1 C.he (fun z=>nomatch z))];exact w1,L2.Paired.gM w2 fun _ _ h=>h.dic C.he⟩,h0:=by rw[aI (d5 C.h0 C.he (fun z=>nomatch z))];exact C.h0};rw[aI (d5 (c1.at_ q hq) C.he (fun z=>nomatch z))];exact c1.at_ q hq
theorem at_snoc(P:List Pn)(p v:Nm)(x:Int)(l:List Nm):at_ (P++[⟨p,x,l⟩]) v=if v=p then at_ P v++[(x,l)]else at_ P v:=by
 unfold at_;rw[fX,aD,cu];by_cases c:v=p
 ·rw[if_pos c,if_pos (decide_eq_true c.symm)]
  rfl
 ·rw[if_neg c,if_neg (by rw[decide_eq_false fun z=>c z.symm];decide)]
  exact cE _
theorem Ct.app(C:Ct H H1 d e w l0 ls N rest P L W){p:Nm}{y:V}{x:Int}{l:List Nm}(hp:p∈ls.map (·.1))(hr:p∈rest)(hy:HfC H1 (Bl ls w) y (x,l)):∃a xs,j7 H1 d (.str p) (some (.ref a))/\H1 a=some (.lst xs)/\xs.length=(at_ P p).length/\Ct H (upd H1 a (.lst (xs++[y]))) d e w l0 ls N rest (P++[⟨p,x,l⟩]) L W:=by
 obtain⟨c,c1,c2⟩:=C.cm;obtain⟨wz,w1,w2⟩:=C.hw;obtain⟨a,ha,g,h⟩:=c1.get hp;have ba:Bl ls w a:=.inr (aH.mpr ⟨_,ha,rfl⟩);have hda:d≠a:=d5 C.hd h (fun z=>nomatch z);refine⟨a,c p,g,h,(c2 _ ha hr).length,{C with sm:=cg C.sm (C.nb a ba),hd:=by rw[aI hda];exact C.hd,cm:=⟨_,c1.app ha,fun q hq hqr=>?_⟩,he:=by rw[aI (d5 C.he h (fun z=>nomatch z))];exact C.he,hw:=⟨wz,by rw[aI (fun z=>C.nw (by rw[z];exact aH.mpr ⟨_,ha,rfl⟩))];exact w1,L2.Paired.gM w2 fun _ _ h'=>h'.upd ba⟩,h0:=by rw[aI (fun z=>C.n0 (by rw[z];exact ba))];exact C.h0}⟩;rw[at_snoc];show Paired _ (if q.1=p then c p++[y]else c q.1) _;by_cases z:q.1=p
 ·rw[if_pos z,if_pos z,z]
  exact L2.Paired.gM (qm hy (c2 _ ha hr)) fun _ _ h'=>HfC.upd h' ba h
 ·rw[if_neg z,if_neg z]
  exact L2.Paired.gM (c2 q hq hqr) fun _ _ h'=>h'.upd ba h
theorem Ct.drop{n:Nm}{r:List Nm}(C:Ct H H1 d e w l0 ls N (n::r) P L W)(hn:n∉r):Ct H H1 d e w l0 ls N r (P.filter fun h=>decide (h.to≠n)) L W:=by
 obtain⟨c,c1,c2⟩:=C.cm;refine{C with cm:=⟨c,c1,fun q hq hr=>?_⟩};have e2:at_ (P.filter fun h=>decide (h.to≠n)) q.1=at_ P q.1:=by
  unfold at_;rw[pv];congr 1;apply qa;intro h _;by_cases c:h.to=q.1
  ·rw[decide_eq_true c,decide_eq_true (show h.to≠n from fun z=>hn (z▸c▸hr))];rfl
  ·rw[decide_eq_false c];rfl
 rw[e2];exact c2 q hq (aF _ hr)
end
theorem sA{α β γ:Type}{F:α->γ->Prop}{f:β->γ}:∀{l:List α}{m:List β},Paired F l (m.map f)->Paired (fun a b=>F a (f b)) l m
 |_,[],.nil=>.nil
 |_,_::_,.cons h t=>.cons h (sA t)
noncomputable def HhC(H:Hp)(bl:Addr->Prop)(y:V):Option (Int×List Nm)->Prop
 |none=>y=.non
 |some h=>HfC H bl y h
section
variable {G:Gam}{K:aa}{E:XS}{D:Ends}{H H1:Hp}{a r d e w l0:Addr}{ls:List (Nm×Addr)}{N:List V}{rest:List Nm}{P:List Pn}{L:List (Nm×Option Int)}{W:List Wy}{A:List (Nm×Option Nm)}{v:Nm}{p:Option Nm}{h:Option (Int×List Nm)}{y:V}{x6 x7 x8:Option V}
theorem tm8(C:Ct H H1 d e w l0 ls N rest P L W)(ha:H a=some (.dK (kvS (aV A))))(hA:lk (aV A) v=some (pV p))(hp:∀q,p=some q->q∈ls.map (·.1)/\q∈rest)(hh:HhC H1 (Bl ls w) y h)(hb:P.length<=200)
  (hk:∀H2,Ct H H2 d e w l0 ls N rest (P++jx h p) L W->D.nx [some (.ref a),some (.ref r),some (.ref d),some (.ref e),some (.ref w),some (.str v),x6,x7,some y] H2):
  wpB G K E gq D [some (.ref a),some (.ref r),some (.ref d),some (.ref e),some (.ref w),some (.str v),x6,x7,some y] H1:=by
 unfold gq;walk_at "wp";have ga:=hA▸uC v (.inl (C.sm _ _ ha));cases h with
 |none=>
  have :y=.non:=hh;subst this;rw[if_neg (by simp),if_neg (by simp)];exact hk H1 ((cE P).symm▸C)
 |some x=>
  have hy:y≠.non:=by
   obtain⟨_,_,rfl,_⟩:=(show HfC H1 (Bl ls w) y x from hh);exact fun z=>nomatch z
  rw[if_pos (by rw[decide_eq_false hy];rfl)];refine⟨a,_,rfl,ga,?_⟩;cases p with
  |none=>
   rw[if_neg (by simp[pV])];exact hk H1 ((cE P).symm▸C)
  |some q=>
   rw[if_pos (by simp[pV])];refine⟨a,_,rfl,ga,d,?_⟩;obtain⟨u,l,g1,g2,g3,C2⟩:=C.app (x:=x.1) (l:=x.2) (hp q rfl).1 (hp q rfl).2 hh;have :(at_ P q).length<=P.length:=by unfold at_;rw[ag];exact eQ ..
   exact⟨_,rfl,g1,.inl ⟨rfl,l,SqL.of g2⟩,u,l,y,rfl,rfl,g2,l8 (by omega),hk _ C2⟩
theorem tm7(C:Ct H H1 d e w l0 ls N rest P L W)(ha:H a=some (.dK (kvS (aV A))))(hA:lk (aV A) v=some (pV p))(hp:∀q,p=some q->q∈ls.map (·.1)/\q∈rest)(hh:HhC H1 (Bl ls w) y h)(hb:P.length<=200)(hv:v∉L.map (·.1))(hL:L.length<=200)
  (hk:∀σ H2,Ct H H2 d e w l0 ls N rest (P++jx h p) (L++[(v,h.map (·.1))]) W->(∃y5 y6 y7 y8,σ=[some (.ref a),some (.ref r),some (.ref d),some (.ref e),some (.ref w),y5,y6,y7,y8])->D.nx σ H2):
  wpB G K E i6 D [some (.ref a),some (.ref r),some (.ref d),some (.ref e),some (.ref w),some (.str v),x6,x7,some y] H1:=by
 unfold i6;walk_at "wp";have he:=dput (x:=hV (h.map (·.1))) C.he (by unfold oV;rw[ag];omega) (by rw[za];exact hv);rw[oV_snoc]at he;have fin:wpB G K E gq D [some (.ref a),some (.ref r),some (.ref d),some (.ref e),some (.ref w),some (.str v),x6,x7,some y] (upd H1 e (.dK (kvS (oV (L++[(v,h.map (·.1))]))))):=by
  refine tm8 C.put ha hA hp ?_ hb fun H2 C2=>hk _ H2 C2 ⟨_,_,_,_,rfl⟩;cases h with
  |none=>exact hh
  |some x=>exact HfC.dic hh C.he
 cases h with
 |none=>
  have :y=.non:=hh;subst this;rw[if_pos (by simp)];exact⟨e,_,rfl,he,fin⟩
 |some x=>
  obtain⟨p1,n1,rfl,h1,_⟩:=(show HfC H1 (Bl ls w) y x from hh);rw[if_neg (by simp)];exact .inr (.inl ⟨p1,_,0,.int x.1,rfl,rfl,SqT.of h1,rfl,e,_,rfl,he,fin⟩)
theorem tm6{z o:Addr}{zs os:List V}{zl ol:List (List Nm)}{b:Nat}(g6:G.fn "left_over" 3=some (mH,[]))(C:Ct H H1 d e w l0 ls N rest P L W)(ha:H a=some (.dK (kvS (aV A))))(hA:lk (aV A) v=some (pV p))(hp:∀q,p=some q->q∈ls.map (·.1)/\q∈rest)(hb:P.length<=200)(hv:v∉L.map (·.1))(hL:L.length<=200)
  (hz:H1 z=some (.lst zs))(ho:H1 o=some (.lst os))(az:Paired (LC H1 (Bl ls w)) zs zl)(ao:Paired (LC H1 (Bl ls w)) os ol)(bz:∀l∈zl,l.length<=b)(bo:∀l∈ol,l.length<=b)(lb:b<=200)
  (hk:∀σ H2,Ct H H2 d e w l0 ls N rest (P++jx (cM v zl ol) p) (L++[(v,(cM v zl ol).map (·.1))]) W->(∃y5 y6 y7 y8,σ=[some (.ref a),some (.ref r),some (.ref d),some (.ref e),some (.ref w),y5,y6,y7,y8])->D.nx σ H2):
  wpB G K E i7 D [some (.ref a),some (.ref r),some (.ref d),some (.ref e),some (.ref w),some (.str v),some (.ref z),some (.ref o),x8] H1:=by
 unfold i7;walk_at "wp";refine⟨_,_,g6,z,o,v,zs,os,zl,ol,Bl ls w,b,rfl,hz,ho,az,ao,bz,bo,lb,C.new,fun h=>?_,fun x H' p' h s n hf=>?_⟩
 ·rw[h]at hk
  exact tm7 C ha hA hp (show HhC H1 _ _ none from rfl) hb hv hL hk
 ·rw[h]at hk
  exact tm7 (C.same s) ha hA hp (show HhC H' _ _ (some x)from hf) hb hv hL hk
theorem tm5(g5:G.fn "joined" 3=some (oy,[])){z o:Addr}{zs os:List V}{zl ol:List (List Nm)}{b:Nat}(g6:G.fn "left_over" 3=some (mH,[]))(C:Ct H H1 d e w l0 ls N rest P L W)(ha:H a=some (.dK (kvS (aV A))))(hA:lk (aV A) v=some (pV p))(hp:∀q,p=some q->q∈ls.map (·.1)/\q∈rest)(hb:P.length<=200)(hv:v∉L.map (·.1))(hL:L.length<=200)
  (hz:H1 z=some (.lst zs))(ho:H1 o=some (.lst os))(az:Paired (LC H1 (Bl ls w)) zs zl)(ao:Paired (LC H1 (Bl ls w)) os ol)(bz:∀l∈zl,l.length<=b)(bo:∀l∈ol,l.length<=b)(lb:b<=200)(lz:zl.length<=200)(lo:ol.length<=200)(nz:z≠w)(no:o≠w)(lw:W.length<=20000)
  (hk:∀σ H2,Ct H H2 d e w l0 ls N rest (P++jx (cM v zl ol) p) (L++[(v,(cM v zl ol).map (·.1))]) (W++gR v zl ol)->(∃y5 y6 y7 y8,σ=[some (.ref a),some (.ref r),some (.ref d),some (.ref e),some (.ref w),y5,y6,y7,y8])->D.nx σ H2):
  wpB G K E i8 D [some (.ref a),some (.ref r),some (.ref d),some (.ref e),some (.ref w),some (.str v),some (.ref z),some (.ref o),x8] H1:=by
 have ez:=az.length;have eo:=ao.length;unfold i8;walk_at "wp";refine⟨.inl ⟨rfl,C.hw.imp fun _ h=>SqL.of h.1⟩,_,_,g5,z,o,v,zs,os,zl,ol,Bl ls w,b,rfl,hz,ho,az,ao,bz,bo,by omega,by omega,lb,fun H2 l us s n h1 h2=>?_⟩;obtain⟨ws,w1,w2⟩:=(C.same s).hw;have e1:=w2.length;have e2:=h2.length;rw[ag,nY]at e2;have h3:Paired (WyC H H2 (Bl ls w)) us (gR v zl ol):=L2.Paired.gM (sA h2) fun _ _ ⟨a,k1,k2,k3⟩=>⟨a,k1,k2,C.new a k3,C.sm.free k3⟩;refine⟨w,l,ws,us,rfl,rfl,w1,h1,?_,?_⟩
 ·exact aU (show ws.length+us.length<=30000 by omega) (by decide)
 ·exact tm6 g6 ((C.same s).ext w1 h3) ha hA hp hb hv hL (by rw[aI nz];exact s _ _ hz) (by rw[aI no];exact s _ _ ho) (L2.Paired.gM az fun _ _ k=>(k.same s).upd (.inl rfl)) (L2.Paired.gM ao fun _ _ k=>(k.same s).upd (.inl rfl)) bz bo lb hk
theorem LC.nils{H2:Hp}{bl:Addr->Prop}{n:Addr}(h:H2 n=some (.lst []))(hn:¬bl n):∀k:Nat,Paired (LC H2 bl) (aO k (V.ref n)) (aO k [])
 | 0=>.nil
 |k+1=>.cons ⟨n,rfl,h,hn⟩ (LC.nils h hn k)
theorem pU{b k:Nat}:∀l∈aO k ([]:List Nm),l.length<=b:=fun l hl=>by rw[jY hl];exact aM _
theorem tm4{z o:Addr}{zs os:List V}{zl ol:List (List Nm)}{b:Nat}{ms:List (Nm×Int)}(g5:G.fn "joined" 3=some (oy,[]))(g6:G.fn "left_over" 3=some (mH,[]))(C:Ct H H1 d e w l0 ls N rest P L W)(ha:H a=some (.dK (kvS (aV A))))(hr:H r=some (.dK (kvS (mV ms))))(hA:lk (aV A) v=some (pV p))(hp:∀q,p=some q->q∈ls.map (·.1)/\q∈rest)(hb:P.length<=200)(hv:v∉L.map (·.1))(hL:L.length<=200)
  (hz:H1 z=some (.lst zs))(ho:H1 o=some (.lst os))(az:Paired (LC H1 (Bl ls w)) zs zl)(ao:Paired (LC H1 (Bl ls w)) os ol)(bz:∀l∈zl,l.length<=b)(bo:∀l∈ol,l.length<=b)(lb:b<=200)(nz:z≠w)(no:o≠w)(lw:W.length<=20000)(lz:zl.length<=101)(lo:ol.length<=101)
  (hk:∀σ H2 (h:List (List Nm)×List (List Nm)),h=(zl,if rdO ms v=some 1 then aO (zl.length+1) []else ol)->Ct H H2 d e w l0 ls N rest (P++jx (cM v h.1 h.2) p) (L++[(v,(cM v h.1 h.2).map (·.1))]) (W++gR v h.1 h.2)->(∃y5 y6 y7 y8,σ=[some (.ref a),some (.ref r),some (.ref d),some (.ref e),some (.ref w),y5,y6,y7,y8])->D.nx σ H2):
  wpB G K E i9 D [some (.ref a),some (.ref r),some (.ref d),some (.ref e),some (.ref w),some (.str v),some (.ref z),some (.ref o),x8] H1:=by
 have ez:=az.length;unfold i9;walk_at "wp";refine⟨r,rfl,.inl ⟨_,.inl (C.sm _ _ hr)⟩,_,vY v ms▸uC v (.inl (C.sm _ _ hr)),eq_oi ⟨_,rfl,?_⟩⟩;by_cases c:rdO ms v=some 1
 ·rw[if_pos (decide_eq_true c)]
  rw[if_pos c]at hk;refine zm hz (by omega) fun H2 o' n s n1 n2 h1 h2=>?_;have hw:H1 w≠none:=by obtain⟨_,h,_⟩:=C.hw;rw[h];exact fun z=>nomatch z
  rw[ez]at h1;exact tm5 g5 g6 (C.same s) ha hA hp hb hv hL (s _ _ hz) h1 (L2.Paired.gM az fun _ _ k=>k.same s) (LC.nils h2 (C.new n n2) _) bz pU lb (by omega) (by rw[eP];omega) nz (fun z=>hw (by rw[<-z];exact n1)) lw fun σ H2=>hk σ H2 _ rfl
 ·rw[if_neg (by simpa using c)]
  rw[if_neg c]at hk;exact tm5 g5 g6 C ha hA hp hb hv hL hz ho az ao bz bo lb (by omega) (by omega) nz no lw fun σ H2=>hk σ H2 _ rfl
theorem tm3{z o:Addr}{zs os:List V}{zl ol:List (List Nm)}{b:Nat}{ms:List (Nm×Int)}(g5:G.fn "joined" 3=some (oy,[]))(g6:G.fn "left_over" 3=some (mH,[]))(C:Ct H H1 d e w l0 ls N rest P L W)(ha:H a=some (.dK (kvS (aV A))))(hr:H r=some (.dK (kvS (mV ms))))(hA:lk (aV A) v=some (pV p))(hp:∀q,p=some q->q∈ls.map (·.1)/\q∈rest)(hb:P.length<=200)(hv:v∉L.map (·.1))(hL:L.length<=200)
  (hz:H1 z=some (.lst zs))(ho:H1 o=some (.lst os))(az:Paired (LC H1 (Bl ls w)) zs zl)(ao:Paired (LC H1 (Bl ls w)) os ol)(bz:∀l∈zl,l.length<=b)(bo:∀l∈ol,l.length<=b)(lb:b<=200)(nz:z≠w)(no:o≠w)(lw:W.length<=20000)(lz:zl.length<=100)(lo:ol.length<=100)
  (hk:∀σ H2 (h:List (List Nm)×List (List Nm)),h=zo2 (rdO ms v) zl ol->Ct H H2 d e w l0 ls N rest (P++jx (cM v h.1 h.2) p) (L++[(v,(cM v h.1 h.2).map (·.1))]) (W++gR v h.1 h.2)->(∃y5 y6 y7 y8,σ=[some (.ref a),some (.ref r),some (.ref d),some (.ref e),some (.ref w),y5,y6,y7,y8])->D.nx σ H2):
  wpB G K E ja D [some (.ref a),some (.ref r),some (.ref d),some (.ref e),some (.ref w),some (.str v),some (.ref z),some (.ref o),x8] H1:=by
 have eo:=ao.length;unfold ja;walk_at "wp";refine⟨r,rfl,.inl ⟨_,.inl (C.sm _ _ hr)⟩,_,vY v ms▸uC v (.inl (C.sm _ _ hr)),eq_oi ⟨_,rfl,?_⟩⟩;by_cases c:rdO ms v=some 0
 ·rw[if_pos (decide_eq_true c)]
  refine zm ho (by omega) fun H2 z' n s n1 n2 h1 h2=>?_;have hw:H1 w≠none:=by obtain⟨_,h,_⟩:=C.hw;rw[h];exact fun z=>nomatch z
  rw[eo]at h1;refine tm4 g5 g6 (C.same s) ha hr hA hp hb hv hL h1 (s _ _ ho) (LC.nils h2 (C.new n n2) _) (L2.Paired.gM ao fun _ _ k=>k.same s) pU bo lb (fun z=>hw (by rw[<-z];exact n1)) no lw (by rw[eP];omega) (by omega) ?_;intro σ H2 h e';refine hk σ H2 h ?_;rw[e',c,if_neg (by decide)];rfl
 ·rw[if_neg (by simpa using c)]
  refine tm4 g5 g6 C ha hr hA hp hb hv hL hz ho az ao bz bo lb nz no lw (by omega) (by omega) fun σ H2 h e'=>hk σ H2 h ?_;rw[e'];unfold zo2;rw[if_neg c];by_cases c1:rdO ms v=some 1
  ·rw[if_pos c1,if_pos c1]
  ·rw[if_neg c1,if_neg c1]
theorem beg_at(P:List Pn)(v:Nm)(r:Int):((at_ P v).filter fun h=>decide (h.1=r)).map (·.2)=beg P v r:=by
 unfold at_ beg;rw[List.filter_map,bK,pv];congr 1;apply qa;intro h _;show(decide (h.x=r)&&decide (h.to=v))=(decide (h.to=v)&&decide (h.x=r));rw[Bool.and_comm]
theorem tm1{ms:List (Nm×Int)}{b:Nat}{r':List Nm}(g4:G.fn "begun_at" 2=some (vv,[]))(g5:G.fn "joined" 3=some (oy,[]))(g6:G.fn "left_over" 3=some (mH,[]))(C:Ct H H1 d e w l0 ls N (v::r') P L W)(ha:H a=some (.dK (kvS (aV A))))(hr:H r=some (.dK (kvS (mV ms))))(hA:lk (aV A) v=some (pV p))(hp:∀q,p=some q->q∈ls.map (·.1)/\q∈r')(hn:v∉r')(hb:P.length<=100)(hv:v∉L.map (·.1))(hvl:v∈ls.map (·.1))(hL:L.length<=200)(lb:b<=200)(hP:∀h∈P,h.ns.length<=b)(lw:W.length<=20000)
  (hk:∀σ H2,Ct H H2 d e w l0 ls N r' (C2.step (rdO ms) ⟨P,W⟩ (v,p)).P (L++[(v,(cM v (C2.zo (rdO ms) ⟨P,W⟩ v).1 (C2.zo (rdO ms) ⟨P,W⟩ v).2).map (·.1))]) (C2.step (rdO ms) ⟨P,W⟩ (v,p)).W->(∃y5 y6 y7 y8,σ=[some (.ref a),some (.ref r),some (.ref d),some (.ref e),some (.ref w),y5,y6,y7,y8])->D.nx σ H2):
  wpB G K E (.cons (.asg (.name 6) (.call "begun_at" (.cons (.x2 .idxk (.var 2) (.var 5)) (.cons (.con (.int 0)) .nil)))) jb) D [some (.ref a),some (.ref r),some (.ref d),some (.ref e),some (.ref w),some (.str v),x6,x7,x8] H1:=by
 have hw:∀{H2:Hp}{n:Addr},aX H1 H2->H2 n=none->n≠w:=fun s h z=>by
  obtain⟨_,h',_⟩:=(C.same s).hw;rw[z,h']at h;cases h
 obtain⟨c,c1,c2⟩:=C.cm;obtain⟨u,hu,gu,hu1⟩:=c1.get hvl;have pc:Paired (HfC H1 (Bl ls w)) (c v) (at_ P v):=c2 _ hu au;have lc:=pc.length;have la:(at_ P v).length<=P.length:=by unfold at_;rw[ag];exact eQ ..
 have lbg:∀r,(beg P v r).length<=P.length:=fun r=>by unfold beg;rw[ag];exact eQ ..
 have nbg:∀r,∀l∈beg P v r,l.length<=b:=fun r l hl=>by
  obtain⟨h,hh,rfl⟩:=aH.mp hl;exact hP h (eK.mp hh).1
 have l0':=lbg 0;have l1':=lbg 1;walk_at "wp";refine⟨_,_,g4,d,_,rfl,gu,u,0,c v,at_ P v,Bl ls w,rfl,hu1,pc,by omega,fun H2 z zs s2 n2 h2 a2=>?_⟩;unfold jb;walk_at "wp";refine⟨_,_,g4,d,_,rfl,?_,u,1,c v,at_ P v,Bl ls w,rfl,s2 _ _ hu1,L2.Paired.gM pc (fun _ _ h=>h.same s2),by omega,fun H3 o os s3 n3 h3 a3=>?_⟩
 ·obtain⟨u',hu',gu',_⟩:=(c1.same (.of s2)).get hvl
  have :u'=u:=pY c1.nd hu' hu;exact this▸gu'
 rw[beg_at]at a2 a3;refine tm3 g5 g6 (C.same (s2.trans s3)) ha hr hA (fun q hq=>⟨(hp q hq).1,aF _ (hp q hq).2⟩) (by omega) hv hL (s3 _ _ h2) h3 (L2.Paired.gM a2 fun _ _ k=>k.same s3) a3 (nbg 0) (nbg 1) lb (hw (aX.refl _) n2) (hw s2 n3) lw (by omega) (by omega) ?_;rintro σ H4 h hh C4 hσ;subst hh;refine hk σ H4 ?_ hσ;have C5:=C4.drop hn;rw[fX]at C5;have es:(jx (cM v (zo2 (rdO ms v) (beg P v 0) (beg P v 1)).1 (zo2 (rdO ms v) (beg P v 0) (beg P v 1)).2) p).filter (fun h=>decide (h.to≠v))=jx (cM v (zo2 (rdO ms v) (beg P v 0) (beg P v 1)).1 (zo2 (rdO ms v) (beg P v 0) (beg P v 1)).2) p:=by
  apply List.filter_eq_self.mpr
  intro h hh;cases hl:cM v (zo2 (rdO ms v) (beg P v 0) (beg P v 1)).1 (zo2 (rdO ms v) (beg P v 0) (beg P v 1)).2 with
  |none=>rw[hl]at hh;cases hh
  |some x=>
   cases hq:p with
   |none=>rw[hl,hq]at hh;cases hh
   |some q=>
    rw[hl,hq]at hh;rw[aq.mp (show h∈[(⟨q,x.1,x.2⟩:Pn)]from hh)];exact decide_eq_true fun z=>hn (z▸(hp q hq).2)
 rw[es]at C5;exact C5
end
noncomputable def T0:C2:=⟨[],[]⟩
theorem wx(rd:Nm->Option Int)(l:List (Nm×Option Nm))(e:Nm×Option Nm)(S:C2):cW rd (l++[e]) S=(cW rd l S).step rd e:=by
 unfold cW;rw[List.foldl_append];rfl
theorem Lk.part{rd:Nm->Option Int}{r:List Nm}:∀{l:List (Nm×Option Nm)}{S2:C2}{S:Cl},Lk S2 S (l.map (·.1)++r)->(l.map (·.1)++r).Nodup->Lk (cW rd l S2) (F5.gd rd l S) r
 | [],_,_,k,_=>k
 |e::l,S2,S,k,nd=>by
  have nd':(e.1::(l.map (·.1)++r)).Nodup:=nd;rw[cb]at nd';exact Lk.part (l:=l) (Lk.step k nd'.1) nd'.2
theorem lk0(r:List Nm):Lk T0 S0 r:=⟨rfl,fun _ _=>rfl⟩
theorem B6{rd:Nm->Option Int}{S:C2}{e:Nm×Option Nm}{b c:Nat}(h1:∀h∈S.P,h.ns.length<=b)(h2:S.P.length<=c):(∀h∈(S.step rd e).P,h.ns.length<=b+1)/\(S.step rd e).P.length<=c+1:=by
 have nbg:∀r,∀l∈beg S.P e.1 r,l.length<=b:=fun r l hl=>by
  obtain⟨h,hh,rfl⟩:=aH.mp hl;exact h1 h (eK.mp hh).1
 have zb:(∀l∈(S.zo rd e.1).1,l.length<=b)/\∀l∈(S.zo rd e.1).2,l.length<=b:=by
  unfold C2.zo zo2;split
  ·exact⟨pU,nbg 1⟩
  ·split
   ·exact⟨nbg 0,pU⟩
   ·exact⟨nbg 0,nbg 1⟩
 have sb:(∀h∈jx (cM e.1 (S.zo rd e.1).1 (S.zo rd e.1).2) e.2,h.ns.length<=b+1)/\(jx (cM e.1 (S.zo rd e.1).1 (S.zo rd e.1).2) e.2).length<=1:=by
  have fin:∀(x:Int)(l:List Nm),l.length<=b->(∀h∈jx (some (x,l++[e.1])) e.2,h.ns.length<=b+1)/\(jx (some (x,l++[e.1])) e.2).length<=1:=fun x l hl=>by
   cases e.2 with
   |none=>exact⟨(fun h hh=>nomatch hh),aM _⟩
   |some q=>
    refine⟨fun h hh=>?_,ar _⟩;rw[aq.mp (show h∈[(⟨q,x,l++[e.1]⟩:Pn)]from hh)];show(l++[e.1]).length<=_;rw[aG];exact Nat.add_le_add_right hl 1
  unfold cM;split
  ·rename_i c
   exact fin 0 _ (zb.1 _ (getD_mem c))
  ·split
   ·rename_i c
    exact fin 1 _ (zb.2 _ (getD_mem c))
   ·cases e.2<;>exact⟨(fun h hh=>nomatch hh),aM _⟩
 refine⟨fun h hh=>?_,?_⟩
 ·rcases aw.mp (show h∈(S.P.filter fun h=>decide (h.to≠e.1))++jx (cM e.1 (S.zo rd e.1).1 (S.zo rd e.1).2) e.2 from hh)with hh|hh
  ·exact dJ (h1 h (eK.mp hh).1)
  ·exact sb.1 h hh
 ·show((S.P.filter fun h=>decide (h.to≠e.1))++jx (cM e.1 (S.zo rd e.1).1 (S.zo rd e.1).2) e.2).length<=_
  rw[aG];have :=eQ (fun h=>decide (h.to≠e.1)) S.P;omega
theorem qQ{rd:Nm->Option Int}:∀(l:List (Nm×Option Nm))(S:C2)(b c:Nat),(∀h∈S.P,h.ns.length<=b)->S.P.length<=c->(∀h∈(cW rd l S).P,h.ns.length<=b+l.length)/\(cW rd l S).P.length<=c+l.length
 | [],S,b,c,h1,h2=>⟨h1,h2⟩
 |e::l,S,b,c,h1,h2=>by
  obtain⟨k1,k2⟩:=B6 (rd:=rd) (e:=e) h1 h2;have ih:=qQ (rd:=rd) l (S.step rd e) (b+1) (c+1) k1 k2;rw[bj];refine⟨fun h hh=>?_,?_⟩
  ·have :=ih.1 h hh
   omega
  ·have :=ih.2
   show(cW rd l (S.step rd e)).P.length<=_;omega
theorem Lk.half_{rd:Nm->Option Int}{S2:C2}{S:Cl}{n:Nm}{r:List Nm}(k:Lk S2 S (n::r)):(cM n (S2.zo rd n).1 (S2.zo rd n).2).map (·.1)=S.half rd n:=by
 have e1:((S2.zo rd n).1.length,(S2.zo rd n).2.length)=S.zo rd n:=by
  unfold C2.zo Cl.zo;rw[yB,pZ,pZ,k.c n au]
 rw[qE,show(S2.zo rd n).1.length=(S.zo rd n).1 from congrArg Prod.fst e1,show(S2.zo rd n).2.length=(S.zo rd n).2 from congrArg Prod.snd e1];rfl
theorem Back.ahead{R:List (Nm×Option Nm)}(b:Back R):∀{k:Nat}(hk:k<R.length){q:Nm},(R[k]).2=some q->q∈(R.drop (k+1)).map (·.1):=by
 induction b with
 |nil=>intro k hk;exact absurd hk (iJ _)
 | @cons x r hp hn t ih=>
  intro k hk q h;cases k with
  |zero=>exact hp q h
  |succ k=>exact ih (Nat.lt_of_succ_lt_succ hk) h
noncomputable def B9:Sp:=fun vs H Q _=>∃(a r:Addr)(A:List (Nm×Option Nm))(ms:List (Nm×Int)),vs=[.ref a,.ref r]/\H a=some (.dK (kvS (aV A)))/\H r=some (.dK (kvS (mV ms)))/\Back A.reverse/\(A.map (·.1)).Nodup/\A.length<=63/\
 ∀H' p e w ws,aX H H'->H p=none->H' p=some (.tup [.ref e,.ref w])->H' e=some (.dK (kvS (oV (lv (rdO ms) A.reverse))))->H' w=some (.lst ws)->H w=none->Paired (fun y (x:Wy)=>∃a,y=V.ref a/\H' a=some (.lst (x.names.map V.str))/\H a=none) ws (cW (rdO ms) A.reverse T0).W->Q (.ref p) H'
theorem BA{G:Gam}{K:aa}{E:XS}{D:Ends}{Q:VK}(g4:G.fn "begun_at" 2=some (vv,[]))(g5:G.fn "joined" 3=some (oy,[]))(g6:G.fn "left_over" 3=some (mH,[])){H H1:Hp}{a r d:Addr}{A:List (Nm×Option Nm)}{ms:List (Nm×Int)}{ls:List (Nm×Addr)}(ha:H a=some (.dK (kvS (aV A))))(hr:H r=some (.dK (kvS (mV ms))))(bk:Back A.reverse)(nd:(A.map (·.1)).Nodup)(l1:A.length<=63)
  (s1:aX H H1)(hd:H1 d=some (.dK (kvS (refs ls))))(ks:ls.map (·.1)=A.map (·.1))(na:(ls.map (·.2)).Nodup)(at_:∀q∈ls,H1 q.2=some (.lst [])/\H q.2=none)(hD:D.rt=Q)
  (q:∀H' p e w ws,aX H H'->H p=none->H' p=some (.tup [.ref e,.ref w])->H' e=some (.dK (kvS (oV (lv (rdO ms) A.reverse))))->H' w=some (.lst ws)->H w=none->Paired (fun y (x:Wy)=>∃a,y=V.ref a/\H' a=some (.lst (x.names.map V.str))/\H a=none) ws (cW (rdO ms) A.reverse T0).W->Q (.ref p) H'):
  wpB G K E kM D [some (.ref a),some (.ref r),some (.ref d),none,none,none,none,none,none] H1:=by
 unfold kM;walk_at "wp";refine .inl ⟨trivial,fun e he=>?_⟩;unfold pj;walk_at "wp";refine⟨aM _,fun w hw=>?_⟩;unfold ph;walk_at "wp";have s2:=(aB (o:=.dK []) he).trans (aB (o:=.lst []) hw);have hkl:(kvS (aV A)).length=A.length:=by unfold kvS aV;rw[ag,ag]
 have hkv:(kvS (aV A)).map (fun kv=>kV kv.1)=(A.map (·.1)).map V.str:=by unfold kvS aV;rw[bK,bK,bK];rfl
 refine gO ⟨.ref a,rfl,a,_,rfl,.inl (s2 _ _ (s1 _ _ ha)),fun l0 hl0=>?_⟩;rw[hkv];have s3:=s2.trans (aB (o:=.lst ((A.map (·.1)).map V.str)) hl0);have hd0:d≠e:=bg hd he;have mem:∀q∈ls,∀{n:Addr},H1 n=none->q.2≠n:=fun q hq n hn=>bg (at_ q hq).1 hn;have hw1:H1 w=none:=(aB he).free hw;have hl1:H1 l0=none:=s2.free hl0;have el:e≠l0:=fun z=>by rw[<-z,aI (bg av hw),av]at hl0;cases hl0
 have wl:w≠l0:=fun z=>by rw[<-z,av]at hl0;cases hl0
 have C0:Ct H (upd (upd (upd H1 e (.dK [])) w (.lst [])) l0 (.lst ((A.map (·.1)).map V.str))) d e w l0 ls ((A.map (·.1)).map V.str) (A.reverse.map (·.1)) T0.P (lv (rdO ms) []) T0.W:=by
  refine⟨s1.trans s3,s3 _ _ hd,⟨fun _=>[],⟨.inl (s3 _ _ hd),ks▸nd,na,fun q hq=>s3 _ _ (at_ q hq).1⟩,fun q hq _=>.nil⟩,?_,⟨[],?_,.nil⟩,av,?_,s1.free he,?_,?_,hd0⟩
  ·rw[aI el,aI (bg av hw),av]
   rfl
  ·rw[aI wl,av]
  ·rintro(z|z)
   ·exact wl z.symm
   ·obtain⟨q,hq,z⟩:=aH.mp z
    exact mem q hq hl1 z
  ·rintro n (rfl|z)
   ·exact s1.free hw1
   ·obtain⟨q,hq,rfl⟩:=aH.mp z
    exact(at_ q hq).2
  ·intro z
   obtain⟨q,hq,z⟩:=aH.mp z;exact mem q hq hw1 z
 have nd':(A.reverse.map (·.1)).Nodup:=by rw[cH];exact(gv _).nodup_iff.mpr nd
 refine⟨l0,_,rfl,SqL.of av,fh seq_rev (fun k σ H'=>Ct H H' d e w l0 ls ((A.map (·.1)).map V.str) ((A.reverse.drop k).map (·.1)) (cW (rdO ms) (A.reverse.take k) T0).P (lv (rdO ms) (A.reverse.take k)) (cW (rdO ms) (A.reverse.take k) T0).W/\∃y5 y6 y7 y8,σ=[some (.ref a),some (.ref r),some (.ref d),some (.ref e),some (.ref w),y5,y6,y7,y8])
  ⟨C0,_,_,_,_,rfl⟩ (fun k σ H' _ s=>SqL.of s.1.h0) ?_ ?_⟩
 ·rintro k x σ H2 H3 D2 hk ⟨C,y5,y6,y7,y8,rfl⟩ hx s4 hD2 _
  rw[ag,ag]at hk;have hkR:k<A.reverse.length:=by rw[dk];exact hk
  have hx':x=.str (A.reverse[k]).1:=by
   rw[<-cH,<-cH,aZ,aZ,ai hkR]at hx;cases hx;rfl
  subst hx';have hm:A.reverse[k]∈A:=fi.mp (du hkR);have hrl:(A.reverse.take k).length=k:=by rw[bb];omega
  have ed:(A.reverse.drop k).map (·.1)=(A.reverse[k]).1::(A.reverse.drop (k+1)).map (·.1):=by rw[List.drop_eq_getElem_cons hkR,aN]
  have es:(A.reverse.take k).map (·.1)++(A.reverse.drop k).map (·.1)=A.reverse.map (·.1):=by rw[<-aD,gQ]
  have lk1:Lk (cW (rdO ms) (A.reverse.take k) T0) (F5.gd (rdO ms) (A.reverse.take k) S0) ((A.reverse.drop k).map (·.1)):=Lk.part (lk0 _) (es▸nd');have bnd:=qQ (rd:=rdO ms) (A.reverse.take k) T0 0 0 (fun h hh=>nomatch hh) (ar _);rw[hrl]at bnd;rw[ed]at C lk1;have ndk:(A.reverse[k]).1∉(A.reverse.drop (k+1)).map (·.1):=fun z=>by
   have h1:=es▸nd';rw[ed,cf]at h1;exact(cb.mp h1.2.1).1 z
  refine tm1 (p:=(A.reverse[k]).2) (b:=k) g4 g5 g6 (C.same s4) ha hr (l6 (by rw[pX];exact nd) (aH.mpr ⟨_,hm,rfl⟩)) (fun q h=>?_) ndk (by omega) ?_ ?_ ?_ (by omega) (fun h hh=>by have :=bnd.1 h hh;omega) ?_ ?_
  ·refine⟨by rw[ks];exact mT.mp (bk.mem (du hkR) h),?_⟩
   exact bk.ahead hkR h
  ·rw[kQ]
   intro z;have h1:=es▸nd';rw[ed,cf]at h1;exact h1.2.2 _ z _ au rfl
  ·rw[ks]
   exact bS hm
  ·have :=congrArg jK (kQ (rdO ms) (A.reverse.take k))
   rw[ag,ag]at this;omega
  ·have :=w_le (rdO ms) (A.reverse.take k) S0 0 63 (fun _=>aM _) (by omega)
   rw[hrl]at this;have h0:S0.w=0:=rfl;rw[lk1.w];omega
  ·rintro σ H4 C4 hσ
   refine hD2 _ _ ⟨?_,hσ⟩;have et:A.reverse.take (k+1)=A.reverse.take k++[A.reverse[k]]:=by rw[bM,ai hkR];rfl
   have hh:(cM (A.reverse[k]).1 (C2.zo (rdO ms) (cW (rdO ms) (A.reverse.take k) T0) (A.reverse[k]).1).1 (C2.zo (rdO ms) (cW (rdO ms) (A.reverse.take k) T0) (A.reverse[k]).1).2).map (·.1)=(F5.gd (rdO ms) (A.reverse.take k) S0).half (rdO ms) (A.reverse[k]).1:=lk1.half_;rw[et,wx,lv_snoc,<-hh];exact C4
 ·rintro σ H2 ⟨C,y5,y6,y7,y8,rfl⟩
  rw[ag,ag,<-dk,bY]at C;unfold pf;walk_at "wp";obtain⟨ws,w1,w2⟩:=C.hw;refine⟨(by show 2<=sizeLine;decide),fun p hp=>?_⟩;rw[hD];exact q _ p e w ws (C.sm.trans (aB hp)) (C.sm.free hp) av (aB hp _ _ C.he) (aB hp _ _ w1) (C.nb w (.inl rfl)) (L2.Paired.gM w2 fun _ _ ⟨a,k1,k2,_,k3⟩=>⟨a,k1,aB hp _ _ k2,k3⟩)
theorem wp_clC{G:Gam}{K:aa}(g4:G.fn "begun_at" 2=some (vv,[]))(g5:G.fn "joined" 3=some (oy,[]))(g6:G.fn "left_over" 3=some (mH,[])):Sat G K B9 tz sJ:=by
 rintro vs H Q E ⟨a,r,A,ms,rfl,ha,hr,bk,nd,l1,q⟩;unfold tz;change wpB G K _ _ _ [some (.ref a),some (.ref r),none,none,none,none,none,none,none] H;have hkl:(kvS (aV A)).length=A.length:=by unfold kvS aV;rw[ag,ag]
 walk_at "wp"
 refine⟨a,_,ha,gU ⟨_,rfl,a,_,rfl,.inl ⟨ha,fun o=>?_⟩⟩⟩;refine Ee Cf (ix (by omega)) (fun H4 s4=>s4 _ _ av) (fun i acc H'=>∃ls,Nw H H' (A.take i) acc ls) (fun i a H H' s ⟨ls,h⟩=>⟨ls,h.same s⟩) (fun τ=>∃t,τ=[t]) ⟨none,rfl⟩ ⟨[],rfl,cA,.nil,fun q hq=>nomatch hq⟩ ?_ ?_
 ·rintro i x τ acc H3 R hi ⟨t,rfl⟩ s3 ⟨k,v,hk,rfl⟩ ⟨ls,w⟩ kk
  walk_at "wp"
  obtain⟨e,he,rfl,_⟩:=aV_at hk;refine⟨aM _,fun p hp=>⟨(by show 2<=sizeLine;decide),fun p1 h1=>?_⟩⟩;have s4:=(aB (o:=.lst []) hp).trans (aB (o:=.tup [kV (.inr e.1),.ref p]) h1);refine kk _ _ _ ⟨_,rfl⟩ s4 ⟨ls++[(e.1,p)],?_,?_,qm ⟨p1,rfl,av⟩ (w.same s4).pr,fun q hq=>?_⟩
  ·rw[aD,w.ks,bM,he,aD]
   rfl
  ·rw[aD,cf]
   refine⟨w.na,by simp,fun x hx y hy z=>?_⟩;cases aq.mp hy;obtain⟨q,hq,rfl⟩:=aH.mp hx;exact bg (w.at_ q hq).1 hp z
  ·rcases aw.mp hq with hq|hq
   ·exact(w.same s4).at_ q hq
   ·cases aq.mp hq
    exact⟨aB h1 _ _ av,(nN ha s3 hp).1⟩
 ·rintro vs H2 l ⟨ls,w⟩ s2 n2
  rw[hkl,bY]at w;obtain⟨n3,n4⟩:=nN ha s2 n2;have s3:=sy ha (s2.trans (aB (o:=.lst vs) n2));have na:∀q∈ls,q.2≠a:=fun q hq z=>by
   have :=(w.at_ q hq).2
   rw[z,ha]at this;cases this
  refine⟨o,by rw[aI n4.symm];exact s2 _ _ av,l,vs,kvS (refs ls),rfl,by rw[aI n4,av],?_,?_,fun d hd=>?_⟩
  ·unfold kvS refs
   rw[bK];refine pT ?_;refine L2.Paired.gM w.pr fun y q ⟨p,e,z⟩=>⟨p,e,?_⟩;rw[aI (fun c=>by have :=s2 _ _ (av (H:=H) (a:=a));rw[<-c,z]at this;cases this)];exact aB n2 _ _ z
  ·unfold kvS refs
   rw[bK,bK];have :(ls.map (·.1)).Nodup:=w.ks▸nd;have e:(ls.map (((fun x=>x.fst)∘fun q=>((dg q.1:Key),q.2))∘fun q=>(q.1,V.ref q.2)))=(ls.map (·.1)).map dg:=by rw[bK];rfl
   rw[e];exact Av this
  ·refine BA g4 g5 g6 ha hr bk nd l1 (s3.trans (aB hd)) av w.ks w.na (fun q hq=>⟨aB hd _ _ ?_,(w.at_ q hq).2⟩) rfl q
   rw[aI (na q hq)];exact aB n2 _ _ (w.at_ q hq).1
noncomputable def ahO(A:List (Nm×Option Nm))(v:Nm):Option Nm:=((A.find? fun e=>decide (e.1=v)).map (·.2)).join
theorem ahO_of{A:List (Nm×Option Nm)}(nd:(A.map (·.1)).Nodup){e:Nm×Option Nm}(h:e∈A):ahO A e.1=e.2:=by
 unfold ahO;cases c:A.find? fun x=>decide (x.1=e.1)with
 |none=>
  have :=List.find?_eq_none.mp c e h
  simp at this
 |some x=>
  have h0:=tJ c;have h1:x.1=e.1:=of_decide_eq_true h0;have h2:=jv c;have :x.2=e.2:=pY nd (show(e.1,x.2)∈A from h1▸h2) h;show(some x.2).join=_;rw[this];cases e.2<;>rfl
theorem p0{A:List (Nm×Option Nm)}{v q:Nm}(h:ahO A v=some q):(v,some q)∈A:=by
 unfold ahO at h;cases c:A.find? fun x=>decide (x.1=v)with
 |none=>rw[c]at h;cases h
 |some x=>
  rw[c]at h;have h0:=tJ c;have h1:x.1=v:=of_decide_eq_true h0;have h2:=jv c;have h3:x.2=some q:=by
   cases hx:x.2 with
   |none=>rw[show(some x).map (·.2)=some x.2 from rfl,hx]at h;cases h
   |some z=>rw[show(some x).map (·.2)=some x.2 from rfl,hx]at h;cases h;rfl
  rw[<-h1,<-h3];exact h2
theorem iF.adj_{F:List (Nm×Nm)}{A:List (Nm×Option Nm)}(g:iF F A):∀v q,(v,some q)∈A->v∈adj F q:=by
 induction g with
 |one s=>intro v q h;cases aq.mp h
 |more g hq hv he ih=>
  intro v q h;rcases aw.mp h with h|h
  ·exact ih v q h
  ·cases aq.mp h
   exact he
theorem iF.acy{F:List (Nm×Nm)}{A:List (Nm×Option Nm)}(g:iF F A):∀u v,ahO A u=some v->ahO A v≠some u:=fun u v h1 h2=>by
 have nd:=g.nd;obtain⟨i,hi,ei⟩:=aT.mp (p0 h1);obtain⟨j,hj,ej⟩:=aT.mp (p0 h2);have pos:∀{k l:Nat}(hk:k<A.length)(hl:l<A.length){q:Nm},(A[k]).2=some q->(A[l]).1=q->l<k:=fun{k l} hk hl {q} e1 e2=>by
  obtain⟨m,hm,em⟩:=aT.mp (g.up k _ q (ai hk) e1);rw[ag,bb]at hm;rw[bL,gy]at em;have :(A.map (·.1))[m]'(by rw[ag];omega)=(A.map (·.1))[l]'(by rw[ag];exact hl):=by rw[bL,bL,em,e2]
  have :=(cc nd).mp this
  omega
 have a:=pos hi hj (by rw[ei]) (by rw[ej]);have b:=pos hj hi (by rw[ej]) (by rw[ei]);omega
structure Wys(F:List (Nm×Nm))(ms:List (Nm×Int))(W:List (List Nm)):Prop where
 hd:∀w∈W,rdO ms (w.headD "")=some 0
 lst:∀w∈W,rdO ms (w.getLastD "")=some 1
 two:∀w∈W,2<=w.length
 adj:∀p∈W.flatMap prs,p.2∈F5.adj F p.1
 un:(W.flatMap prs).Pairwise fun p q=>p≠q/\swap p≠q
theorem wys_of{F:List (Nm×Nm)}{A:List (Nm×Option Nm)}{ms:List (Nm×Int)}(g:iF F A):Wys F ms ((cW (rdO ms) A.reverse T0).W.map Wy.names):=by
 have nd:=g.nd;have ok:WOk (ahO A) (rdO ms) (cW (rdO ms) A.reverse T0):=tf (fun e he=>ahO_of nd (fi.mp he)) ⟨fun h hh=>(bA hh).elim,fun w hw=>(bA hw).elim⟩;have cnt:∀v,cw v (cW (rdO ms) A.reverse T0).W<=1:=fun v=>by
  have h1:=qP (rd:=rdO ms) v A.reverse T0;have h2:(A.reverse.map (·.1)).count v<=1:=List.nodup_iff_count.mp (by rw[cH];exact(gv _).nodup_iff.mpr nd) v;have h3:cl v (T0.P.map (·.ns))+cw v T0.W=0:=rfl;omega
 obtain⟨k1,k2⟩:=ways_ok g.acy ok.w cnt;have ef:((cW (rdO ms) A.reverse T0).W.map Wy.names).flatMap prs=(cW (rdO ms) A.reverse T0).W.flatMap fun w=>prs w.names:=by rw[List.flatMap_map]
 have hh:∀w∈(cW (rdO ms) A.reverse T0).W,rdO ms (w.names.headD "")=some 0/\rdO ms (w.names.getLastD "")=some 1:=fun w hw=>by
  obtain⟨a,b⟩:=ok.w w hw;have e1:w.names.headD ""=w.z.headD w.n:=by unfold Wy.names;cases w.z<;>rfl
  have e2:w.names.getLastD ""=w.o.headD w.n:=by
   unfold Wy.names;cases w.o with
   |nil=>simp
   |cons x o=>
    rw[jJ,<-df,Bt];rfl
  rw[e1,e2];exact⟨a.hd,b.hd⟩
 refine⟨fun w hw=>?_,fun w hw=>?_,fun w hw=>?_,fun p hp=>?_,by rw[ef];exact k2⟩
 ·obtain⟨x,hx,rfl⟩:=aH.mp hw
  exact(hh x hx).1
 ·obtain⟨x,hx,rfl⟩:=aH.mp hw
  exact(hh x hx).2
 ·obtain⟨x,hx,rfl⟩:=aH.mp hw
  obtain⟨a,b⟩:=hh x hx;cases c:x.names with
  |nil=>rw[show x.names=x.z++[x.n]++x.o.reverse from rfl]at c;simp at c
  |cons u l=>
   cases l with
   |nil=>rw[c]at a b;rw[show([u]:List Nm).headD ""=u from rfl]at a;rw[show([u]:List Nm).getLastD ""=u from rfl,a]at b;cases b
   |cons v l=>rw[bj,bj];omega
 ·rw[ef]at hp
  rcases k1 p hp with h|h
  ·have :=g.adj_ _ _ (p0 h)
   exact iN.mpr ((iN.mp this).symm)
  ·exact g.adj_ _ _ (p0 h)
noncomputable def B8:Sp:=fun vs H Q _=>∃(f r:Addr)(al:V)(ys:List V)(F:List (Nm×Nm))(ws:List Nm)(ms:List (Nm×Int)),vs=[.ref f,.ref r,al]/\Good H f al ys F ws/\H r=some (.dK (kvS (mV ms)))/\(∀q∈ms,q.1∈ws/\(q.2=0\/q.2=1))/\(ms.map (·.1)).Nodup/\
 ∀H' p t w Ts wys,aX H H'->H p=none->H' p=some (.tup [.ref t,.ref w])->H' t=some (.dK (kvS (mV Ts)))->H' w=some (.lst wys)->Few F ws ms Ts wys.length->H t=none->H w=none->(∃W,Paired (WC H H') wys W/\Wys F ms W)->Q (.ref p) H'
theorem wp_fwC{G:Gam}{K:aa}(g1:G.fn "frame_list" 2=some (spFl,[]))(g2:G.fn "is_read" 2=some (spIr,[]))(g3:G.fn "neighbours" 2=some (spNb,[]))(g4:G.fn "reached" 1=some (spRe,[]))(g5:G.fn "climbed" 2=some (B9,[]))(g6:G.fn "settled" 2=some (spSe,[])):Sat G K B8 wL vT:=by
 rintro vs H Q E ⟨f,r,al,ys,F,ws,ms,rfl,g,hr,hm,nm,q⟩;have hle:=g.le;have n63:=g.n63;have lm:ms.length<=63:=by
  have :=hJ nm (m:=ws) fun v hv=>by obtain⟨q,hq,rfl⟩:=aH.mp hv;exact(hm q hq).1
  rw[ag]at this;omega
 unfold wL;change wpB G K _ _ _ [some (.ref f),some (.ref r),some al,none,none,none] H;walk_at "wp";refine⟨_,_,g1,f,al,ys,F,ws,rfl,g,fun H1 n ns s1 n1 h1 rs=>?_⟩;have t':=g.t.names rs.nd rs.mem;have nl:ns.length<=63:=by
  have :=hJ rs.nd fun v hv=>(rs.mem v).mp hv
  omega
 unfold rm;walk_at "wp";refine⟨_,_,g2,r,n,ms,ns,rfl,s1 _ _ hr,h1,(fun q hq=>⟨(rs.mem _).mpr (hm q hq).1,(hm q hq).2⟩),(fun v hv=>g.nm v ((rs.mem v).mp hv)),by omega,by omega,fun H2 s2=>⟨_,rfl,?_⟩⟩;rw[if_neg (by decide)];unfold rl;walk_at "wp";refine⟨_,_,g4,_,_,g3,n,f,ns,ys,F,rfl,s2 _ _ h1,g.fr.same (s1.trans s2),rs.nd,t'.sub,by omega,by omega,fun H3 d ls s3 n3 h3 b e3=>?_⟩;refine⟨d,ls,F,rfl,b,?_,?_,?_,by omega,fun H4 a A s4 n4 h4 fd=>?_⟩
 ·intro z
  have :=t'.len
  rw[z]at e3;rw[<-e3]at this;cases this
 ·rw[e3]
  exact t'.sub
 ·have :=congrArg jK e3
  rw[ag]at this;omega
 have s5:=((s1.trans s2).trans s3).trans s4;have lA:A.length<=63:=by
  have :=hJ fd.g.nd fd.sub
  rw[e3,ag]at this;omega
 unfold rj;walk_at "wp";refine⟨_,_,g5,a,r,A,ms,rfl,h4,s5 _ _ hr,fd.g.back,fd.g.nd,lA,fun H5 p e w wys s6 n6 h6 he hw nw wp=>?_⟩;unfold rh;walk_at "wp";have nL:((lv (rdO ms) A.reverse).map (·.1)).Nodup:=by rw[kQ,cH];exact(gv _).nodup_iff.mpr fd.g.nd
 refine⟨_,_,g6,.inr (.inl ⟨p,_,0,_,rfl,rfl,SqT.of h6,rfl,?_⟩)⟩;refine⟨a,e,A,_,rfl,s6 _ _ h4,he,fd.g.nd,nL,(fun v hv=>by rw[kQ];exact mT.mpr hv),(fun u hu x hx=>?_),fd.g.up,by omega,fun H6 t Ts s7 n7 h7 S=>?_⟩
 ·obtain⟨S',e2⟩:=mf hu
  rw[hx]at e2;exact half_01 e2.symm
 refine .inr (.inl ⟨p,_,1,_,rfl,rfl,SqT.of (s7 _ _ h6),rfl,(by show 2<=sizeLine;decide),fun p2 n2=>?_⟩);have s8:=(s5.trans s6).trans s7;refine q _ p2 t w Ts wys (s8.trans (aB n2)) (s8.free n2) av (aB n2 _ _ h7) (aB n2 _ _ (s7 _ _ hw)) ?_ ?_ ?_ ⟨_,pT (L2.Paired.gM wp fun _ _ ⟨b,k1,k2,k3⟩=>⟨b,k1,aB n2 _ _ (s7 _ _ k2),s5.free k3⟩),wys_of fd.g⟩
 ·have ew:wys.length=(gd (rdO ms) A.reverse S0).w:=by
   have nd':(A.reverse.map (·.1)).Nodup:=by rw[cH];exact(gv _).nodup_iff.mpr fd.g.nd
   rw[wp.length];exact(Lk.gd (rd:=rdO ms) (lk0 _) nd').w
  rw[ew];exact few_of g.t fd (fun v=>by rw[e3];exact rs.mem v) hm nm S
 ·exact(s5.trans s6).free n7
 ·exact s5.free nw
end F5
namespace F5
open PySem R
noncomputable def nV:List Str:=["_law_found"]
noncomputable def ji:List Str:=["_law_found"]
noncomputable def jq:CB:=
  (.cons (.ret (.and (.bfn .isinstance (.cons (.var 0) (.cons (.ty .int) .nil))) (.and (.not (.bfn .isinstance (.cons (.var 0) (.cons (.ty .bool) .nil)))) (.and (.cmp .LtE (.con (.int 0)) (.var 0)) (.cmp .LtE (.var 0) (.con (.int 1)))))))
  .nil)
noncomputable def ue:List Str:=["_law_frame_here"]
noncomputable def mQ:List Str:=["_law_frame_here","_law_next_ones","_law_one","_law_other"]
noncomputable def kJ:CB:=
  (.cons (.ret (.var 1))
  .nil)
noncomputable def jr:CB:=
  (.cons (.expr (.meth1 .append (.setk (.var 1) (.var 3) (.lst .nil)) (.var 2)))
  .nil)
noncomputable def kK:CB:=
  (.cons (.forr (.tup (.cons (.name 2) (.cons (.name 3) .nil))) (.seq (.var 0))
  (.cons (.expr (.meth1 .append (.setk (.var 1) (.var 2) (.lst .nil)) (.var 3)))
  jr))
  kJ)
noncomputable def nh:CB:=
  (.cons (.asg (.name 1) (.dic .nil))
  kK)
noncomputable def ud:List Str:=["_law_way","_law_marked","_law_next_ones","_law_walked_ones"]
noncomputable def mP:List Str:=["_law_way","_law_marked","_law_next_ones","_law_walked_ones","_law_one","_law_other"]
noncomputable def kG:CB:=
  (.cons (.ret (.con (.bool true)))
  .nil)
noncomputable def jo:CB:=
  (.cons (.putk (.var 3) (.tup (.cons (.var 5) (.cons (.var 4) .nil))) (.con (.bool true)))
  .nil)
noncomputable def gj:CB:=
  (.cons (.putk (.var 3) (.tup (.cons (.var 4) (.cons (.var 5) .nil))) (.con (.bool true)))
  jo)
noncomputable def kH:CB:=
  (.cons (.forr (.tup (.cons (.name 4) (.cons (.name 5) .nil))) (.zip (.var 0) (.cut (.var 0) (.yes (.con (.int 1))) .no))
  (.cons (.iff (.or (.cmp .NotIn (.var 5) (.get2 (.var 2) (.var 4) (.lst .nil))) (.x2 .ink (.tup (.cons (.var 4) (.cons (.var 5) .nil))) (.var 3)))
  (.cons (.ret (.con (.bool false)))
  .nil)
  .nil)
  gj))
  kG)
noncomputable def m6:CB:=
  (.cons (.iff (.or (.not (.bfn .isinstance (.cons (.var 0) (.cons (.ty .list) .nil)))) (.or (.cmp .Lt (.bfn .len (.cons (.var 0) .nil)) (.con (.int 2))) (.or (.cmp .NotEq (.x2 .getk (.var 1) (.idx (.var 0) (.con (.int 0)))) (.con (.int 0))) (.cmp .NotEq (.x2 .getk (.var 1) (.idx (.var 0) (.un .USub (.con (.int 1))))) (.con (.int 1))))))
  (.cons (.ret (.con (.bool false)))
  .nil)
  .nil)
  kH)
noncomputable def rQ:List Str:=["_law_told","_law_names_here","_law_marked"]
noncomputable def lu:List Str:=["_law_told","_law_names_here","_law_marked","_law_name_here"]
noncomputable def jR:CB:=
  (.cons (.ret (.con (.bool true)))
  .nil)
noncomputable def jS:CB:=
  (.cons (.forr (.name 3) (.seq (.var 1))
  (.cons (.iff (.or (.not (.call "_law_is_reading" (.cons (.x2 .idxk (.var 0) (.var 3)) .nil))) (.cmp .NotEq (.x2 .idxk (.var 0) (.var 3)) (.get2 (.var 2) (.var 3) (.x2 .idxk (.var 0) (.var 3)))))
  (.cons (.ret (.con (.bool false)))
  .nil)
  .nil)
  .nil))
  jR)
noncomputable def lI:CB:=
  (.cons (.iff (.or (.not (.bfn .isinstance (.cons (.var 0) (.cons (.ty .dict) .nil)))) (.cmp .NotEq (.bfn .sortk (.cons (.var 0) .nil)) (.bfn .sorted (.cons (.var 1) .nil))))
  (.cons (.ret (.con (.bool false)))
  .nil)
  .nil)
  jS)
end F5
namespace F5
open PySem PySem.Spec PyProof.Rows L2 R Cp Kc Lt
noncomputable def spLr:Sp:=fun vs H Q _=>∃x:Int,vs=[.int x]/\(x=0\/x=1)/\Q (.bl true) H
theorem wp_lr{G:Gam}{K:aa}:Sat G K spLr jq ji:=by
 rintro vs H Q E ⟨x,rfl,hx,q⟩;unfold jq;change wpB G K _ _ _ [some (.int x)] H;walk_at "wp";refine isi xY .int ⟨_,rfl,?_⟩;rw[if_pos (show ke (tyName H (.int x)) (Ty.t .int)=true from rfl)];refine isi xY .bool ⟨_,rfl,?_⟩;rw[if_pos (show(!ke (tyName H (.int x)) (Ty.t .bool))=true from rfl),if_pos (decide_eq_true (by omega)),decide_eq_true (by omega)];exact q
noncomputable def spBs:Sp:=fun vs H Q _=>∃(f:Addr)(ys:List V)(F:List (Nm×Nm)),vs=[.ref f]/\Frm H f ys F/\F.length<=100/\
 ∀H' d ls,aX H H'->H d=none->H' d=some (.dK (kvS (ls.map fun q=>(q.1,V.ref q.2))))->Bes H' d ls (iD F)->(∀v,v∈ls.map (·.1)↔v∈ends F)->Q (.ref d) H'
structure Bsd(H0 H:Hp)(d:Addr)(ls:List (Nm×Addr))(c:Nm->List V):Prop where
 s:aX H0 H
 nd:H0 d=none
 hd:H d=some (.dK (kvS (ls.map fun q=>(q.1,V.ref q.2))))
 b:Bes H d ls c
 new:∀q∈ls,H0 q.2=none
 out:∀v,v∉ls.map (·.1)->c v=[]
theorem Bsd.same{H0 H H':Hp}{d:Addr}{ls:List (Nm×Addr)}{c:Nm->List V}(B:Bsd H0 H d ls c)(s:aX H H'):Bsd H0 H' d ls c:=⟨B.s.trans s,B.nd,s _ _ B.hd,B.b.same (.of s),B.new,B.out⟩
theorem Bsd.congr{H0 H:Hp}{d:Addr}{ls:List (Nm×Addr)}{c c':Nm->List V}(B:Bsd H0 H d ls c)(h:c=c'):Bsd H0 H d ls c':=h▸B
theorem Bsd.step{K:aa}{H0 H:Hp}{d:Addr}{ls:List (Nm×Addr)}{c:Nm->List V}(B:Bsd H0 H d ls c){v:Nm}{x:V}(l1:ls.length<=500)(l2:(c v).length<=500){Q:VK}
  (q:∀H' ls',Bsd H0 H' d ls' (fun w=>if w=v then c v++[x]else c w)->(∀w,w∈ls'.map (·.1)↔w∈ls.map (·.1)\/w=v)->ls'.length<=ls.length+1->Q .non H'){i j k:Nat}{σ:L2.St}(h1:σ[i]? =some (some (.ref d)))(h2:σ[j]? =some (some (.str v)))(h3:σ[k]? =some (some x)):
  tBM K "list" (rMm .append) (tBM K "dict" CF (mG i) (gz (mG j) (gz (tLst lZ) lZ))) (gz (mG k) lZ) σ H Q:=by
 refine⟨_,h1,.inr (.inr (.inl ⟨rfl,.inl ⟨_,B.hd⟩⟩)),_,h2,aM _,fun p hp=>?_⟩;have s1:aX H (upd H p (.lst [])):=aB hp;have B1:=B.same s1;refine⟨d,_,.inr v,_,rfl,rfl,B1.hd,?_,fun z hz=>?_,fun hn=>?_⟩
 ·unfold kvS
  rw[ag,ag];exact l8 (by omega)
 ·rw[pN]at hz
  have hv:v∈ls.map (·.1):=by
   by_cases c:v∈ls.map (·.1)
   ·exact c
   ·rw[yZ (by rw[hU];exact c)]at hz
    cases hz
  obtain⟨a,ha,_,ea⟩:=B1.b.get hv;rw[l6 (by rw[hU];exact B.b.nd) (aH.mpr ⟨_,ha,rfl⟩)]at hz;cases hz;refine⟨.inl ⟨rfl,_,SqL.of ea⟩,_,h3,a,_,_,rfl,rfl,ea,l8 (by omega),?_⟩;have hda:d≠a:=d5 B1.hd ea (by intro z;cases z);refine q _ ls ⟨cg B1.s (B.new _ ha),B.nd,by rw[aI hda];exact B1.hd,B1.b.app ha,B.new,fun w hw=>?_⟩ (fun w=>⟨.inl,fun h=>h.elim id fun z=>z▸hv⟩) (eE _);rw[if_neg fun z:w=v=>hw (z▸hv)];exact B.out w hw
 ·rw[pN]at hn
  have hv:v∉ls.map (·.1):=fun c=>by
   obtain⟨a,ha,_,ea⟩:=B1.b.get c;rw[l6 (by rw[hU];exact B.b.nd) (aH.mpr ⟨_,ha,rfl⟩)]at hn;cases hn
  have hdp:d≠p:=bg B.hd hp;rw[yP (by rw[hU];exact hv)];have e4:(ls.map fun q=>(q.1,V.ref q.2))++[(v,V.ref p)]=(ls++[(v,p)]).map fun q=>(q.1,V.ref q.2):=by rw[aD];rfl
  rw[e4];have hp2:upd (upd H p (.lst [])) d (.dK (kvS ((ls++[(v,p)]).map fun q=>(q.1,V.ref q.2)))) p=some (.lst []):=by rw[aI hdp.symm,av]
  refine⟨.inl ⟨rfl,_,SqL.of hp2⟩,_,h3,p,_,_,rfl,rfl,hp2,by decide,?_⟩;have hpf:∀q∈ls,q.2≠p:=fun q hq=>bg (B.b.at_ q hq) hp;have hpd:∀q∈ls,q.2≠d:=fun q hq=>d5 (B.b.at_ q hq) B.hd (fun z=>nomatch z);have hd3:upd (upd (upd H p (.lst [])) d (.dK (kvS ((ls++[(v,p)]).map fun q=>(q.1,V.ref q.2))))) p (.lst ([]++[x])) d=some (.dK (kvS ((ls++[(v,p)]).map fun q=>(q.1,V.ref q.2)))):=by rw[aI hdp,av]
  have cv:c v=[]:=B.out v hv;refine q _ (ls++[(v,p)]) ⟨cg (cg (cg B.s (B.s.free hp)) B.nd) (B.s.free hp),B.nd,hd3,⟨.inl hd3,?_,?_,fun q hq=>?_⟩,fun q hq=>?_,fun w hw=>?_⟩ (fun w=>?_) (by rw[aG];exact ar _)
  ·rw[aD,cf]
   refine⟨B.b.nd,by simp,fun a ha b hb z=>?_⟩;have :b=v:=aq.mp hb;subst this z;exact hv ha
  ·rw[aD,cf]
   refine⟨B.b.na,by simp,fun a ha b hb z=>?_⟩;have :b=p:=aq.mp hb;subst this z;obtain⟨q,hq,e⟩:=aH.mp ha;exact hpf q hq e
  ·rcases aw.mp hq with hq|hq
   ·rw[aI (hpf q hq),aI (hpd q hq),aI (hpf q hq),if_neg fun z:q.1=v=>hv (z▸bS hq)]
    exact B.b.at_ q hq
   ·cases aq.mp hq
    show upd _ p _ p=_;rw[av,if_pos rfl,cv]
  ·rcases aw.mp hq with hq|hq
   ·exact B.new q hq
   ·cases aq.mp hq
    exact B.s.free hp
  ·rw[aD,aw,not_or]at hw
   rw[if_neg fun z:w=v=>hw.2 (aq.mpr z)];exact B.out w hw.1
  ·rw[aD,aw]
   exact or_congr Iff.rfl aq
theorem wp_bs{G:Gam}{K:aa}:Sat G K spBs nh mQ:=by
 rintro vs H Q E ⟨f,ys,F,rfl,fr,lf,q⟩;unfold nh;change wpB G K _ _ _ [some (.ref f),none,none,none] H;walk_at "wp";refine .inl ⟨trivial,fun d hd=>?_⟩;unfold kK;walk_at "wp";refine gO (dA rfl (SqL.of (aB hd _ _ fr.hf)) (fh eM (fun k σ H'=>∃ls u v,σ=[some (.ref f),some (.ref d),u,v]/\Bsd H H' d ls (iD (F.take k))/\(∀v,v∈ls.map (·.1)↔v∈ends (F.take k))/\ls.length<=2*k)
  ⟨[],none,none,rfl,⟨aB hd,hd,av,⟨.inl av,cA,cA,(fun q hq=>nomatch hq)⟩,(fun q hq=>nomatch hq),(fun v _=>rfl)⟩,(fun v=>Iff.rfl),aM _⟩ (fun k σ H' _ ⟨_,_,_,_,B,_⟩=>SqL.of (B.s _ _ fr.hf)) ?_ ?_))
 ·rintro k y σ H1 H2 D2 hk ⟨ls,u,v,rfl,B,mem,ll⟩ hy s2 hD _
  obtain⟨a,b,p,hF,rfl,hp⟩:=fr.at_ hy;have B2:=B.same s2;have dN:∀v,(iD (F.take k) v).length<=400:=fun v=>by
   unfold iD;rw[ag];have :=zD (F.take k) v;rw[bb]at this;omega
  refine⟨p,_,rfl,SqT.of (B2.s _ _ hp),rfl,_,_,rfl,_,_,rfl,rfl,?_⟩;rw[fr.len]at hk;refine Bsd.step B2 (by omega) (by have :=dN a;omega) (fun H3 ls3 B3 m3 l3=>?_) rfl rfl rfl;unfold jr;simp only[wpB,R.wpS,wpE,wpL];refine Bsd.step B3 (by omega) ?_ (fun H4 ls4 B4 m4 l4=>?_) rfl rfl rfl
  ·have h1:=dN a
   have h2:=dN b;by_cases c:b=a
   ·rw[if_pos c,aG,bX]
    omega
   ·rw[if_neg c]
    omega
  ·have et:F.take (k+1)=F.take k++[(a,b)]:=by rw[bM,hF];rfl
   refine hD _ _ ⟨ls4,_,_,rfl,B4.congr ?_,fun v=>?_,by omega⟩
   ·funext w
    unfold iD;rw[et,wO,aD,aD];by_cases c1:w=b
    ·subst c1
     by_cases c2:w=a
     ·subst c2
      simp
     ·simp[c2,cz c2]
    ·by_cases c2:w=a
     ·subst c2
      simp[c1,cz c1]
     ·simp[c1,c2,cz c1,cz c2]
   ·rw[m4,m3,mem,et]
    unfold ends;simp only[aD,aw,aN,kX,aq];constructor
    ·rintro(((h|h) |h) |h)
     ·exact .inl (.inl h)
     ·exact .inr (.inl h)
     ·exact .inl (.inr h)
     ·exact .inr (.inr h)
    ·rintro((h|h) | (h|h))
     ·exact .inl (.inl (.inl h))
     ·exact .inl (.inr h)
     ·exact .inl (.inl (.inr h))
     ·exact .inr h
 ·rintro σ H1 ⟨ls,u,v,rfl,B,mem,ll⟩
  rw[fr.len,bY]at B mem;unfold kJ;walk_at "wp";exact q H1 d ls B.s hd B.hd B.b mem
theorem xB{a b:List Nm}(na:a.Nodup)(nb:b.Nodup)(h:∀v,v∈a↔v∈b):fN a=fN b:=by
 rw[mI na,mI nb];have pa:=_root_.Q.ki ("":Str) na rfl;have pb:=_root_.Q.ki ("":Str) nb rfl;have p:(_root_.Q.sortBy ("":Str) a a).Perm (_root_.Q.sortBy ("":Str) b b):=pa.trans ((jf na nb).mpr h |>.trans pb.symm);rw[_root_.Q.lr p (_root_.Q.iY na) (_root_.Q.iY nb)]
theorem keysK(Ts:List (Nm×Int)):(kvS (mV Ts)).map (·.1)=(Ts.map (·.1)).map dg:=by
 unfold kvS mV;rw[bK,bK,bK];rfl
theorem qk{K:aa}{H:Hp}:∀ks:List Nm,fR K H (ks.map D.str) (ks.map V.str)
 | []=>rfl
 |_::ks=>⟨_,_,rfl,rfl,qk ks⟩
theorem DT(ns:List Nm):hgt (.lst (ns.map .str))<=1:=by
 show gB (ns.map .str)+1<=1;have :gB (ns.map .str)=0:=by
  induction ns with
  |nil=>rfl
  |cons a l ih=>
   show max (hgt (.str a)) (gB (l.map .str))=0;rw[ih];rfl
 omega
theorem D6{H:Hp}{a:Addr}{v:Nm}{o o':Option V}(h:j7 H a (.str v) o)(h':j7 H a (.str v) o'):o=o':=by
 rcases h with⟨kvs,k,e,ey,l⟩ |⟨_,_,_,_,ey,_⟩
 ·rcases h' with⟨kvs',k',e',ey',l'⟩ |⟨_,_,_,_,ey',_⟩
  ·have ek:k=k':=by
    rw[ey]at ey';cases k<;>cases k'<;>cases ey'<;>rfl
   have ev:kvs=kvs':=by
    rcases e with e|⟨_,e⟩<;>rcases e' with e'|⟨_,e'⟩<;>rw[e]at e'<;>cases e'<;>rfl
   rw[l,l',ek,ev]
  ·cases ey'
 ·cases ey
noncomputable def spTi:Sp:=fun vs H Q _=>∃(t n r:Addr)(ws:List Nm)(ms Ts:List (Nm×Int)),vs=[.ref t,.ref n,.ref r]/\H t=some (.dK (kvS (mV Ts)))/\H n=some (.lst (ws.map V.str))/\H r=some (.dK (kvS (mV ms)))/\
 ws.Nodup/\ws.length<64/\(Ts.map (·.1)).Nodup/\(∀v,v∈Ts.map (·.1)↔v∈ws)/\(∀q∈Ts,q.2=0\/q.2=1)/\(∀q∈ms,q∈Ts)/\∀H',aX H H'->Q (.bl true) H'
theorem wp_ti{G:Gam}{K:aa}(g1:G.fn "_law_is_reading" 1=some (spLr,[])):Sat G K spTi lI lu:=by
 rintro vs H Q E ⟨t,n,r,ws,ms,Ts,rfl,ht,hn,hr,nd,l64,nT,mem,v01,ext,q⟩;unfold lI;change wpB G K _ _ _ [some (.ref t),some (.ref n),some (.ref r),none] H;walk_at "wp";refine isi (kn_dK ht) .dict ⟨_,rfl,?_⟩;rw[show tyName H (.ref t)="dict" by show gA (H t)=_;rw[ht];rfl,if_neg (by decide)];have lT:Ts.length<64:=by
  have :=hJ nT fun v hv=>(mem v).mp hv
  rw[ag]at this;omega
 refine⟨t,_,Ts.map (·.1),rfl,.inl ht,keysK Ts,nT,by rw[ag];exact lT,fun l1 n1=>?_⟩;have s1:aX H (upd H l1 (.lst (fN (Ts.map (·.1))))):=aB n1;refine⟨n,_,ws,rfl,SqL.of (s1 _ _ hn),l64,nd,.inl rfl,fun l2 n2=>?_⟩;have s2:=s1.trans (aB (o:=.lst (_root_.Q.sortBy .non ws (ws.map V.str))) n2);have hl2:upd (upd H l1 (.lst (fN (Ts.map (·.1))))) l2 (.lst (fN ws)) l1=some (.lst (fN ws)):=by
  rw[<-xB nT nd mem];exact aB n2 _ _ av
 have e1:=mI nd;generalize hL:_root_.Q.sortBy ("":Str) ws ws=L at e1;refine⟨.lst (L.map .str),.lst (L.map .str),⟨l1,_,rfl,SqL.of hl2,e1▸qk L⟩,⟨l2,_,rfl,SqL.of av,(by show fR K _ _ (fN ws);rw[e1];exact qk L)⟩,aU (DT L) (by decide),_,rfl,?_⟩;rw[jl,if_neg (by decide)];generalize upd (upd H l1 (.lst (fN (Ts.map (·.1))))) l2 (.lst (_root_.Q.sortBy .non ws (ws.map V.str)))=H2 at s2;unfold jS;walk_at "wp";have T:Tld (Ts.map (·.1)) ms Ts:=⟨rfl,v01,ext⟩;refine gO (dA rfl (SqL.of (s2 _ _ hn)) (fh eM (fun k σ H'=>aX H H'/\∃u,σ=[some (.ref t),some (.ref n),some (.ref r),u])
  ⟨s2,none,rfl⟩ (fun k σ H' _ s=>SqL.of (s.1 _ _ hn)) ?_ ?_))
 ·rintro k y σ H3 H4 D2 hk ⟨s3,u,rfl⟩ hy s4 hD _
  rw[ag]at hk;rw[aZ,ai hk]at hy;cases hy;have s5:=s3.trans s4;obtain⟨x,x01,gx,_⟩:=T.get nT ((mem _).mpr (du hk)) (s5 _ _ ht);walk_at "wp";refine⟨_,_,g1,t,_,rfl,gx,x,rfl,x01,_,rfl,?_⟩;rw[if_neg (by decide)];refine⟨t,_,rfl,gx,r,rfl,.inl ⟨_,.inl (s5 _ _ hr)⟩,t,_,rfl,gx,_,din (s5 _ _ hr),?_⟩;have e:((rdO ms ws[k]).map V.int).getD (.int x)=.int x:=by
   cases c:rdO ms ws[k]with
   |none=>rfl
   |some y=>
    have h1:=xF nT (ext _ (t8 c));have h2:=din (v:=ws[k]) (s5 _ _ ht);rw[h1]at h2;have :=D6 gx h2;show V.int y=_;exact(bh this).symm
  rw[e];refine oA.mpr ⟨_,rfl,?_⟩;rw[if_neg (by simp)];exact hD _ _ ⟨s5,_,rfl⟩
 ·rintro σ H3 ⟨s3,u,rfl⟩
  unfold jR;walk_at "wp";exact q H3 s3
noncomputable def SmB(k:Addr)(H H':Hp):Prop:=∀b u,b≠k->H b=some u->H' b=some u
theorem SmB.trans{k:Addr}{H H1 H2:Hp}(a:SmB k H H1)(b:SmB k H1 H2):SmB k H H2:=fun c u n e=>b c u n (a c u n e)
theorem SmB.of{k:Addr}{H H1:Hp}(s:aX H H1):SmB k H H1:=fun c u _ e=>s c u e
theorem SmB.put{k:Addr}{H H1:Hp}(a:SmB k H H1)(o:HO):SmB k H (upd H1 k o):=fun c u n e=>by rw[aI n];exact a c u n e
noncomputable def Wkd(H:Hp)(k:Addr)(ps:List (Nm×Nm)):Prop:=∃kvs,H k=some (.dT kvs)/\kvs.length<=2*ps.length/\∀a b:Nm,(eL kvs [.inr a,.inr b]).isSome=true↔(a,b)∈ps\/(b,a)∈ps
theorem Wkd.same{H H':Hp}{k:Addr}{ps:List (Nm×Nm)}(w:Wkd H k ps)(s:aX H H'):Wkd H' k ps:=let⟨kvs,h1,h2⟩:=w;⟨kvs,s _ _ h1,h2⟩
noncomputable def spWi:Sp:=fun vs H Q _=>∃(a r d k:Addr)(w:List Nm)(ms:List (Nm×Int))(ls:List (Nm×Addr))(F ps:List (Nm×Nm)),vs=[.ref a,.ref r,.ref d,.ref k]/\H a=some (.lst (w.map V.str))/\2<=w.length/\w.length<=100/\
 rdO ms (w.headD "")=some 0/\rdO ms (w.getLastD "")=some 1/\H r=some (.dK (kvS (mV ms)))/\H d=some (.dK (kvS (ls.map fun q=>(q.1,V.ref q.2))))/\Bes H d ls (iD F)/\(∀v,v∈ls.map (·.1)↔v∈ends F)/\
 (∀p∈prs w,p.2∈adj F p.1)/\(ps++prs w).Pairwise (fun p q=>p≠q/\swap p≠q)/\ps.length<=100/\Wkd H k ps/\∀H',SmB k H H'->Wkd H' k (ps++prs w)->Q (.bl true) H'
theorem prs_at{w:List Nm}{i:Nat}(h:i+1<w.length):(prs w)[i]? =some (w[i],w[i+1]):=by
 unfold prs;rw[List.getElem?_zip_eq_some];refine⟨ai _,?_⟩;rw[List.getElem?_tail,ai h]
theorem pS(w:List Nm):(prs w).length=w.length-1:=by
 unfold prs;rw[List.length_zip,List.length_tail];omega
theorem wi2{G:Gam}{K:aa}{E:XS}{D:Ends}{H H1:Hp}{a r d k:Addr}{w:List Nm}{ps:List (Nm×Nm)}{x y:Nm}{i:Nat}(hi:(prs w)[i]? =some (x,y))(l:(ps++(prs w).take i).length<=400)(s1:SmB k H H1)(W:Wkd H1 k (ps++(prs w).take i))
  (hD:∀H2,SmB k H H2->Wkd H2 k (ps++(prs w).take (i+1))->D.nx [some (.ref a),some (.ref r),some (.ref d),some (.ref k),some (.str x),some (.str y)] H2):
  wpB G K E gj D [some (.ref a),some (.ref r),some (.ref d),some (.ref k),some (.str x),some (.str y)] H1:=by
 obtain⟨kvs,h1,h2,h3⟩:=W;unfold gj;walk_at "wp";refine⟨(by show 2<=sizeLine;decide),fun p hp=>?_⟩;have e1:=aB (o:=.tup [.str x,.str y]) hp _ _ h1;refine⟨k,_,rfl,.inr ⟨kvs,[.inr x,.inr y],p,e1,rfl,av,l8 (by omega),rfl⟩,?_⟩;unfold jo;walk_at "wp";refine⟨(by show 2<=sizeLine;decide),fun p2 hp2=>?_⟩;have l1:=fA kvs [.inr x,.inr y] (.bl true);have e2:=aB (o:=.tup [.str y,.str x]) hp2 _ _ (av (H:=upd H1 p (.tup [.str x,.str y])) (a:=k) (o:=.dT (putK kvs [.inr x,.inr y] (.bl true))));refine⟨k,_,rfl,.inr ⟨_,[.inr y,.inr x],p2,e2,rfl,av,l8 (by omega),rfl⟩,?_⟩;have l2:=fA (putK kvs [.inr x,.inr y] (.bl true)) [.inr y,.inr x] (.bl true);have et:(prs w).take (i+1)=(prs w).take i++[(x,y)]:=by rw[bM,hi];rfl
 refine hD _ ((((s1.trans (.of (aB hp))).put _).trans (.of (aB hp2))).put _) ⟨_,av,?_,fun a b=>?_⟩
 ·rw[et,<-df,aG (bs:=[(x,y)]),bX]
  omega
 ·rw[vi,vi,et,<-df,aw (t:=[(x,y)]),aw (t:=[(x,y)]),aq,aq]
  have :=h3 a b
  by_cases c1:a=y/\b=x
  ·obtain⟨rfl,rfl⟩:=c1
   rw[if_pos rfl];exact⟨fun _=>.inr (.inr rfl),fun _=>rfl⟩
  ·rw[if_neg fun z=>c1 (by simpa using z)]
   by_cases c2:a=x/\b=y
   ·obtain⟨rfl,rfl⟩:=c2
    rw[if_pos rfl];exact⟨fun _=>.inl (.inr rfl),fun _=>rfl⟩
   ·rw[if_neg fun z=>c2 (by simpa using z),this]
    have n1:¬(a,b)=(x,y):=fun z=>c2 (by simpa using z);have n2:¬(b,a)=(x,y):=fun z=>c1 (by obtain⟨z1,z2⟩:=Prod.mk.inj z;exact⟨z2,z1⟩);constructor
    ·rintro(h|h)
     ·exact .inl (.inl h)
     ·exact .inr (.inl h)
    ·rintro((h|h) | (h|h))
     ·exact .inl h
     ·exact absurd h n1
     ·exact .inr h
     ·exact absurd h n2
theorem wp_wi{G:Gam}{K:aa}:Sat G K spWi m6 mP:=by
 rintro vs H Q E ⟨a,r,d,k,w,ms,ls,F,ps,rfl,ha,w2,w3,r0,r1,hr,hd,b,mem,adj,un,pl,W,q⟩;unfold m6;change wpB G K _ _ _ [some (.ref a),some (.ref r),some (.ref d),some (.ref k),none,none] H;walk_at "wp";refine isi (xX ha) .list ⟨_,rfl,?_⟩;rw[show tyName H (.ref a)="list" by show gA (H a)=_;rw[ha];rfl,if_neg (by decide)];refine .inl ⟨a,_,rfl,.inl (SqL.of ha),DH.mpr ⟨_,rfl,?_⟩⟩;rw[ag,if_neg (by rw[decide_eq_false (by omega)];decide)];have h0:w.headD ""=w[0]'(by omega):=by
  cases w with
  |nil=>exact absurd w2 (by decide)
  |cons u w=>rfl
 have h9:atI (w.map V.str) (-1)=some (.str (w.getLastD "")):=by
  rcases List.eq_nil_or_concat w with z|⟨u,z,e⟩
  ·rw[z]at w2
   exact absurd w2 (by decide)
  ·subst e
   rw[List.concat_eq_append,aD,Bt];exact En _ _
 refine⟨r,rfl,.inl ⟨_,.inl hr⟩,.inl ⟨a,_,_,_,rfl,rfl,SqL.of ha,(gV (j:=0) (by rw[aZ,ai (by omega:0<w.length)];rfl):atI (w.map V.str) ((0:Nat):Int)=_),_,din hr,?_⟩⟩;rw[<-h0,r0];refine oA.mpr ⟨_,rfl,?_⟩;rw[if_neg (by decide)];refine⟨r,rfl,.inl ⟨_,.inl hr⟩,.inl ⟨a,_,_,_,rfl,rfl,SqL.of ha,h9,_,din hr,?_⟩⟩;rw[r1];refine oA.mpr ⟨_,rfl,?_⟩;rw[if_neg (by decide)];unfold kH;walk_at "wp";have ec:qN (w.map V.str) (some 1) none=(w.drop 1).map V.str:=by
  unfold qN;rw[HT.mK,show HT.sIx (w.map V.str).length 0 (some 1)=min 1 (w.map V.str).length from HT.pP _ _ 1,ag,show min 1 w.length=1 by omega,eF (by simp),List.map_drop]
 refine gO ⟨_,rfl,_,rfl,?_⟩;walk_at "wp";refine .inl ⟨a,_,rfl,SqL.of ha,fun l hl=>?_⟩;rw[ec];have s1:aX H (upd H l (.lst ((w.drop 1).map V.str))):=aB hl;refine⟨a,l,rfl,⟨_,SqL.of (s1 _ _ ha)⟩,⟨_,SqL.of av⟩,?_⟩;obtain⟨kv0,hk0,hk1,hk2⟩:=id W;have ne:∀{b:Addr}{o:HO},upd H l (.lst ((w.drop 1).map V.str)) b=some o->(∀kvs,o≠.dT kvs)->b≠k:=fun{b o} e z y=>by
  rw[y,s1 _ _ hk0]at e;cases e;exact z _ rfl
 refine fh (vy (xs:=w.map V.str) (ys:=(w.drop 1).map V.str)) (fun i σ H'=>SmB k (upd H l (.lst ((w.drop 1).map V.str))) H'/\Wkd H' k (ps++(prs w).take i)/\∃u v,σ=[some (.ref a),some (.ref r),some (.ref d),some (.ref k),u,v])
  ⟨.of (aX.refl _),(by rw[List.take_zero,cE];exact W.same s1),_,_,rfl⟩ (fun i σ H' _ s=>⟨SqL.of (s.1 _ _ (ne (s1 _ _ ha) (fun _ z=>nomatch z)) (s1 _ _ ha)),SqL.of (s.1 _ _ (ne av (fun _ z=>nomatch z)) av)⟩) ?_ ?_
 ·rintro i x σ H2 H3 D2 hi ⟨s2,W2,u,v,rfl⟩ ⟨p,x,y,rfl,hp,hx,hy⟩ s3 hD _
  rw[ag,ag,gS]at hi;have hi2:i+1<w.length:=by omega
  rw[aZ,ai (by omega)]at hx;rw[aZ,eG,Be 1 i,ai hi2]at hy;cases hx;cases hy;have hpr:=prs_at hi2;generalize w[i]=x at hpr hp;generalize w[i+1]=y at hpr hp;have hm:(x,y)∈prs w:=aS hpr;have ha2:=adj _ hm;have s4:=s2.trans (.of s3);refine⟨p,_,rfl,SqT.of hp,rfl,_,_,rfl,_,_,rfl,rfl,?_⟩;walk_at "wp";have hv:x∈ls.map (·.1):=by
   rw[mem];unfold ends;rcases iN.mp ha2 with z|z
   ·exact aw.mpr (.inl (bS z))
   ·exact aw.mpr (.inr (bS z))
  have kp:∀{b:Addr}{o:HO},H b=some o->(∀kvs,o≠.dT kvs)->H3 b=some o:=fun{b o} e z=>s4 _ _ (ne (s1 _ _ e) z) (s1 _ _ e);have b3:Bes H3 d ls (iD F):=⟨.inl (kp hd (fun _ z=>nomatch z)),b.nd,b.na,fun q hq=>kp (b.at_ q hq) (fun _ z=>nomatch z)⟩;obtain⟨la,_,gl,el⟩:=b3.get hv;refine⟨d,rfl,.inl ⟨_,b3.hd⟩,aM _,fun p1 n1=>?_⟩;have s5:aX H3 (upd H3 p1 (.lst [])):=aB n1;obtain⟨la',_,gl',el'⟩:=(b3.same (.of s5)).get hv;refine⟨_,gl',.inr ⟨la',_,rfl,.inl (SqL.of el'),rfl,sV _,_,rfl,?_⟩⟩;rw[show(if true=true then !inV (V.str y) (iD F x)else inV (V.str y) (iD F x))=false by unfold iD;rw[ze,decide_eq_true ha2];rfl,if_neg (by decide)];refine⟨(by show 2<=sizeLine;decide),fun p2 n2=>?_⟩;have s6:=s5.trans (aB (o:=.tup [.str x,.str y]) n2);obtain⟨kvs,k1,k2,k3⟩:=W2.same (s3.trans s6);refine⟨k,_,rfl,.inr ⟨kvs,[.inr x,.inr y],p2,.inl k1,rfl,av,rfl⟩,?_⟩;have hno:¬((x,y)∈ps++(prs w).take i\/(y,x)∈ps++(prs w).take i):=by
   have un2:(ps++(prs w).take i++(prs w).drop i).Pairwise (fun p q=>p≠q/\swap p≠q):=by rw[df,gQ];exact un
   have hd2:(x,y)∈(prs w).drop i:=aS (i:=0) (by rw[eG];exact hpr);have :=(eX.mp un2).2.2;rintro(z|z)
   ·exact(this _ z _ hd2).1 rfl
   ·exact(this _ z _ hd2).2 rfl
  rw[if_neg fun z=>hno ((k3 x y).mp z)];refine wi2 hpr ?_ (s4.trans (.of s6)) ⟨kvs,k1,k2,k3⟩ fun H4 s7 W4=>hD _ _ ⟨s7,W4,_,_,rfl⟩;rw[aG,bb,pS];omega
 ·rintro σ H2 ⟨s2,W2,u,v,rfl⟩
  unfold kG;walk_at "wp";refine q H2 (SmB.trans (.of s1) s2) ?_;rw[eF (by rw[pS,ag,ag,gS];omega)]at W2;exact W2
end F5
namespace F5
open PySem R
noncomputable def vI:List Str:=["_law_found","_law_frame_here","_law_names_here","_law_marked"]
noncomputable def oD:List Str:=["_law_found","_law_frame_here","_law_names_here","_law_marked","_law_next_ones","_law_walked_ones","_law_way"]
noncomputable def lJ:CB:=
  (.cons (.ret (.con (.bool true)))
  .nil)
noncomputable def lK:CB:=
  (.cons (.forr (.name 6) (.seq (.idx (.var 0) (.con (.int 1))))
  (.cons (.iff (.not (.call "_law_way_is" (.cons (.var 6) (.cons (.var 3) (.cons (.var 4) (.cons (.var 5) .nil))))))
  (.cons (.ret (.con (.bool false)))
  .nil)
  .nil)
  .nil))
  lJ)
noncomputable def lL:CB:=
  (.cons (.asg (.name 5) (.dicT))
  lK)
noncomputable def lM:CB:=
  (.cons (.asg (.name 4) (.call "_law_beside" (.cons (.var 1) .nil)))
  lL)
noncomputable def lN:CB:=
  (.cons (.iff (.or (.not (.bfn .isinstance (.cons (.idx (.var 0) (.con (.int 1))) (.cons (.ty .list) .nil)))) (.cmp .NotEq (.bfn .len (.cons (.idx (.var 0) (.con (.int 1))) .nil)) (.call "_law_changes" (.cons (.var 1) (.cons (.idx (.var 0) (.con (.int 0))) .nil)))))
  (.cons (.ret (.con (.bool false)))
  .nil)
  .nil)
  lM)
noncomputable def oZ:CB:=
  (.cons (.iff (.or (.not (.bfn .isinstance (.cons (.var 0) (.cons (.ty .tuple) .nil)))) (.or (.cmp .NotEq (.bfn .len (.cons (.var 0) .nil)) (.con (.int 2))) (.not (.call "_law_told_is" (.cons (.idx (.var 0) (.con (.int 0))) (.cons (.var 2) (.cons (.var 3) .nil)))))))
  (.cons (.ret (.con (.bool false)))
  .nil)
  .nil)
  lN)
end F5
namespace F5
open PySem PySem.Spec PyProof.Rows L2 R Cp Kc Lt
theorem yC{F:List (Nm×Nm)}{L:List (Nm×Nm)}(h1:∀p∈L,p.2∈adj F p.1)(h2:L.Pairwise fun p q=>p≠q/\swap p≠q):L.length<=F.length:=by
 have h3:(L.map fun p=>if p∈F then p else swap p).Nodup:=by
  refine gw.mpr (h2.imp fun{p q} h z=>?_);obtain⟨n1,n2⟩:=h;split at z<;>split at z
  ·exact n1 z
  ·exact n2 (by rw[z];rfl)
  ·exact n2 z
  ·exact n1 (by have :=congrArg swap z;exact this)
 have :=mL h3 (m:=F) fun v hv=>by
  obtain⟨p,hp,rfl⟩:=aH.mp hv;by_cases c:p∈F
  ·rw[if_pos c];exact c
  ·rw[if_neg c]
   rcases iN.mp (h1 p hp)with z|z
   ·exact absurd z c
   ·exact z
 rw[ag]at this;exact this
structure Fnd(H0 H:Hp)(p t w:Addr)(F:List (Nm×Nm))(ws:List Nm)(ms Ts:List (Nm×Int))(wys:List V)(W:List (List Nm)):Prop where
 hp:H p=some (.tup [.ref t,.ref w])
 ht:H t=some (.dK (kvS (mV Ts)))
 hw:H w=some (.lst wys)
 few:Few F ws ms Ts wys.length
 pw:Paired (WC H0 H) wys W
 wy:Wys F ms W
noncomputable def spRt:Sp:=fun vs H Q _=>∃(p f n r t w:Addr)(ys:List V)(F:List (Nm×Nm))(ws:List Nm)(ms Ts:List (Nm×Int))(wys:List V)(W:List (List Nm))(H0:Hp),vs=[.ref p,.ref f,.ref n,.ref r]/\Frm H f ys F/\Tree F ws/\ws.length<64/\H n=some (.lst (ws.map V.str))/\H r=some (.dK (kvS (mV ms)))/\Fnd H0 H p t w F ws ms Ts wys W/\
 ∀H',aX H H'->Q (.bl true) H'
theorem wp_rt{G:Gam}{K:aa}(g1:G.fn "_law_told_is" 3=some (spTi,[]))(g2:G.fn "_law_changes" 2=some (spCh,[]))(g3:G.fn "_law_beside" 1=some (spBs,[]))(g4:G.fn "_law_way_is" 4=some (spWi,[])):
  Sat G K spRt oZ oD:=by
 rintro vs H Q E ⟨p,f,n,r,t,w,ys,F,ws,ms,Ts,wys,W,H0,rfl,fr,tr,l64,hn,hr,fd,q⟩;have hle:F.length<=63:=by have :=tr.len;omega
 unfold oZ;change wpB G K _ _ _ [some (.ref p),some (.ref f),some (.ref n),some (.ref r),none,none,none] H;walk_at "wp";refine isi (DI fd.hp) .tuple ⟨_,rfl,?_⟩;rw[show tyName H (.ref p)="tuple" by show gA (H p)=_;rw[fd.hp];rfl,if_neg (by decide)];refine .inl ⟨p,_,rfl,.inr (SqT.of fd.hp),oA.mpr ⟨_,rfl,?_⟩⟩;rw[if_neg (by simp)];refine⟨_,_,g1,.inr (.inl ⟨p,_,0,_,rfl,rfl,SqT.of fd.hp,rfl,t,n,r,ws,ms,Ts,rfl,fd.ht,hn,hr,tr.nd,l64,fd.few.nd,fd.few.ks,fd.few.v01,fd.few.ext,fun H1 s1=>⟨_,rfl,?_⟩⟩)⟩;rw[if_neg (by decide)];unfold lN;walk_at "wp";refine .inr (.inl ⟨p,_,1,_,rfl,rfl,SqT.of (s1 _ _ fd.hp),rfl,isi (xX (s1 _ _ fd.hw)) .list ⟨_,rfl,?_⟩⟩);rw[show tyName H1 (.ref w)="list" by show gA (H1 w)=_;rw[s1 _ _ fd.hw];rfl,if_neg (by decide)];refine .inr (.inl ⟨p,_,1,_,rfl,rfl,SqT.of (s1 _ _ fd.hp),rfl,.inl ⟨w,_,rfl,.inl (SqL.of (s1 _ _ fd.hw)),_,_,g2,?_⟩⟩);refine .inr (.inl ⟨p,_,0,_,rfl,rfl,SqT.of (s1 _ _ fd.hp),rfl,f,t,ys,F,Ts.map (·.1),ms,Ts,rfl,fr.same s1,s1 _ _ fd.ht,⟨rfl,fd.few.v01,fd.few.ext⟩,fd.few.nd,(fun e he=>⟨(fd.few.ks _).mpr (tr.sub e he).1,(fd.few.ks _).mpr (tr.sub e he).2⟩),by omega,fun H2 s2=>oA.mpr ⟨_,rfl,?_⟩⟩);rw[fd.few.ch,if_neg (by simp)];have s12:=s1.trans s2;unfold lM;walk_at "wp";refine⟨_,_,g3,f,ys,F,rfl,fr.same s12,by omega,fun H3 d ls s3 nd hd b mem=>?_⟩;have s13:=s12.trans s3;unfold lL;walk_at "wp";intro k nk;unfold lK;walk_at "wp";have s4:aX H3 (upd H3 k (.dT [])):=aB nk;have h5:=fun H' (s:aX H3 H')=>(s13.trans s);refine gO ⟨_,rfl,.inr (.inl ⟨p,_,1,_,rfl,rfl,SqT.of ((h5 _ s4) _ _ fd.hp),rfl,.inl ⟨w,rfl,⟨_,SqL.of ((h5 _ s4) _ _ fd.hw)⟩,?_⟩⟩)⟩;refine fh eM (fun i σ H'=>aX H3 H'/\Wkd H' k ((W.take i).flatMap prs)/\∃u,σ=[some (.ref p),some (.ref f),some (.ref n),some (.ref r),some (.ref d),some (.ref k),u])
  ⟨s4,⟨[],av,aM _,fun a b=>⟨(fun z=>nomatch z),(fun z=>by rcases z with z|z<;>exact nomatch z)⟩⟩,_,rfl⟩ (fun i σ H' _ s=>SqL.of ((h5 _ s.1) _ _ fd.hw)) ?_ ?_
 ·rintro i x σ H4 H5 D2 hi ⟨s6,W6,u,rfl⟩ hx s7 hD _
  obtain⟨v,hv,a,rfl,ha,na⟩:=jz fd.pw hx;have s8:=s6.trans s7;have s9:=h5 _ s8;have hm:v∈W:=aS hv;have et:W.take (i+1)=W.take i++[v]:=by rw[bM,hv];rfl
  have sp:W.flatMap prs=(W.take i).flatMap prs++prs v++(W.drop (i+1)).flatMap prs:=by
   conv =>lhs;rw[<-gQ (i+1) W,fC,et,fC]
   rw[show[v].flatMap prs=prs v by simp]
  have un:((W.take i).flatMap prs++prs v).Pairwise (fun p q=>p≠q/\swap p≠q):=by
   have :=fd.wy.un
   rw[sp]at this;exact(eX.mp this).1
  have ad:∀q∈(W.take i).flatMap prs++prs v,q.2∈adj F q.1:=fun q hq=>fd.wy.adj q (by rw[sp];exact aw.mpr (.inl hq));have ln:=yC ad un;rw[aG,pS]at ln;walk_at "wp";refine⟨_,_,g4,a,r,d,k,v,ms,ls,F,_,rfl,s9 _ _ ha,fd.wy.two v hm,by omega,fd.wy.hd v hm,fd.wy.lst v hm,s9 _ _ hr,s8 _ _ hd,b.same (.of s8),mem,(fun q hq=>ad q (aw.mpr (.inr hq))),un,by omega,W6.same s7,fun H6 s10 W7=>⟨_,rfl,?_⟩⟩;rw[if_neg (by decide)];refine hD _ _ ⟨fun c o e=>s10 c o (fun z=>by rw[z,nk]at e;cases e) (s8 _ _ e),?_,_,rfl⟩;rw[et,fC,show[v].flatMap prs=prs v by simp];exact W7
 ·rintro σ H4 ⟨s6,W6,u,rfl⟩
  unfold lJ;walk_at "wp";exact q H4 (h5 _ s6)
end F5
namespace F5
open PySem R
noncomputable def p_law:List Str:=["_law_script"]
noncomputable def Dz:List Str:=["_law_script","_law_form","_law_names_here","_law_frame_here","_law_marked","_law_handed","_law_given","_law_found","_law_again","_law_way","_law_some"]
noncomputable def wF:CB:=
  (.cons (.ret (.and (.call "_law_right" (.cons (.var 10) (.cons (.var 3) (.cons (.var 2) (.cons (.dic .nil) .nil))))) (.cmp .Eq (.idx (.var 10) (.con (.int 1))) (.lst .nil))))
  .nil)
noncomputable def qZ:CB:=
  (.cons (.asg (.name 10) (.call "fewest" (.cons (.bfn .list (.cons (.var 3) .nil)) (.cons (.dic .nil) (.cons (.call "_law_alone" (.cons (.var 3) (.cons (.var 2) .nil))) .nil)))))
  wF)
noncomputable def q0:CB:=
  (.cons (.iff (.not (.call "_law_right" (.cons (.var 8) (.cons (.var 3) (.cons (.var 2) (.cons (.var 4) .nil))))))
  (.cons (.ret (.con (.bool false)))
  .nil)
  .nil)
  qZ)
noncomputable def wG:CB:=
  (.cons (.expr (.meth0 .clear (.idx (.var 7) (.con (.int 1)))))
  q0)
noncomputable def wH:CB:=
  (.cons (.expr (.clrk (.idx (.var 7) (.con (.int 0)))))
  wG)
noncomputable def ra:CB:=
  (.cons (.forr (.name 9) (.seq (.idx (.var 7) (.con (.int 1))))
  (.cons (.expr (.meth1 .append (.var 9) (.con (.str "x"))))
  .nil))
  wH)
noncomputable def wI:CB:=
  (.cons (.asg (.name 8) (.call "fewest" (.cons (.bfn .list (.cons (.var 3) .nil)) (.cons (.bfn .dictc (.cons (.var 4) .nil)) (.cons (.call "_law_alone" (.cons (.var 3) (.cons (.var 2) .nil))) .nil)))))
  ra)
noncomputable def rb:CB:=
  (.cons (.iff (.not (.call "_law_right" (.cons (.var 7) (.cons (.var 3) (.cons (.var 2) (.cons (.var 4) .nil))))))
  (.cons (.ret (.con (.bool false)))
  .nil)
  .nil)
  wI)
noncomputable def wJ:CB:=
  (.cons (.expr (.clrk (.var 6)))
  rb)
noncomputable def zu:CB:=
  (.cons (.expr (.meth0 .clear (.var 5)))
  wJ)
noncomputable def zv:CB:=
  (.cons (.iff (.or (.not (.call "_law_right" (.cons (.var 7) (.cons (.var 3) (.cons (.var 2) (.cons (.var 4) .nil)))))) (.or (.cmp .NotEq (.var 5) (.var 3)) (.x2 .nek (.var 6) (.var 4))))
  (.cons (.ret (.con (.bool false)))
  .nil)
  .nil)
  zu)
noncomputable def zw:CB:=
  (.cons (.asg (.name 7) (.call "fewest" (.cons (.var 5) (.cons (.var 6) (.cons (.call "_law_alone" (.cons (.var 3) (.cons (.var 2) .nil))) .nil)))))
  zv)
noncomputable def zx:CB:=
  (.cons (.asg (.name 6) (.bfn .dictc (.cons (.var 4) .nil)))
  zw)
noncomputable def uJ:CB:=
  (.cons (.asg (.name 5) (.bfn .list (.cons (.var 3) .nil)))
  zx)
noncomputable def zy:CB:=
  (.cons (.asg (.name 4) (.call "_law_read" (.cons (.var 0) (.cons (.var 2) (.cons (.var 1) .nil)))))
  uJ)
noncomputable def zA:CB:=
  (.cons (.asg (.name 3) (.call "_law_frame" (.cons (.var 0) (.cons (.var 1) (.cons (.con (.int 64)) .nil)))))
  zy)
noncomputable def zB:CB:=
  (.cons (.asg (.name 2) (.call "_law_names" (.cons (.var 0) (.cons (.var 1) (.cons (.con (.int 64)) .nil)))))
  zA)
noncomputable def Ej:CB:=
  (.cons (.asg (.name 1) (.call "_law_cell_at" (.cons (.var 0) (.cons (.con (.int 0)) .nil))))
  zB)
end F5
namespace F5
open PySem PySem.Spec PyProof.Rows L2 R Cp Kc Lt
structure G53(G:Gam)(K:aa):Prop where
 g0:G.fn "_law_cell_at" 2=some (xy K,[])
 g1:G.fn "_law_names" 3=some (spNs K,[])
 g2:G.fn "_law_frame" 3=some (spFr K,[])
 g3:G.fn "_law_read" 3=some (spRd K,[])
 g4:G.fn "_law_alone" 2=some (spAl,[])
 g5:G.fn "fewest" 3=some (B8,[])
 g6:G.fn "_law_right" 4=some (spRt,[])
structure Ctx(H:Hp)(n f r:Addr)(al:V)(ws:List Nm)(ys:List V)(F:List (Nm×Nm))(ms:List (Nm×Int)):Prop where
 hn:H n=some (.lst (ws.map V.str))
 g:Good H f al ys F ws
 hr:H r=some (.dK (kvS (mV ms)))
 hm:∀q∈ms,q.1∈ws/\(q.2=0\/q.2=1)
 nm:(ms.map (·.1)).Nodup
section
variable {H H' H0 Hb:Hp}{n f r:Addr}{al:V}{ws:List Nm}{ys:List V}{F:List (Nm×Nm)}{ms:List (Nm×Int)}
theorem Ctx.same(d:Ctx H n f r al ws ys F ms)(e:aX H H'):Ctx H' n f r al ws ys F ms:={d with hn:=e _ _ d.hn,g:=d.g.grow (.of e),hr:=e _ _ d.hr}
theorem Ctx.alone(d:Ctx H n f r al ws ys F ms){Q:VK}{E:XK}(q:∀H',aX H H'->Q al H'):spAl [.ref f,.ref n] H Q E:=by
 have ew:∃v vs,ws=v::vs:=by
  have hl:=d.g.t.len;cases ws with
  |nil=>cases hl
  |cons v vs=>exact⟨v,vs,rfl⟩
 obtain⟨v,vs,rfl⟩:=ew;refine⟨f,n,ys,F,v,vs,rfl,d.g.fr,d.hn,fun hF H' s=>?_,fun hF H' s=>?_⟩
 ·rcases d.g.al with⟨_,a,e1,e2⟩ |⟨z,_⟩
  ·cases e2
   rw[<-e1];exact q H' s
  ·exact absurd hF z
 ·rcases d.g.al with⟨z,_⟩ |⟨_,e1⟩
  ·exact absurd z hF
  ·rw[<-e1]
   exact q H' s
theorem Ctx.list(d:Ctx H n f r al ws ys F ms){h:Addr}(hh:H h=some (.lst ys)):Good H h al ys F ws:={d.g with fr:=⟨hh,d.g.fr.br⟩}
theorem Fnd.keep{p t w:Addr}{Ts:List (Nm×Int)}{wys:List V}{W:List (List Nm)}(d:Fnd H0 H p t w F ws ms Ts wys W)(np:H0 p=none)(nt:H0 t=none)(nw:H0 w=none)(k:∀b u,H0 b=none->H b=some u->H' b=some u):Fnd H0 H' p t w F ws ms Ts wys W:=
 ⟨k _ _ np d.hp,k _ _ nt d.ht,k _ _ nw d.hw,d.few,L2.Paired.gM d.pw fun _ _ ⟨a,h1,h2,h3⟩=>⟨a,h1,k _ _ h3 h2,h3⟩,d.wy⟩
variable {G:Gam}{K:aa}{E:XS}{D:Ends}{Q:VK}{s:Addr}{c:Int}{y5 y6 y7 y8 y9 y10:Option V}
theorem Ctx.right(g:G53 G K)(d:Ctx H n f r al ws ys F ms){p t w:Addr}{Ts:List (Nm×Int)}{wys:List V}{W:List (List Nm)}(fd:Fnd H0 H p t w F ws ms Ts wys W){Q:VK}{E:XK}(q:∀H',aX H H'->Q (.bl true) H'):spRt [.ref p,.ref f,.ref n,.ref r] H Q E:=
 ⟨p,f,n,r,t,w,ys,F,ws,ms,Ts,wys,W,H0,rfl,d.g.fr,d.g.t,d.g.n63,d.hn,d.hr,fd,q⟩
theorem lw18(g:G53 G K)(d:Ctx H n f r al ws ys F ms)(hD:D.rt=Q)(q:∀H',Q (.bl true) H'):
  wpB G K E qZ D [some (.ref s),some (.int c),some (.ref n),some (.ref f),some (.ref r),y5,y6,y7,y8,y9,y10] H:=by
 unfold qZ;walk_at "wp";refine⟨_,_,g.g5,f,ys,rfl,.inl (SqL.of d.g.fr.hf),fun h hh=>.inl ⟨trivial,fun e he=>?_⟩⟩;have s1:=(aB (o:=.lst ys) hh).trans (aB (o:=.dK []) he);refine⟨_,_,g.g4,(d.same s1).alone fun H1 s2=>?_⟩;have s3:=s1.trans s2;refine⟨h,e,al,ys,F,ws,[],rfl,(d.same s3).list (s2 _ _ (aB he _ _ av)),s2 _ _ av,(fun q hq=>nomatch hq),cA,fun H2 p t w Ts wys s4 np hp ht hw few nt nw ⟨W,pw,wy⟩=>?_⟩;have s5:=s3.trans s4;unfold wF;walk_at "wp";refine⟨_,_,g.g6,.inl ⟨trivial,fun e2 he2=>?_⟩⟩;have s6:aX H2 (upd H2 e2 (.dK [])):=aB he2;have d6:=d.same (s5.trans s6);have d7:Ctx (upd H2 e2 (.dK [])) n f e2 al ws ys F []:=⟨d6.hn,d6.g,av,(fun q hq=>nomatch hq),cA⟩;have fd:Fnd H1 (upd H2 e2 (.dK [])) p t w F ws [] Ts wys W:=(show Fnd H1 H2 p t w F ws [] Ts wys W from⟨hp,ht,hw,few,pw,wy⟩).keep np nt nw fun _ _ _ z=>s6 _ _ z;refine d7.right g fd fun H3 s7=>⟨_,rfl,?_⟩;rw[if_pos rfl];have hW:wys=[]:=by
  have :=pw.length
  cases W with
  |nil=>exact dY.mp this
  |cons v W=>exact nomatch wy.hd v au
 refine .inr (.inl ⟨p,_,1,_,rfl,rfl,SqT.of (s7 _ _ fd.hp),rfl,aM _,fun l hl=>?_⟩);have hw3:=aB (o:=.lst []) hl _ _ (s7 _ _ fd.hw);rw[hW]at hw3;refine⟨.lst [],.lst [],⟨w,_,rfl,SqL.of hw3,rfl⟩,⟨l,_,rfl,SqL.of av,rfl⟩,by decide,?_⟩;rw[jl,hD];exact q _
theorem lw16(g:G53 G K)(d:Ctx H n f r al ws ys F ms){p t w:Addr}{Ts:List (Nm×Int)}{wys:List V}{W:List (List Nm)}(fd:Fnd H0 H p t w F ws ms Ts wys W)(hD:D.rt=Q)(q:∀H',Q (.bl true) H'):
  wpB G K E q0 D [some (.ref s),some (.int c),some (.ref n),some (.ref f),some (.ref r),y5,y6,y7,some (.ref p),y9,y10] H:=by
 unfold q0;walk_at "wp";refine⟨_,_,g.g6,d.right g fd fun H1 s1=>⟨_,rfl,?_⟩⟩;rw[if_neg (by decide)];exact lw18 g (d.same s1) hD q
structure Old(Hb H1 H2 H:Hp)(p t w:Addr)(wys:List V)(m:Nat):Prop where
 s:aX Hb H
 k:∀b u,H1 b=none->H2 b=some u->H b=some u
 hp:H p=some (.tup [.ref t,.ref w])
 ht:∃kvs,H t=some (.dK kvs)
 hw:H w=some (.lst wys)
 ways:∀y∈wys,∃(a:Addr)(l:List Nm),y=V.ref a/\H a=some (.lst (l.map V.str))/\l.length<=m/\Hb a=none/\H1 a≠none
theorem lw13{H1 H2:Hp}{p t w p2 t2 w2:Addr}{wys wys2:List V}{Ts2:List (Nm×Int)}{W2:List (List Nm)}(g:G53 G K)(d:Ctx Hb n f r al ws ys F ms)(o:Old Hb H1 H2 H p t w wys 100)(nt:Hb t=none)(nw:Hb w=none)(et:H1 t≠none)(ew:H1 w≠none)(lw:wys.length<=100)
  (fd:Fnd H1 H2 p2 t2 w2 F ws ms Ts2 wys2 W2)(np2:H1 p2=none)(nt2:H1 t2=none)(nw2:H1 w2=none)(hD:D.rt=Q)(q:∀H',Q (.bl true) H'):
  wpB G K E ra D [some (.ref s),some (.int c),some (.ref n),some (.ref f),some (.ref r),y5,y6,some (.ref p),some (.ref p2),y9,y10] H:=by
 unfold ra;walk_at "wp";refine gO ⟨_,rfl,.inr (.inl ⟨p,_,1,_,rfl,rfl,SqT.of o.hp,rfl,.inl ⟨w,rfl,⟨_,SqL.of o.hw⟩,?_⟩⟩)⟩;refine fh eM (fun i σ H'=>Old Hb H1 H2 H' p t w wys (100+i)/\∃y9,σ=[some (.ref s),some (.int c),some (.ref n),some (.ref f),some (.ref r),y5,y6,some (.ref p),some (.ref p2),y9,y10])
  ⟨o,_,rfl⟩ (fun i σ H' _ z=>SqL.of z.1.hw) ?_ ?_
 ·rintro i x σ H3 H4 D2 hi ⟨o3,u,rfl⟩ hx s4 hD2 _
  have hx2:=aS hx;obtain⟨a,l,rfl,ha,ll,na,ea⟩:=o3.ways _ hx2;have ha4:=s4 _ _ ha;walk_at "wp";refine⟨.inl ⟨rfl,_,SqL.of ha4⟩,a,_,_,rfl,rfl,ha4,(by rw[ag];exact l8 (by omega)),?_⟩;have hwa:w≠a:=fun z=>by
   have h1:=o3.hw;rw[z,ha]at h1;have :l.map V.str=wys:=by cases h1;rfl
   rw[<-this]at hx2;obtain⟨_,_,z⟩:=aH.mp hx2;cases z
  have e:l.map V.str++[V.str "x"]=(l++[("x":Nm)]).map V.str:=by rw[aD];rfl
  rw[e];obtain⟨kvs,ht⟩:=o3.ht;refine hD2 _ _ ⟨⟨cg (o3.s.trans s4) na,fun b u h1 h2=>?_,?_,⟨kvs,?_⟩,?_,fun y hy=>?_⟩,_,rfl⟩
  ·rw[aI (fun z:b=a=>ea (z▸h1))]
   exact s4 _ _ (o3.k b u h1 h2)
  ·rw[aI (d5 o3.hp ha (by intro z;cases z))]
   exact s4 _ _ o3.hp
  ·rw[aI (d5 ht ha (by intro z;cases z))]
   exact s4 _ _ ht
  ·rw[aI hwa]
   exact s4 _ _ o3.hw
  ·obtain⟨a',l',rfl,ha',ll',na',ea'⟩:=o3.ways y hy
   by_cases z:a'=a
   ·subst z
    exact⟨a',l++[("x":Nm)],rfl,av,by rw[aG,bX];omega,na',ea'⟩
   ·exact⟨a',l',rfl,by rw[aI z];exact s4 _ _ ha',by omega,na',ea'⟩
 ·rintro σ H3 ⟨o3,u,rfl⟩
  obtain⟨kvs,ht⟩:=o3.ht;unfold wH;walk_at "wp";refine .inr (.inl ⟨p,_,0,_,rfl,rfl,SqT.of o3.hp,rfl,.inr (.inr (.inl ⟨rfl,.inl ⟨_,ht⟩⟩)),t,_,rfl,rfl,ht,?_⟩);have hp4:upd H3 t (.dK []) p=some (.tup [.ref t,.ref w]):=by rw[aI (d5 o3.hp ht (by intro z;cases z))];exact o3.hp
  have hw4:upd H3 t (.dK []) w=some (.lst wys):=by rw[aI (d5 o3.hw ht (by intro z;cases z))];exact o3.hw
  unfold wG;walk_at "wp";refine .inr (.inl ⟨p,_,1,_,rfl,rfl,SqT.of hp4,rfl,.inl ⟨rfl,_,SqL.of hw4⟩,w,_,rfl,rfl,hw4,?_⟩);refine lw16 g (d.same (cg (cg o3.s nt) nw)) (fd.keep np2 nt2 nw2 fun b u h1 h2=>?_) hD q;rw[aI (fun z:b=w=>ew (z▸h1)),aI (fun z:b=t=>et (z▸h1))];exact o3.k b u h1 h2
theorem lw11{p t w:Addr}{Ts:List (Nm×Int)}{wys:List V}{W:List (List Nm)}(g:G53 G K)(d:Ctx Hb n f r al ws ys F ms)(s1:aX Hb H)(fd:Fnd H0 H p t w F ws ms Ts wys W)(np:Hb p=none)(nt:Hb t=none)(nw:Hb w=none)(sb:∀b,H0 b=none->Hb b=none)(hD:D.rt=Q)(q:∀H',Q (.bl true) H'):
  wpB G K E rb D [some (.ref s),some (.int c),some (.ref n),some (.ref f),some (.ref r),y5,y6,some (.ref p),y8,y9,y10] H:=by
 unfold rb;walk_at "wp";refine⟨_,_,g.g6,(d.same s1).right g fd fun H1 s2=>⟨_,rfl,?_⟩⟩;rw[if_neg (by decide)];have s3:=s1.trans s2;have d3:=d.same s3;unfold wI;walk_at "wp";refine⟨_,_,g.g5,f,ys,rfl,.inl (SqL.of d3.g.fr.hf),fun h hh=>?_⟩;have s4:=aB (o:=.lst ys) hh;refine⟨r,_,rfl,.inl (s4 _ _ d3.hr),fun e he=>?_⟩;have s5:=s4.trans (aB (o:=.dK (kvS (mV ms))) he);refine⟨_,_,g.g4,(d3.same s5).alone fun H2 s6=>?_⟩;have s7:=s5.trans s6;have d7:=d3.same s7;refine⟨h,e,al,ys,F,ws,ms,rfl,d7.list (s6 _ _ (aB he _ _ av)),s6 _ _ av,d.hm,d.nm,fun H3 p2 t2 w2 Ts2 wys2 s8 np2 hp2 ht2 hw2 few2 nt2 nw2 ⟨W2,pw2,wy2⟩=>?_⟩;have s9:=s2.trans s7;have hne:∀{b:Addr}{o:HO},H b=some o->H2 b≠none:=fun{b o} e z=>by rw[s9 _ _ e]at z;cases z
 have s10:=s9.trans s8;have lw:wys.length<=F.length:=by
  rw[<-fd.few.ch];exact List.countP_le_length
 have hle:=d.g.le;refine lw13 g d ⟨s1.trans s10,fun b u _ z=>z,s10 _ _ fd.hp,⟨_,s10 _ _ fd.ht⟩,s10 _ _ fd.hw,fun y hy=>?_⟩ nt nw (hne fd.ht) (hne fd.hw) (by omega) ⟨hp2,ht2,hw2,few2,pw2,wy2⟩ np2 nt2 nw2 hD q;obtain⟨i,hi,ei⟩:=aT.mp hy;obtain⟨l,hl,a,rfl,ha,na⟩:=jz fd.pw (ai hi▸congrArg some ei);refine⟨a,l,rfl,s10 _ _ ha,?_,sb _ na,hne ha⟩;have hm:l∈W:=aS hl;have h1:=yC (fun q hq=>fd.wy.adj q (rJ.mpr ⟨l,hm,hq⟩)) (show(prs l).Pairwise _ from by
  obtain⟨u,v,rfl⟩:=List.append_of_mem hm;have :=fd.wy.un;rw[fC,p9]at this;exact(eX.mp (eX.mp this).2.1).1)
 rw[pS]at h1;omega
theorem lw5(g:G53 G K)(d:Ctx H n f r al ws ys F ms)(hD:D.rt=Q)(q:∀H',Q (.bl true) H'):
  wpB G K E uJ D [some (.ref s),some (.int c),some (.ref n),some (.ref f),some (.ref r),y5,y6,y7,y8,y9,y10] H:=by
 unfold uJ;walk_at "wp";refine⟨f,ys,rfl,.inl (SqL.of d.g.fr.hf),fun h hh=>?_⟩;have s1:=aB (o:=.lst ys) hh;unfold zx;walk_at "wp";refine⟨r,_,rfl,.inl (s1 _ _ d.hr),fun e he=>?_⟩;have s2:=s1.trans (aB (o:=.dK (kvS (mV ms))) he);have hh2:upd (upd H h (.lst ys)) e (.dK (kvS (mV ms))) h=some (.lst ys):=aB he _ _ av;have he2:upd (upd H h (.lst ys)) e (.dK (kvS (mV ms))) e=some (.dK (kvS (mV ms))):=av;have ne0:H e=none:=s1.free he;generalize upd (upd H h (.lst ys)) e (.dK (kvS (mV ms)))=H2 at s2 hh2 he2;unfold zw;walk_at "wp";refine⟨_,_,g.g5,_,_,g.g4,(d.same s2).alone fun H3 s3=>?_⟩;have s4:=s2.trans s3;have hh3:=s3 _ _ hh2;have he3:=s3 _ _ he2;refine⟨h,e,al,ys,F,ws,ms,rfl,(d.same s4).list hh3,he3,d.hm,d.nm,fun H4 p t w Ts wys s5 np hp ht hw few nt nw ⟨W,pw,wy⟩=>?_⟩;have s6:=s4.trans s5;have fd:Fnd H3 H4 p t w F ws ms Ts wys W:=⟨hp,ht,hw,few,pw,wy⟩;unfold zv;walk_at "wp";refine⟨_,_,g.g6,(d.same s6).right g fd fun H5 s7=>⟨_,rfl,?_⟩⟩;rw[if_neg (by decide)];have s8:=s6.trans s7;have d8:=d.same s8;have fd8:=fd.keep np nt nw fun _ _ _ z=>s7 _ _ z;have hh5:=s7 _ _ (s5 _ _ hh3);have he5:=s7 _ _ (s5 _ _ he3);have hg:=ya F;refine⟨.lst (F.map bD),.lst (F.map bD),⟨h,_,rfl,SqL.of hh5,pR d8.g.fr.br⟩,⟨f,_,rfl,SqL.of d8.g.fr.hf,pR d8.g.fr.br⟩,by show gB (F.map bD)+1<=30;omega,_,rfl,?_⟩;rw[jl,if_neg (by decide)];refine⟨e,r,_,rfl,rfl,.inl he5,.inl d8.hr,fun x hx=>?_,?_⟩
 ·unfold kvS mV at hx
  rw[bK]at hx;obtain⟨m,_,rfl⟩:=aH.mp hx;exact⟨_,rfl⟩
 unfold zu;walk_at "wp";refine⟨.inl ⟨rfl,_,SqL.of hh5⟩,h,_,rfl,rfl,hh5,?_⟩;unfold wJ;walk_at "wp";have he6:upd H5 h (.lst []) e=some (.dK (kvS (mV ms))):=by rw[aI (d5 he5 hh5 (by intro z;cases z))];exact he5
 refine⟨.inr (.inr (.inl ⟨rfl,.inl ⟨_,he6⟩⟩)),e,_,rfl,rfl,he6,?_⟩;refine lw11 g d (cg (cg s8 hh) ne0) (fd8.keep np nt nw fun b u h1 h2=>?_) (s4.free np) (s4.free nt) (s4.free nw) (fun b hb=>s4.free hb) hD q;rw[aI (fun z:b=e=>by rw[z,he3]at h1;cases h1),aI (fun z:b=h=>by rw[z,hh3]at h1;cases h1)];exact h2
end
theorem zi{us:List Value}(h:us.length=4):∃a b c d,us=[a,b,c,d]:=by
 cases us with
 |nil=>exact nomatch h
 |cons a r=>
  obtain⟨b,c,d,z⟩:=Kc.fM (hZ h);exact⟨a,b,c,d,by rw[z]⟩
noncomputable def tQ(K:aa):Sp:=fun vs H Q _=>∃(a:Addr)(ns:List Int),vs=[.ref a]/\SqL K H a (ns.map V.int)/\ns.length<=63/\∀H',Q (.bl true) H'
theorem Bz{G:Gam}{K:aa}(g:G53 G K):Sat G K (tQ K) Ej Dz:=by
 rintro vs H Q E ⟨s,ns,rfl,hs,l63,q⟩;unfold Ej;change wpB G K _ _ _ [some (.ref s),none,none,none,none,none,none,none,none,none,none] H;walk_at "wp";refine⟨_,_,g.g0,s,ns,0,rfl,hs,?_⟩;unfold zB;walk_at "wp";refine⟨_,_,g.g1,s,ns,_,64,rfl,by decide,hs,fun H1 n s1 n1 h1=>?_⟩;unfold zA;walk_at "wp";refine⟨_,_,g.g2,s,ns,_,64,rfl,by decide,s1.seq hs,fun H2 f ys F s2 n2 fr t=>?_⟩;unfold zy;walk_at "wp";have s12:=s1.trans s2;have hl:(nms (ns.getD 0 0) (max 1 (min ns.length 64))).length=max 1 (min ns.length 64):=by unfold nms;rw[ag,dG]
 generalize hws:nms (ns.getD 0 0) (max 1 (min ns.length 64))=ws at h1 t hl;refine⟨_,_,g.g3,s,n,ns,ws,64,rfl,s12.seq hs,s2 _ _ h1,t.nd,hl,by decide,by decide,fun H3 r ms s3 n3 h3 hm nm=>?_⟩;have hn3:=s3 _ _ (s2 _ _ h1);have ok:∀u∈ws,gL u=true:=fun u hu=>by
  rw[<-hws]at hu;obtain⟨j,_,rfl⟩:=aH.mp hu;exact fnm_ok ..
 have hal:∃al:V,(F=[]/\∃a,al=.str a/\ws=[a])\/(F≠[]/\al=.non):=by
  by_cases hF:F=[]
  ·have :=t.len
   rw[hF]at this;cases ws with
   |nil=>cases this
   |cons v vs=>
    have :vs=[]:=dY.mp (by simpa using this);subst this;exact⟨_,.inl ⟨hF,v,rfl,rfl⟩⟩
  ·exact⟨_,.inr ⟨hF,rfl⟩⟩
 obtain⟨al,hal⟩:=hal;exact lw5 g ⟨hn3,⟨fr.same s3,t,by omega,ok,hal⟩,h3,hm,nm⟩ rfl q
end F5
namespace Lm
open PySem PySem.Spec PySem.W PyProof.Rows L2 Q
noncomputable def BM(mg:Str->Option Value)(h:Heap):Prop:=∃bm ob,mg "__builtins__"=some (.ref bm)/\bm≠j9/\bm≠bV/\h.get? bm=some ob/\ob.cls=.type "module"/\ob.dict=some j9/\ob.data=.plain
end Lm
namespace Lm
open PySem PySem.Spec PySem.W PyProof.Rows L2 Q R
noncomputable def iz(K:aa)(tabs:List Addr)(a:Addr)(vs:List Value)(ns:List Int):Hp:=fun b=>
 if b∈tabs then some (.tbl #[])else if b=a/\K.lookup a=none then some (.frz {cls:=.type "list",data:=.seq vs.toArray} (.lst (ns.map V.int)))else none
theorem AA{P:Program}{w:World}{K:aa}{mg mb:Str->Option Value}{CX:CXT}{k:Nat}{fa a:Addr}{fd:fI}{x:Str}{sp:Sp}{s₁:Shared}{vs:List Value}{ns:List Int}{tabs:List Addr}(KX:K.In s₁.heap)
  (hns:s₁.heap.Ns bV mg)(hb:s₁.heap.Ns j9 mb)(hbb:∀x:Str,x≠"__name__"->mb x=dc x)(hlim:s₁.heap.NoLimit)(hg:s₁.gens= #[])(ha:s₁.heap.get? a=some {cls:=.type "list",data:=.seq vs.toArray})
  (hi:IntsAre vs ns) (hl:ns.length<=sizeLine) (hr:jc k zI) (hT:∀p∈tabs,s₁.heap.get? p=some (tabObj #[])/\isCodeTable s₁.heap p/\K.lookup p=none)
  (F:∀base:Heap,K.In base->base.Ns bV mg->(∀b o,s₁.heap.get? b=some o->o.cls≠.none->o.cls≠.type "list"->base.get? b=some o)->iG P w K mg base CX k fa fd [x] sp)
  (hbind:∀(s:Shared)(u:Value),BindsTo s fd ⟨[u],[]⟩ [(x,u)])
  (hsp:∀H:Hp,(∀p∈tabs,H p=some (.tbl #[]))->SqL K H a (ns.map V.int)->sp [.ref a] H (fun v _=>v=.bl true) fun _ _ _=>False) (hCX:∀H e s',CX [] H s₁ (fun _ _ _=>False) e s'->False):
  jH (model P w) zI (.call (.ref fa) ⟨[.ref a],[]⟩) (fun r s'=>r=.ok (.ret (.bool true))/\OldK s₁.heap s'.heap/\s'.os=s₁.os/\kY s'.gens) s₁:=by
 have rv:=sg hi;have lenV:=hi.length;have cases3:∀b,(b∈tabs/\iz K tabs a vs ns b=some (.tbl #[]))\/(b=a/\K.lookup a=none/\iz K tabs a vs ns b=some (.frz {cls:=.type "list",data:=.seq vs.toArray} (.lst (ns.map V.int))))\/iz K tabs a vs ns b=none:=fun b=>by
  unfold iz;by_cases h1:b∈tabs
  ·exact .inl ⟨h1,if_pos h1⟩
  ·rw[if_neg h1]
   by_cases h2:b=a/\K.lookup a=none
   ·exact .inr (.inl ⟨h2.1,h2.2,if_pos h2⟩)
   ·exact .inr (.inr (if_neg h2))
 have tabH:∀p∈tabs,iz K tabs a vs ns p=some (.tbl #[]):=fun p hp=>if_pos hp;have haT:a∉tabs:=fun z=>by
  have :=(hT a z).1
  rw[ha]at this;cases this
 --what is neither a table nor a list is not tracked
 have untr:∀{b:Addr}{o:Obj},s₁.heap.get? b=some o->o.cls≠.none\/(∃es ep,o.data=.dict es ep)->o.cls≠.type "list"\/(∃es ep,o.data=.dict es ep)->iz K tabs a vs ns b=none:=fun{b o} e h1 h2=>by
  rcases cases3 b with⟨q,_⟩ |⟨rfl,_⟩ |q
  ·have :=(hT b q).1
   rw[e]at this;cases this;rcases h1 with z|⟨_,_,z⟩
   ·exact absurd rfl z
   ·cases z
  ·rw[ha]at e;cases e
   rcases h2 with z|⟨_,_,z⟩
   ·exact absurd rfl z
   ·cases z
  ·exact q
 have nsK:∀{b:Addr}{m:Str->Option Value},s₁.heap.Ns b m->(wa s₁.heap (iz K tabs a vs ns)).Ns b m:=fun{b m} ⟨o,es,ep,e,d,r⟩=>⟨o,es,ep,qI e (untr e (.inr ⟨_,_,d⟩) (.inr ⟨_,_,d⟩)),d,r⟩;have hKb:K.In (wa s₁.heap (iz K tabs a vs ns)):=fun b o e=>qI (KX b o e) (by
  rcases cases3 b with⟨q,_⟩ |⟨rfl,z,_⟩ |q
  ·rw[(hT b q).2.2]at e;cases e
  ·rw[z]at e;cases e
  ·exact q)
 have hok:HOk P w (iz K tabs a vs ns) s₁.heap:=fun b o e=>by
  rcases cases3 b with⟨q,z⟩ |⟨rfl,_,z⟩ |z
  ·rw[z]at e;cases e
   exact(hT b q).1
  ·rw[z]at e;cases e
   exact⟨ha,by rw[ag];exact hl,vs,_,rv,ha⟩
  ·rw[z]at e;cases e
 have hS:SqL K (iz K tabs a vs ns) a (ns.map V.int):=by
  cases hk:K.lookup a with
  |none=>
   refine .inl (.inr ⟨{cls:=.type "list",data:=.seq vs.toArray},?_⟩);unfold iz;rw[if_neg haT,if_pos ⟨rfl,hk⟩]
  |some o=>
   have e:=KX a o hk;rw[ha]at e;cases e;exact .inr ⟨_,vs.toArray,_,hk,rfl,rfl,rfl,by rw[ay,lenV];exact hl,by simpa using rv⟩
 have hM:Mod K mg (wa s₁.heap (iz K tabs a vs ns)):=⟨hKb,nsK hns,⟨mb,nsK hb,hbb⟩,let⟨mc,h1,h2⟩:=hlim;⟨mc,nsK h1,h2⟩⟩;have e0:Env0 P w K mg (wa s₁.heap (iz K tabs a vs ns)) zI [] s₁ (iz K tabs a vs ns):=⟨rfl,hM,fun b o e=>of_hidT e,Nat.le_of_eq (AH _ _),trivial,fun b hb=>absurd (show b∈([]:List Addr)from hb) (by simp),hok,.of_eq hg⟩;have f0:=F _ hKb (nsK hns) fun b o e h1 h2=>qI e (untr e (.inl h1) (.inl h2));refine jG (f0.run zI [] s₁ (iz K tabs a vs ns) ⟨[.ref a],[]⟩ [.ref a] [.ref a] _ _ hr e0 (hbind s₁ (.ref a)) (.cons rfl .nil) (hsp _ tabH hS)) fun r s' h=>?_;cases r with
 |error e=>exact(hCX _ e s' h).elim
 |ok fl=>
  cases fl with
  |next =>exact jd h
  |brk=>exact jd h
  |cont=>exact jd h
  |ret u=>
   obtain⟨v,H',os,bare,un,hok',r',q⟩:=h;have q':v=.bl true:=q;subst q';obtain rfl:u=uW true:=r';have kept:∀b o,s₁.heap.get? b=some o->b∉tabs->s'.heap.get? b=some o:=fun b o e nt=>by
    rcases cases3 b with⟨z,_⟩ |⟨rfl,_,z⟩ |z
    ·exact absurd z nt
    ·have z2:=un.frzs b _ _ z
     obtain⟨e2,_⟩:=hok' b _ z2;rw[ha]at e;cases e;exact e2
    ·exact un.keep b o e z (by intro z;exact absurd (show b∈([]:List Addr)from z) (by simp)) (by simp)
   have grown:∀b∈tabs,∃more,s'.heap.get? b=some (tabObj (#[]++more)):=fun b hb=>by
    obtain⟨more,z⟩:=un.tbls b _ (tabH b hb);exact⟨more,hok' b _ z⟩
   refine⟨rfl,⟨fun b o e=>?_,fun b o e=>?_⟩,os,bare⟩
   ·by_cases hb:b∈tabs
    ·obtain⟨e1,ct,_⟩:=hT b hb
     rw[e]at e1;cases e1;obtain⟨more,z⟩:=grown b hb;exact .inr (.inl ⟨ct,rfl,#[],more,rfl,z⟩)
    ·exact .inl (kept b o e hb)
   ·by_cases hb:b∈tabs
    ·obtain⟨more,z⟩:=grown b hb
     exact⟨_,z⟩
    ·exact⟨o,kept b o e hb⟩
theorem bm_of{mg:Str->Option Value}{h:Heap}(hg:h.Ns bV mg)(hb:∃bm ob,mg "__builtins__"=some (.ref bm)/\bm≠j9/\h.get? bm=some ob/\ob.cls=.type "module"/\ob.dict=some j9/\ob.data=.plain):BM mg h:=by
 obtain⟨bm,ob,b1,b2,b3,b4,b5,b6⟩:=hb;refine⟨bm,ob,b1,b2,fun q=>?_,b3,b4,b5,b6⟩;obtain⟨o,es,ep,e,hd,_⟩:=hg;rw[q,e]at b3;cases b3;rw[hd]at b6;cases b6
theorem BC{l:PySem.W.OpenLaw}{n k:Nat}{q:Program}{loose:List Str}{XP:(Str->Option Value)->Heap->Prop}{YP:World->Heap->Prop}{d:DefRec}{K:Params->aa}{CX:CXT}{sp:aa->Sp}{x:Str}{tabs:List Addr}
  (hn:l.most=some n)(hn2:n<=sizeLine)(hdf:d.params.defaults=[])(hr:jc k zI)(hY:∀(w:World)(h:Heap),YP w h->(K w.params).In h)
  (hT:∀(w:World)(s₀:Shared)(mg mb:Str->Option Value)(h:Heap),Ground q loose [] XP w s₀ mg mb h->YP w h->∀p∈tabs,h.get? p=some (tabObj #[])/\isCodeTable h p/\(K w.params).lookup p=none)
  (F:∀(w:World)(mg:Str->Option Value)(fa:Addr)(h:Heap),(K w.params).In h->h.Ns bV mg->mg d.name=some (.ref fa)->
   ∃fd:fI,(∀(s:Shared)(u:Value),BindsTo s fd ⟨[u],[]⟩ [(x,u)])/\
    ∀base:Heap,(K w.params).In base->base.Ns bV mg->BM mg base->iG l.prog w (K w.params) mg base CX k fa fd [x] (sp (K w.params)))
  (hsp:∀(K:aa)(H:Hp)(a:Addr)(ns:List Int),ns.length<=n->(∀p∈tabs,H p=some (.tbl #[]))->SqL K H a (ns.map V.int)->sp K [.ref a] H (fun v _=>v=.bl true) fun _ _ _=>False)
  (hCX:∀(H:Hp)(s:Shared)(e:Value)(s':Shared),CX [] H s (fun _ _ _=>False) e s'->False):
  PySem.W.WalkO q loose XP YP l.row.toRowW d [] (fun f vs=>PySem.call f vs):=by
 refine Att.wM hn hdf fun w s₀ s₁ mg mb fa o pm cd doc a vs ns G Y ho hd hcd hmg hobj hints hlen hg=>?_;have KX:=hY w _ Y;obtain⟨fd,hb,hF⟩:=F w mg fa _ KX G.T.g hmg;have hbm:=bm_of G.T.g G.T.bmain;refine AA KX G.T.g G.T.b G.T.builtins G.T.nolimit hg hobj hints (aU hlen hn2) hr (hT w s₀ mg mb _ G Y) (fun base k1 k2 k3=>hF base k1 k2 ?_) hb (fun H t S=>hsp _ H a ns hlen t S) fun H e s'=>hCX H s₁ e s';obtain⟨bm,ob,b1,b2,b0,b3,b4,b5,b6⟩:=hbm;exact⟨bm,ob,b1,b2,b0,k3 bm ob b3 (by rw[b4];nofun) (by rw[b4];decide),b4,b5,b6⟩
end Lm
set_option maxHeartbeats 0
namespace K53
open PySem PySem.Spec PySem.Calls PyProof.Rows L2 R Cp Lt Lm
noncomputable def wb(P:PySem.Params):aa:=
 (nat_lit 2,⟨.none,none,(.dict #[] 0),#[]⟩)::
 (nat_lit 3,⟨.type "dict",none,(.dict #[⟨aA P "__name__",.str "__name__" 165,.str "law_copykin_k53_fewest_changes" 372⟩,⟨aA P "__doc__",.str "__doc__" 166,.none⟩,⟨aA P "__package__",.str "__package__" 167,.none⟩,⟨aA P "__loader__",.str "__loader__" 168,.builtin "__main__.__loader__#opaque"⟩,⟨aA P "__spec__",.str "__spec__" 169,.none⟩,⟨aA P "__annotations__",.str "__annotations__" 170,.ref 6⟩,⟨aA P "__builtins__",.str "__builtins__" 171,.ref 4⟩,⟨aA P "__file__",.str "__file__" 173,.str "/claim/cut.py" 172⟩,⟨aA P "__cached__",.str "__cached__" 174,.none⟩,⟨aA P "KinError",.str "KinError" 206,.ref 24⟩,⟨aA P "NoFrame",.str "NoFrame" 222,.ref 37⟩,⟨aA P "LETTERS",.str "LETTERS" 226,.str "abcdefghijklmnopqrstuvwxyz" 225⟩,⟨aA P "LONGEST_NAME",.str "LONGEST_NAME" 228,.int 8 227⟩,⟨aA P "is_whole",.str "is_whole" 235,.ref 46⟩,⟨aA P "is_name",.str "is_name" 241,.ref 51⟩,⟨aA P "is_reading",.str "is_reading" 248,.ref 58⟩,⟨aA P "neighbours",.str "neighbours" 262,.ref 65⟩,⟨aA P "reached",.str "reached" 274,.ref 72⟩,⟨aA P "leads_one_way",.str "leads_one_way" 282,.ref 79⟩,⟨aA P "MOST_BRANCHES",.str "MOST_BRANCHES" 286,.int 80 285⟩,⟨aA P "is_pair",.str "is_pair" 293,.ref 86⟩,⟨aA P "names_of",.str "names_of" 299,.ref 91⟩,⟨aA P "is_frame",.str "is_frame" 305,.ref 96⟩,⟨aA P "frame_list",.str "frame_list" 313,.ref 104⟩,⟨aA P "is_read",.str "is_read" 321,.ref 109⟩,⟨aA P "begun_at",.str "begun_at" 327,.ref 114⟩,⟨aA P "joined",.str "joined" 333,.ref 119⟩,⟨aA P "left_over",.str "left_over" 342,.ref 126⟩,⟨aA P "climbed",.str "climbed" 348,.ref 131⟩,⟨aA P "settled",.str "settled" 359,.ref 138⟩,⟨aA P "fewest",.str "fewest" 371,.ref 146⟩,⟨aA P "_law_cell_at",.str "_law_cell_at" 381,.ref 153⟩,⟨aA P "_law_drawn",.str "_law_drawn" 389,.ref 160⟩,⟨aA P "_law_name",.str "_law_name" 400,.ref 167⟩,⟨aA P "_law_above",.str "_law_above" 409,.ref 174⟩,⟨aA P "_law_frame",.str "_law_frame" 423,.ref 181⟩,⟨aA P "_law_names",.str "_law_names" 429,.ref 186⟩,⟨aA P "_law_alone",.str "_law_alone" 437,.ref 193⟩,⟨aA P "_law_read",.str "_law_read" 450,.ref 200⟩,⟨aA P "_law_is_reading",.str "_law_is_reading" 457,.ref 207⟩,⟨aA P "_law_beside",.str "_law_beside" 467,.ref 214⟩,⟨aA P "_law_changes",.str "_law_changes" 473,.ref 219⟩,⟨aA P "_law_way_is",.str "_law_way_is" 485,.ref 226⟩,⟨aA P "_law_told_is",.str "_law_told_is" 495,.ref 233⟩,⟨aA P "_law_right",.str "_law_right" 508,.ref 240⟩,⟨aA P "law",.str "law" 525,.ref 247⟩] 46),#[]⟩)::
 (nat_lit 23,⟨.type "dict",none,(.dict #[⟨aA P "__module__",.str "__module__" 196,.str "copykin.errors" 187⟩,⟨aA P "__firstlineno__",.str "__firstlineno__" 200,.int 2 199⟩,⟨aA P "__static_attributes__",.str "__static_attributes__" 201,.ref 22⟩,⟨aA P "__weakref__",.str "__weakref__" 203,.ref 25⟩,⟨aA P "__doc__",.str "__doc__" 204,.none⟩] 3),#[]⟩)::
 (nat_lit 24,⟨.type "type",none,(.cls {name:="KinError",bases:=[.type "ValueError"],mro:=[.ref 24,.type "ValueError",.type "Exception",.type "BaseException",.type "object"],ns:=23,qualname:="KinError",hasDict:=true,slotNames:=[],subclasses:=[.ref 37],abstract:=false,collection:=none,hasDel:=false}),#[(some (.ref 15)),none,(some (.str "KinError" 189)),(some (.str "KinError" 197)),(some (.builtin "ValueError.__new__")),(some (.bool true))]⟩)::
 (nat_lit 36,⟨.type "dict",none,(.dict #[⟨aA P "__module__",.str "__module__" 214,.str "copykin.errors" 187⟩,⟨aA P "__firstlineno__",.str "__firstlineno__" 218,.int 4 217⟩,⟨aA P "__static_attributes__",.str "__static_attributes__" 219,.ref 35⟩,⟨aA P "__doc__",.str "__doc__" 220,.none⟩] 2),#[]⟩)::
 (nat_lit 37,⟨.type "type",none,(.cls {name:="NoFrame",bases:=[.ref 24],mro:=[.ref 37,.ref 24,.type "ValueError",.type "Exception",.type "BaseException",.type "object"],ns:=36,qualname:="NoFrame",hasDict:=true,slotNames:=[],subclasses:=[],abstract:=false,collection:=none,hasDel:=false}),#[(some (.ref 28)),none,(some (.str "NoFrame" 207)),(some (.str "NoFrame" 215)),(some (.builtin "ValueError.__new__")),(some (.bool true))]⟩)::
 (nat_lit 45,⟨.type "code",none,(.fields #[.str "is_whole" 229,.str "is_whole" 230,.str "/claim/cut.py" 231,.int 9 0,.int 1 0,.int 0 0,.int 0 0,.int 3 0,.ref 40,.bool true,.int 181 0,.ref 41,.none,.ref 42,.ref 43,.ref 44,.int 233 0,.int 9 0,.str "/claim/cut.py" 234]),#[]⟩)::
 (nat_lit 46,⟨.type "function",none,(.func (aL "is_whole" "is_whole" (bB (top 6)) (bu (top 6)) (aR (top 6)) .none .none .none (.str "copykin.tables" 223) none (.ref 45) .none)),#[]⟩)::
 (nat_lit 50,⟨.type "code",none,(.fields #[.str "is_name" 236,.str "is_name" 237,.str "/claim/cut.py" 238,.int 11 0,.int 1 0,.int 0 0,.int 0 0,.int 3 0,.ref 47,.bool true,.int 181 0,.ref 48,.none,.none,.none,.ref 49,.int 239 0,.int 11 0,.str "/claim/cut.py" 240]),#[]⟩)::
 (nat_lit 51,⟨.type "function",none,(.func (aL "is_name" "is_name" (bB (top 7)) (bu (top 7)) (aR (top 7)) .none .none .none (.str "copykin.tables" 223) none (.ref 50) .none)),#[]⟩)::
 (nat_lit 57,⟨.type "code",none,(.fields #[.str "is_reading" 242,.str "is_reading" 243,.str "/claim/cut.py" 244,.int 17 0,.int 1 0,.int 0 0,.int 0 0,.int 3 0,.ref 52,.bool true,.int 181 0,.ref 53,.none,.ref 54,.ref 55,.ref 56,.int 246 0,.int 17 0,.str "/claim/cut.py" 247]),#[]⟩)::
 (nat_lit 58,⟨.type "function",none,(.func (aL "is_reading" "is_reading" (bB (top 8)) (bu (top 8)) (aR (top 8)) .none .none .none (.str "copykin.tables" 223) none (.ref 57) .none)),#[]⟩)::
 (nat_lit 64,⟨.type "code",none,(.fields #[.str "neighbours" 251,.str "neighbours" 252,.str "/claim/cut.py" 253,.int 20 0,.int 2 0,.int 0 0,.int 0 0,.int 3 0,.ref 59,.bool true,.int 181 0,.ref 60,.none,.ref 61,.ref 62,.ref 63,.int 260 0,.int 20 0,.str "/claim/cut.py" 261]),#[]⟩)::
 (nat_lit 65,⟨.type "function",none,(.func (aL "neighbours" "neighbours" (bB (top 10)) (bu (top 10)) (aR (top 10)) .none .none .none (.str "copykin.ways" 249) none (.ref 64) .none)),#[]⟩)::
 (nat_lit 71,⟨.type "code",none,(.fields #[.str "reached" 263,.str "reached" 264,.str "/claim/cut.py" 265,.int 28 0,.int 1 0,.int 0 0,.int 0 0,.int 3 0,.ref 66,.bool true,.int 181 0,.ref 67,.none,.ref 68,.ref 69,.ref 70,.int 272 0,.int 28 0,.str "/claim/cut.py" 273]),#[]⟩)::
 (nat_lit 72,⟨.type "function",none,(.func (aL "reached" "reached" (bB (top 11)) (bu (top 11)) (aR (top 11)) .none .none .none (.str "copykin.ways" 249) none (.ref 71) .none)),#[]⟩)::
 (nat_lit 78,⟨.type "code",none,(.fields #[.str "leads_one_way" 275,.str "leads_one_way" 276,.str "/claim/cut.py" 277,.int 39 0,.int 2 0,.int 0 0,.int 0 0,.int 3 0,.ref 73,.bool true,.int 181 0,.ref 74,.none,.ref 75,.ref 76,.ref 77,.int 280 0,.int 39 0,.str "/claim/cut.py" 281]),#[]⟩)::
 (nat_lit 79,⟨.type "function",none,(.func (aL "leads_one_way" "leads_one_way" (bB (top 12)) (bu (top 12)) (aR (top 12)) .none .none .none (.str "copykin.ways" 249) none (.ref 78) .none)),#[]⟩)::
 (nat_lit 85,⟨.type "code",none,(.fields #[.str "is_pair" 287,.str "is_pair" 288,.str "/claim/cut.py" 289,.int 45 0,.int 1 0,.int 0 0,.int 0 0,.int 3 0,.ref 80,.bool true,.int 181 0,.ref 81,.none,.ref 82,.ref 83,.ref 84,.int 291 0,.int 45 0,.str "/claim/cut.py" 292]),#[]⟩)::
 (nat_lit 86,⟨.type "function",none,(.func (aL "is_pair" "is_pair" (bB (top 15)) (bu (top 15)) (aR (top 15)) .none .none .none (.str "copykin.frames" 283) none (.ref 85) .none)),#[]⟩)::
 (nat_lit 90,⟨.type "code",none,(.fields #[.str "names_of" 294,.str "names_of" 295,.str "/claim/cut.py" 296,.int 49 0,.int 1 0,.int 0 0,.int 0 0,.int 3 0,.ref 87,.bool true,.int 181 0,.ref 88,.none,.none,.none,.ref 89,.int 297 0,.int 49 0,.str "/claim/cut.py" 298]),#[]⟩)::
 (nat_lit 91,⟨.type "function",none,(.func (aL "names_of" "names_of" (bB (top 16)) (bu (top 16)) (aR (top 16)) .none .none .none (.str "copykin.frames" 283) none (.ref 90) .none)),#[]⟩)::
 (nat_lit 95,⟨.type "code",none,(.fields #[.str "is_frame" 300,.str "is_frame" 301,.str "/claim/cut.py" 302,.int 51 0,.int 2 0,.int 0 0,.int 0 0,.int 3 0,.ref 92,.bool true,.int 181 0,.ref 93,.none,.none,.none,.ref 94,.int 303 0,.int 51 0,.str "/claim/cut.py" 304]),#[]⟩)::
 (nat_lit 96,⟨.type "function",none,(.func (aL "is_frame" "is_frame" (bB (top 17)) (bu (top 17)) (aR (top 17)) .none .none .none (.str "copykin.frames" 283) none (.ref 95) .none)),#[]⟩)::
 (nat_lit 97,⟨.type "tuple",none,(.seq #[.none] 0),#[]⟩)::
 (nat_lit 103,⟨.type "code",none,(.fields #[.str "frame_list" 306,.str "frame_list" 307,.str "/claim/cut.py" 308,.int 59 0,.int 2 0,.int 0 0,.int 0 0,.int 3 0,.ref 98,.bool true,.int 181 0,.ref 99,.none,.ref 100,.ref 101,.ref 102,.int 311 0,.int 59 0,.str "/claim/cut.py" 312]),#[]⟩)::
 (nat_lit 104,⟨.type "function",none,(.func (aL "frame_list" "frame_list" (bB (top 18)) (bu (top 18)) (aR (top 18)) (.ref 97) .none .none (.str "copykin.frames" 283) none (.ref 103) .none)),#[]⟩)::
 (nat_lit 108,⟨.type "code",none,(.fields #[.str "is_read" 316,.str "is_read" 317,.str "/claim/cut.py" 318,.int 64 0,.int 2 0,.int 0 0,.int 0 0,.int 3 0,.ref 105,.bool true,.int 181 0,.ref 106,.none,.none,.none,.ref 107,.int 319 0,.int 64 0,.str "/claim/cut.py" 320]),#[]⟩)::
 (nat_lit 109,⟨.type "function",none,(.func (aL "is_read" "is_read" (bB (top 20)) (bu (top 20)) (aR (top 20)) .none .none .none (.str "copykin.changes" 314) none (.ref 108) .none)),#[]⟩)::
 (nat_lit 113,⟨.type "code",none,(.fields #[.str "begun_at" 322,.str "begun_at" 323,.str "/claim/cut.py" 324,.int 68 0,.int 2 0,.int 0 0,.int 0 0,.int 3 0,.ref 110,.bool true,.int 181 0,.ref 111,.none,.none,.none,.ref 112,.int 325 0,.int 68 0,.str "/claim/cut.py" 326]),#[]⟩)::
 (nat_lit 114,⟨.type "function",none,(.func (aL "begun_at" "begun_at" (bB (top 21)) (bu (top 21)) (aR (top 21)) .none .none .none (.str "copykin.changes" 314) none (.ref 113) .none)),#[]⟩)::
 (nat_lit 118,⟨.type "code",none,(.fields #[.str "joined" 328,.str "joined" 329,.str "/claim/cut.py" 330,.int 70 0,.int 3 0,.int 0 0,.int 0 0,.int 3 0,.ref 115,.bool true,.int 181 0,.ref 116,.none,.none,.none,.ref 117,.int 331 0,.int 70 0,.str "/claim/cut.py" 332]),#[]⟩)::
 (nat_lit 119,⟨.type "function",none,(.func (aL "joined" "joined" (bB (top 22)) (bu (top 22)) (aR (top 22)) .none .none .none (.str "copykin.changes" 314) none (.ref 118) .none)),#[]⟩)::
 (nat_lit 125,⟨.type "code",none,(.fields #[.str "left_over" 334,.str "left_over" 335,.str "/claim/cut.py" 336,.int 72 0,.int 3 0,.int 0 0,.int 0 0,.int 3 0,.ref 120,.bool true,.int 181 0,.ref 121,.none,.ref 122,.ref 123,.ref 124,.int 340 0,.int 72 0,.str "/claim/cut.py" 341]),#[]⟩)::
 (nat_lit 126,⟨.type "function",none,(.func (aL "left_over" "left_over" (bB (top 23)) (bu (top 23)) (aR (top 23)) .none .none .none (.str "copykin.changes" 314) none (.ref 125) .none)),#[]⟩)::
 (nat_lit 130,⟨.type "code",none,(.fields #[.str "climbed" 343,.str "climbed" 344,.str "/claim/cut.py" 345,.int 78 0,.int 2 0,.int 0 0,.int 0 0,.int 3 0,.ref 127,.bool true,.int 181 0,.ref 128,.none,.none,.none,.ref 129,.int 346 0,.int 78 0,.str "/claim/cut.py" 347]),#[]⟩)::
 (nat_lit 131,⟨.type "function",none,(.func (aL "climbed" "climbed" (bB (top 24)) (bu (top 24)) (aR (top 24)) .none .none .none (.str "copykin.changes" 314) none (.ref 130) .none)),#[]⟩)::
 (nat_lit 137,⟨.type "code",none,(.fields #[.str "settled" 349,.str "settled" 350,.str "/claim/cut.py" 351,.int 95 0,.int 2 0,.int 0 0,.int 0 0,.int 3 0,.ref 132,.bool true,.int 181 0,.ref 133,.none,.ref 134,.ref 135,.ref 136,.int 357 0,.int 95 0,.str "/claim/cut.py" 358]),#[]⟩)::
 (nat_lit 138,⟨.type "function",none,(.func (aL "settled" "settled" (bB (top 25)) (bu (top 25)) (aR (top 25)) .none .none .none (.str "copykin.changes" 314) none (.ref 137) .none)),#[]⟩)::
 (nat_lit 139,⟨.type "tuple",none,(.seq #[.none] 0),#[]⟩)::
 (nat_lit 145,⟨.type "code",none,(.fields #[.str "fewest" 360,.str "fewest" 361,.str "/claim/cut.py" 362,.int 103 0,.int 3 0,.int 0 0,.int 0 0,.int 3 0,.ref 140,.bool true,.int 181 0,.ref 141,.none,.ref 142,.ref 143,.ref 144,.int 369 0,.int 103 0,.str "/claim/cut.py" 370]),#[]⟩)::
 (nat_lit 146,⟨.type "function",none,(.func (aL "fewest" "fewest" (bB (top 26)) (bu (top 26)) (aR (top 26)) (.ref 139) .none .none (.str "copykin.changes" 314) none (.ref 145) .none)),#[]⟩)::
 (nat_lit 152,⟨.type "code",none,(.fields #[.str "_law_cell_at" 374,.str "_law_cell_at" 375,.str "/claim/cut.py" 376,.int 111 0,.int 2 0,.int 0 0,.int 0 0,.int 3 0,.ref 147,.bool true,.int 181 0,.ref 148,.none,.ref 149,.ref 150,.ref 151,.int 379 0,.int 111 0,.str "/claim/cut.py" 380]),#[]⟩)::
 (nat_lit 153,⟨.type "function",none,(.func (aL "_law_cell_at" "_law_cell_at" (bB (top 28)) (bu (top 28)) (aR (top 28)) .none .none .none (.str "law_copykin_k53_fewest_changes" 372) none (.ref 152) .none)),#[]⟩)::
 (nat_lit 159,⟨.type "code",none,(.fields #[.str "_law_drawn" 382,.str "_law_drawn" 383,.str "/claim/cut.py" 384,.int 115 0,.int 2 0,.int 0 0,.int 0 0,.int 3 0,.ref 154,.bool true,.int 181 0,.ref 155,.none,.ref 156,.ref 157,.ref 158,.int 387 0,.int 115 0,.str "/claim/cut.py" 388]),#[]⟩)::
 (nat_lit 160,⟨.type "function",none,(.func (aL "_law_drawn" "_law_drawn" (bB (top 29)) (bu (top 29)) (aR (top 29)) .none .none .none (.str "law_copykin_k53_fewest_changes" 372) none (.ref 159) .none)),#[]⟩)::
 (nat_lit 166,⟨.type "code",none,(.fields #[.str "_law_name" 390,.str "_law_name" 391,.str "/claim/cut.py" 392,.int 119 0,.int 2 0,.int 0 0,.int 0 0,.int 3 0,.ref 161,.bool true,.int 181 0,.ref 162,.none,.ref 163,.ref 164,.ref 165,.int 398 0,.int 119 0,.str "/claim/cut.py" 399]),#[]⟩)::
 (nat_lit 167,⟨.type "function",none,(.func (aL "_law_name" "_law_name" (bB (top 30)) (bu (top 30)) (aR (top 30)) .none .none .none (.str "law_copykin_k53_fewest_changes" 372) none (.ref 166) .none)),#[]⟩)::
 (nat_lit 173,⟨.type "code",none,(.fields #[.str "_law_above" 401,.str "_law_above" 402,.str "/claim/cut.py" 403,.int 124 0,.int 3 0,.int 0 0,.int 0 0,.int 3 0,.ref 168,.bool true,.int 181 0,.ref 169,.none,.ref 170,.ref 171,.ref 172,.int 407 0,.int 124 0,.str "/claim/cut.py" 408]),#[]⟩)::
 (nat_lit 174,⟨.type "function",none,(.func (aL "_law_above" "_law_above" (bB (top 31)) (bu (top 31)) (aR (top 31)) .none .none .none (.str "law_copykin_k53_fewest_changes" 372) none (.ref 173) .none)),#[]⟩)::
 (nat_lit 180,⟨.type "code",none,(.fields #[.str "_law_frame" 410,.str "_law_frame" 411,.str "/claim/cut.py" 412,.int 130 0,.int 3 0,.int 0 0,.int 0 0,.int 3 0,.ref 175,.bool true,.int 181 0,.ref 176,.none,.ref 177,.ref 178,.ref 179,.int 421 0,.int 130 0,.str "/claim/cut.py" 422]),#[]⟩)::
 (nat_lit 181,⟨.type "function",none,(.func (aL "_law_frame" "_law_frame" (bB (top 32)) (bu (top 32)) (aR (top 32)) .none .none .none (.str "law_copykin_k53_fewest_changes" 372) none (.ref 180) .none)),#[]⟩)::
 (nat_lit 185,⟨.type "code",none,(.fields #[.str "_law_names" 424,.str "_law_names" 425,.str "/claim/cut.py" 426,.int 140 0,.int 3 0,.int 0 0,.int 0 0,.int 3 0,.ref 182,.bool true,.int 181 0,.ref 183,.none,.none,.none,.ref 184,.int 427 0,.int 140 0,.str "/claim/cut.py" 428]),#[]⟩)::
 (nat_lit 186,⟨.type "function",none,(.func (aL "_law_names" "_law_names" (bB (top 33)) (bu (top 33)) (aR (top 33)) .none .none .none (.str "law_copykin_k53_fewest_changes" 372) none (.ref 185) .none)),#[]⟩)::
 (nat_lit 192,⟨.type "code",none,(.fields #[.str "_law_alone" 430,.str "_law_alone" 431,.str "/claim/cut.py" 432,.int 142 0,.int 2 0,.int 0 0,.int 0 0,.int 3 0,.ref 187,.bool true,.int 181 0,.ref 188,.none,.ref 189,.ref 190,.ref 191,.int 435 0,.int 142 0,.str "/claim/cut.py" 436]),#[]⟩)::
 (nat_lit 193,⟨.type "function",none,(.func (aL "_law_alone" "_law_alone" (bB (top 34)) (bu (top 34)) (aR (top 34)) .none .none .none (.str "law_copykin_k53_fewest_changes" 372) none (.ref 192) .none)),#[]⟩)::
 (nat_lit 199,⟨.type "code",none,(.fields #[.str "_law_read" 438,.str "_law_read" 439,.str "/claim/cut.py" 440,.int 146 0,.int 3 0,.int 0 0,.int 0 0,.int 3 0,.ref 194,.bool true,.int 181 0,.ref 195,.none,.ref 196,.ref 197,.ref 198,.int 448 0,.int 146 0,.str "/claim/cut.py" 449]),#[]⟩)::
 (nat_lit 200,⟨.type "function",none,(.func (aL "_law_read" "_law_read" (bB (top 35)) (bu (top 35)) (aR (top 35)) .none .none .none (.str "law_copykin_k53_fewest_changes" 372) none (.ref 199) .none)),#[]⟩)::
 (nat_lit 206,⟨.type "code",none,(.fields #[.str "_law_is_reading" 451,.str "_law_is_reading" 452,.str "/claim/cut.py" 453,.int 156 0,.int 1 0,.int 0 0,.int 0 0,.int 3 0,.ref 201,.bool true,.int 181 0,.ref 202,.none,.ref 203,.ref 204,.ref 205,.int 455 0,.int 156 0,.str "/claim/cut.py" 456]),#[]⟩)::
 (nat_lit 207,⟨.type "function",none,(.func (aL "_law_is_reading" "_law_is_reading" (bB (top 36)) (bu (top 36)) (aR (top 36)) .none .none .none (.str "law_copykin_k53_fewest_changes" 372) none (.ref 206) .none)),#[]⟩)::
 (nat_lit 213,⟨.type "code",none,(.fields #[.str "_law_beside" 458,.str "_law_beside" 459,.str "/claim/cut.py" 460,.int 158 0,.int 1 0,.int 0 0,.int 0 0,.int 3 0,.ref 208,.bool true,.int 181 0,.ref 209,.none,.ref 210,.ref 211,.ref 212,.int 465 0,.int 158 0,.str "/claim/cut.py" 466]),#[]⟩)::
 (nat_lit 214,⟨.type "function",none,(.func (aL "_law_beside" "_law_beside" (bB (top 37)) (bu (top 37)) (aR (top 37)) .none .none .none (.str "law_copykin_k53_fewest_changes" 372) none (.ref 213) .none)),#[]⟩)::
 (nat_lit 218,⟨.type "code",none,(.fields #[.str "_law_changes" 468,.str "_law_changes" 469,.str "/claim/cut.py" 470,.int 164 0,.int 2 0,.int 0 0,.int 0 0,.int 3 0,.ref 215,.bool true,.int 181 0,.ref 216,.none,.none,.none,.ref 217,.int 471 0,.int 164 0,.str "/claim/cut.py" 472]),#[]⟩)::
 (nat_lit 219,⟨.type "function",none,(.func (aL "_law_changes" "_law_changes" (bB (top 38)) (bu (top 38)) (aR (top 38)) .none .none .none (.str "law_copykin_k53_fewest_changes" 372) none (.ref 218) .none)),#[]⟩)::
 (nat_lit 225,⟨.type "code",none,(.fields #[.str "_law_way_is" 474,.str "_law_way_is" 475,.str "/claim/cut.py" 476,.int 166 0,.int 4 0,.int 0 0,.int 0 0,.int 3 0,.ref 220,.bool true,.int 181 0,.ref 221,.none,.ref 222,.ref 223,.ref 224,.int 483 0,.int 166 0,.str "/claim/cut.py" 484]),#[]⟩)::
 (nat_lit 226,⟨.type "function",none,(.func (aL "_law_way_is" "_law_way_is" (bB (top 39)) (bu (top 39)) (aR (top 39)) .none .none .none (.str "law_copykin_k53_fewest_changes" 372) none (.ref 225) .none)),#[]⟩)::
 (nat_lit 232,⟨.type "code",none,(.fields #[.str "_law_told_is" 486,.str "_law_told_is" 487,.str "/claim/cut.py" 488,.int 175 0,.int 3 0,.int 0 0,.int 0 0,.int 3 0,.ref 227,.bool true,.int 181 0,.ref 228,.none,.ref 229,.ref 230,.ref 231,.int 493 0,.int 175 0,.str "/claim/cut.py" 494]),#[]⟩)::
 (nat_lit 233,⟨.type "function",none,(.func (aL "_law_told_is" "_law_told_is" (bB (top 40)) (bu (top 40)) (aR (top 40)) .none .none .none (.str "law_copykin_k53_fewest_changes" 372) none (.ref 232) .none)),#[]⟩)::
 (nat_lit 239,⟨.type "code",none,(.fields #[.str "_law_right" 496,.str "_law_right" 497,.str "/claim/cut.py" 498,.int 182 0,.int 4 0,.int 0 0,.int 0 0,.int 3 0,.ref 234,.bool true,.int 181 0,.ref 235,.none,.ref 236,.ref 237,.ref 238,.int 506 0,.int 182 0,.str "/claim/cut.py" 507]),#[]⟩)::
 (nat_lit 240,⟨.type "function",none,(.func (aL "_law_right" "_law_right" (bB (top 41)) (bu (top 41)) (aR (top 41)) .none .none .none (.str "law_copykin_k53_fewest_changes" 372) none (.ref 239) .none)),#[]⟩)::
 (nat_lit 246,⟨.type "code",none,(.fields #[.str "law" 509,.str "law" 510,.str "/claim/cut.py" 511,.int 193 0,.int 1 0,.int 0 0,.int 0 0,.int 3 0,.ref 241,.bool true,.int 181 0,.ref 242,.none,.ref 243,.ref 244,.ref 245,.int 523 0,.int 193 0,.str "/claim/cut.py" 524]),#[]⟩)::
 (nat_lit 247,⟨.type "function",none,(.func (aL "law" "law" (bB (top 42)) (bu (top 42)) (aR (top 42)) .none .none .none (.str "law_copykin_k53_fewest_changes" 372) none (.ref 246) .none)),#[]⟩)::[]
noncomputable def wc:List Addr:=[2,3,23,24,36,37,45,46,50,51,57,58,64,65,71,72,78,79,85,86,90,91,95,96,97,103,104,108,109,113,114,118,119,125,126,130,131,137,138,139,145,146,152,153,159,160,166,167,173,174,180,181,185,186,192,193,199,200,206,207,213,214,218,219,225,226,232,233,239,240,246,247]
noncomputable def lhsB(w:World):=(ED treeTable PySem.Challenge.pw_copykin_k53_fewest_changes w 3036).map (xh (iH K53.wb K53.wc (fun _=>by kernel_rfl) []))
noncomputable def rhsB(w:World):=some (xg (iH K53.wb K53.wc (fun _=>by kernel_rfl) []) w)
theorem laidB:(seen lhsB&&seen rhsB)=true:=by k_qdec
theorem leftB(w:World):lhsB w=rhsB w:=by
 have _:=laidB;rw[PySem.W.Fast.te11865853048137514904,PySem.W.Fast.te7262710778301603954]
 kernel_rfl
noncomputable def uP(K:aa)(x:Str)(st:Stmt)(T:Addr):Prop:=∃(f:Addr)(oc:Value)(od an od':Option Addr)(osl sl:Array (Option Value))(kV doc pm cdv ct:Value)(m:Nat),eV K bV x=some (some (.ref f))/\
 K.lookup f=some ⟨oc,od,.func (aL x x (bB st) (bu st) (aR st) (.ref T) kV doc pm an cdv ct),osl⟩/\dO K cdv x=true/\b9 K (.ref f)=true/\K.lookup T=some ⟨.type "tuple",od',.seq #[.none] m,sl⟩
theorem sS{K:aa}{x:Str}{st:Stmt}{f T:Addr}{oc:Value}{od an od':Option Addr}{osl sl:Array (Option Value)}{kV doc pm cdv ct:Value}{m:Nat}(a:eV K bV x=some (some (.ref f)))
  (l:K.lookup f=some ⟨oc,od,.func (aL x x (bB st) (bu st) (aR st) (.ref T) kV doc pm an cdv ct),osl⟩)(c:dO K cdv x=true)(k:b9 K (.ref f)=true)(t:K.lookup T=some ⟨.type "tuple",od',.seq #[.none] m,sl⟩):uP K x st T:=
 ⟨f,oc,od,an,od',osl,sl,kV,doc,pm,cdv,ct,m,a,l,c,k,t⟩
theorem zE{P:Program}{w:World}{K:aa}{mg:Str->Option Value}{base h:Heap}{k:Nat}{vals:List (Str×V)}{fns:List ((Str×Nat)×(Sp×List V))}{x:Str}{st:Stmt}{T:Addr}{N ps:List Str}{sp:Sp}{code:CB}(g:GOk P w K mg base (CXx P w) k (gam vals fns))(X:K.In h)(Gm:h.Ns bV mg)(d:uP K x st T)
  (hc:(qq N ps (aR st)&&qU (aR st) N code (bu st))=true)
  (hb:∀(kV doc pm:Value)(an:Option Addr)(cdv ct:Value)(od':Option Addr)(sl:Array (Option Value))(m:Nat),K.lookup T=some ⟨.type "tuple",od',.seq #[.none] m,sl⟩->Binds K (aL x x (bB st) (bu st) (aR st) (.ref T) kV doc pm an cdv ct) ps [])
  (len:∀vs H Q E,sp vs H Q E->vs.length=ps.length)
  (hw:∀vs H Q E,sp vs H Q E->wpB (gam vals fns) K (fun _=>E) code {nx:=fun _ H'=>Q .non H',rt:=Q} (L2.start N vs) H):GOk P w K mg base (CXx P w) (k+1) (gam vals (((x,ps.length),(sp,[]))::fns)):=by
 rw[aP]at hc;obtain⟨f,oc,od,an,od',osl,sl,kV,doc,pm,cdv,ct,m,a,l,c,kp,t⟩:=d;exact g.add (n:=ps.length) (wg l c hc.1 hc.2 g len hw) (gH X Gm a) kp (hb _ _ _ _ _ _ _ _ _ t) .nil
noncomputable def vals:List (Str×V):=[("LETTERS",.str LETTERS),("LONGEST_NAME",.int 8),("MOST_BRANCHES",.int 80)]
theorem all_mk{P:Program}{w:World}{K:aa}{h:Heap}{mg:Str->Option Value}{fa:Addr}(X:K.In h)(Gm:h.Ns bV mg)(hfa:mg "law"=some (.ref fa)){t1 t2 t3:Tok}
  (v1:eV K bV "LETTERS"=some (some (.str LETTERS t1)))(v2:eV K bV "LONGEST_NAME"=some (some (.int 8 t2)))(v3:eV K bV "MOST_BRANCHES"=some (some (.int 80 t3)))
  (bl:∀x∈gC,eV K bV x=some none)(h6:HasFn K "is_whole" (top 6))(h7:HasFn K "is_name" (top 7))(h8:HasFn K "is_reading" (top 8))(h10:HasFn K "neighbours" (top 10))(h11:HasFn K "reached" (top 11))(h12:HasFn K "leads_one_way" (top 12))(h15:HasFn K "is_pair" (top 15))(h16:HasFn K "names_of" (top 16))(h17:HasFn K "is_frame" (top 17))(h18:uP K "frame_list" (top 18) 97)(h20:HasFn K "is_read" (top 20))(h21:HasFn K "begun_at" (top 21))(h22:HasFn K "joined" (top 22))(h23:HasFn K "left_over" (top 23))(h24:HasFn K "climbed" (top 24))(h25:HasFn K "settled" (top 25))(h26:uP K "fewest" (top 26) 139)(h28:HasFn K "_law_cell_at" (top 28))(h29:HasFn K "_law_drawn" (top 29))(h30:HasFn K "_law_name" (top 30))(h31:HasFn K "_law_above" (top 31))(h32:HasFn K "_law_frame" (top 32))(h33:HasFn K "_law_names" (top 33))(h34:HasFn K "_law_alone" (top 34))(h35:HasFn K "_law_read" (top 35))(h36:HasFn K "_law_is_reading" (top 36))(h37:HasFn K "_law_beside" (top 37))(h38:HasFn K "_law_changes" (top 38))(h39:HasFn K "_law_way_is" (top 39))(h40:HasFn K "_law_told_is" (top 40))(h41:HasFn K "_law_right" (top 41))(h42:HasFn K "law" (top 42)):
  ∃fd:fI,(∀(s:Shared)(v:Value),BindsTo s fd ⟨[v],[]⟩ [("_law_script",v)])/\∀base:Heap,K.In base->base.Ns bV mg->BM mg base->iG P w K mg base CX0 32 fa fd ["_law_script"] (fun vs H Q _=>F5.tQ K vs H Q E0):=by
 obtain⟨f,oc',od,an,osl,kV,doc,pm,cdv,ct,a,l,c,k⟩:=id h42;have e:=hfa.symm.trans (gH X Gm a);cases e;refine⟨aL "law" "law" (bB (top 42)) (bu (top 42)) (aR (top 42)) .none kV doc pm an cdv ct,fun s v=>.of_eq rfl,fun base Xb _ bm=>?_⟩;have hv:∀x v,(x,v)∈vals->∃u,mg x=some u/\RelV v u:=by
  intro x v hm;simp only[vals,aK,bA,or_false,Prod.mk.injEq]at hm;rcases hm with⟨rfl,rfl⟩ |⟨rfl,rfl⟩ |⟨rfl,rfl⟩
  ·exact⟨_,gH X Gm v1,t1,rfl⟩
  ·exact⟨_,gH X Gm v2,t2,rfl⟩
  ·exact⟨_,gH X Gm v3,t3,rfl⟩
 have g0:GOk P w K mg base (CXx P w) 0 (gam vals []):=GOk.start hv fun x hx=>PySem.W.mg_none_of X Gm (bl x hx);have g1:=cI (N:=Cp.qw) (ps:=Cp.xM) g0 (h6.def X Gm) (by decide+kernel) (fun _ _ _ _ _ _ us hl=>by obtain⟨_,rfl⟩:=Kc.jB hl;rfl) (sp:=spB isWhole) (fun vs H Q E h=>Kc.aY h fun _ h=>Kc.dN h rfl) vh;have g2:=cI (N:=Cp.sI) (ps:=Cp.Ap) g1 (h7.def X Gm) (by decide+kernel) (fun _ _ _ _ _ _ us hl=>by obtain⟨_,rfl⟩:=Kc.jB hl;rfl) (sp:=spN) (fun vs H Q E h=>Kc.aY h fun _ h=>Kc.dN h rfl) (xm (by kernel_rfl) (by kernel_rfl));have g3:=cI (N:=Cp.mR) (ps:=Cp.uf) g2 (h8.def X Gm) (by decide+kernel) (fun _ _ _ _ _ _ us hl=>by obtain⟨_,rfl⟩:=Kc.jB hl;rfl) (sp:=spB jk) (fun vs H Q E h=>Kc.aY h fun _ h=>Kc.dN h rfl) (rM (by kernel_rfl));have g4:=cI (N:=F5.mO) (ps:=F5.uc) g3 (h10.def X Gm) (by decide+kernel) (fun _ _ _ _ _ _ us hl=>by obtain⟨_,_,rfl⟩:=Kc.fL hl;rfl) (sp:=F5.spNb) (fun vs H Q E h=>Kc.aY h fun _ h=>Kc.aY h fun _ h=>Kc.aY h fun _ h=>Kc.aY h fun _ h=>Kc.aY h fun _ h=>Kc.dN h rfl) F5.wp_nb;have g5:=cI (N:=F5.sF) (ps:=F5.Am) g4 (h11.def X Gm) (by decide+kernel) (fun _ _ _ _ _ _ us hl=>by obtain⟨_,rfl⟩:=Kc.jB hl;rfl) (sp:=F5.spRe) (fun vs H Q E h=>Kc.aY h fun _ h=>Kc.aY h fun _ h=>Kc.aY h fun _ h=>Kc.dN h rfl) F5.wp_re;have g6:=cI (N:=F5.jN) (ps:=F5.pA) g5 (h12.def X Gm) (by decide+kernel) (fun _ _ _ _ _ _ us hl=>by obtain⟨_,_,rfl⟩:=Kc.fL hl;rfl) (sp:=F5.spLw) (fun vs H Q E h=>Kc.aY h fun _ h=>Kc.aY h fun _ h=>Kc.aY h fun _ h=>Kc.aY h fun _ h=>Kc.aY h fun _ h=>Kc.dN h rfl) (F5.wp_lw (by kernel_rfl));have g7:=cI (N:=F5.sH) (ps:=F5.Ao) g6 (h15.def X Gm) (by decide+kernel) (fun _ _ _ _ _ _ us hl=>by obtain⟨_,rfl⟩:=Kc.jB hl;rfl) (sp:=F5.spPr) (fun vs H Q E h=>Kc.aY h fun _ h=>Kc.aY h fun _ h=>Kc.aY h fun _ h=>Kc.dN h rfl) (F5.wp_pair (by kernel_rfl));have g8:=cI (N:=F5.qt) (ps:=F5.xI) g7 (h16.def X Gm) (by decide+kernel) (fun _ _ _ _ _ _ us hl=>by obtain⟨_,rfl⟩:=Kc.jB hl;rfl) (sp:=F5.spNo) (fun vs H Q E h=>Kc.aY h fun _ h=>Kc.aY h fun _ h=>Kc.aY h fun _ h=>Kc.aY h fun _ h=>Kc.dN h rfl) F5.wp_no;have g9:=cI (N:=F5.qx) (ps:=F5.xN) g8 (h17.def X Gm) (by decide+kernel) (fun _ _ _ _ _ _ us hl=>by obtain⟨_,_,rfl⟩:=Kc.fL hl;rfl) (sp:=F5.spIf) (fun vs H Q E h=>Kc.aY h fun _ h=>Kc.aY h fun _ h=>Kc.aY h fun _ h=>Kc.aY h fun _ h=>Kc.aY h fun _ h=>Kc.dN h rfl) (F5.wp_if (by kernel_rfl) (by kernel_rfl) (by kernel_rfl) (by kernel_rfl) (by kernel_rfl) (by kernel_rfl));have g10:=zE (N:=F5.mS) (ps:=F5.ug) g9 X Gm h18 (by decide+kernel) (fun _ _ _ _ _ _ _ _ _ t s us X hl=>by rw[cE]at hl⊢;obtain⟨_,_,rfl⟩:=Kc.fL hl;exact PySem.W.binds_K X rfl t rfl rfl rfl) (sp:=F5.spFl) (fun vs H Q E h=>Kc.aY h fun _ h=>Kc.aY h fun _ h=>Kc.aY h fun _ h=>Kc.aY h fun _ h=>Kc.aY h fun _ h=>Kc.dN h rfl) (F5.wp_fl (by kernel_rfl) (by kernel_rfl));have g11:=cI (N:=F5.sG) (ps:=F5.An) g10 (h20.def X Gm) (by decide+kernel) (fun _ _ _ _ _ _ us hl=>by obtain⟨_,_,rfl⟩:=Kc.fL hl;rfl) (sp:=F5.spIr) (fun vs H Q E h=>Kc.aY h fun _ h=>Kc.aY h fun _ h=>Kc.aY h fun _ h=>Kc.aY h fun _ h=>Kc.dN h rfl) (F5.wp_ir (by kernel_rfl) (by kernel_rfl));have g12:=cI (N:=F5.qy) (ps:=F5.xO) g11 (h21.def X Gm) (by decide+kernel) (fun _ _ _ _ _ _ us hl=>by obtain⟨_,_,rfl⟩:=Kc.fL hl;rfl) (sp:=F5.vv) (fun vs H Q E h=>Kc.aY h fun _ h=>Kc.aY h fun _ h=>Kc.aY h fun _ h=>Kc.aY h fun _ h=>Kc.aY h fun _ h=>Kc.dN h rfl) F5.wp_baC;have g13:=cI (N:=F5.vS) (ps:=F5.Dr) g12 (h22.def X Gm) (by decide+kernel) (fun _ _ _ _ _ _ us hl=>by obtain⟨_,_,_,rfl⟩:=Kc.fM hl;rfl) (sp:=F5.oy) (fun vs H Q E h=>Kc.aY h fun _ h=>Kc.aY h fun _ h=>Kc.aY h fun _ h=>Kc.aY h fun _ h=>Kc.aY h fun _ h=>Kc.aY h fun _ h=>Kc.aY h fun _ h=>Kc.aY h fun _ h=>Kc.aY h fun _ h=>Kc.dN h rfl) F5.wp_jnC;have g14:=cI (N:=F5.oB) (ps:=F5.vH) g13 (h23.def X Gm) (by decide+kernel) (fun _ _ _ _ _ _ us hl=>by obtain⟨_,_,_,rfl⟩:=Kc.fM hl;rfl) (sp:=F5.mH) (fun vs H Q E h=>Kc.aY h fun _ h=>Kc.aY h fun _ h=>Kc.aY h fun _ h=>Kc.aY h fun _ h=>Kc.aY h fun _ h=>Kc.aY h fun _ h=>Kc.aY h fun _ h=>Kc.aY h fun _ h=>Kc.aY h fun _ h=>Kc.dN h rfl) F5.wp_loC;have g15:=cI (N:=F5.sJ) (ps:=F5.Aq) g14 (h24.def X Gm) (by decide+kernel) (fun _ _ _ _ _ _ us hl=>by obtain⟨_,_,rfl⟩:=Kc.fL hl;rfl) (sp:=F5.B9) (fun vs H Q E h=>Kc.aY h fun _ h=>Kc.aY h fun _ h=>Kc.aY h fun _ h=>Kc.aY h fun _ h=>Kc.dN h rfl) (F5.wp_clC (by kernel_rfl) (by kernel_rfl) (by kernel_rfl));have g16:=cI (N:=F5.sE) (ps:=F5.Al) g15 (h25.def X Gm) (by decide+kernel) (fun _ _ _ _ _ _ us hl=>by obtain⟨_,_,rfl⟩:=Kc.fL hl;rfl) (sp:=F5.spSe) (fun vs H Q E h=>Kc.aY h fun _ h=>Kc.aY h fun _ h=>Kc.aY h fun _ h=>Kc.aY h fun _ h=>Kc.dN h rfl) F5.wp_se;have g17:=zE (N:=F5.vT) (ps:=F5.Ds) g16 X Gm h26 (by decide+kernel) (fun _ _ _ _ _ _ _ _ _ t s us X hl=>by rw[cE]at hl⊢;obtain⟨_,_,_,rfl⟩:=Kc.fM hl;exact PySem.W.binds_K X rfl t rfl rfl rfl) (sp:=F5.B8) (fun vs H Q E h=>Kc.aY h fun _ h=>Kc.aY h fun _ h=>Kc.aY h fun _ h=>Kc.aY h fun _ h=>Kc.aY h fun _ h=>Kc.aY h fun _ h=>Kc.aY h fun _ h=>Kc.dN h rfl) (F5.wp_fwC (by kernel_rfl) (by kernel_rfl) (by kernel_rfl) (by kernel_rfl) (by kernel_rfl) (by kernel_rfl));have g18:=cI (N:=Lt.lC) (ps:=Lt.rS) g17 (h28.def X Gm) (by decide+kernel) (fun _ _ _ _ _ _ us hl=>by obtain⟨_,_,rfl⟩:=Kc.fL hl;rfl) (sp:=Lt.xy K) (fun vs H Q E h=>Kc.aY h fun _ h=>Kc.aY h fun _ h=>Kc.aY h fun _ h=>Kc.dN h rfl) Lt.wp_cell;have g19:=cI (N:=F5.oG) (ps:=F5.vL) g18 (h29.def X Gm) (by decide+kernel) (fun _ _ _ _ _ _ us hl=>by obtain⟨_,_,rfl⟩:=Kc.fL hl;rfl) (sp:=F5.spDr K) (fun vs H Q E h=>Kc.aY h fun _ h=>Kc.aY h fun _ h=>Kc.aY h fun _ h=>Kc.dN h rfl) F5.wp_dr;have g20:=cI (N:=F5.qv) (ps:=F5.xK) g19 (h30.def X Gm) (by decide+kernel) (fun _ _ _ _ _ _ us hl=>by obtain⟨_,_,rfl⟩:=Kc.fL hl;rfl) (sp:=F5.spNm) (fun vs H Q E h=>Kc.aY h fun _ h=>Kc.aY h fun _ h=>Kc.dN h rfl) F5.wp_nm;have g21:=cI (N:=F5.oI) (ps:=F5.vN) g20 (h31.def X Gm) (by decide+kernel) (fun _ _ _ _ _ _ us hl=>by obtain⟨_,_,_,rfl⟩:=Kc.fM hl;rfl) (sp:=F5.spAb) (fun vs H Q E h=>Kc.aY h fun _ h=>Kc.aY h fun _ h=>Kc.aY h fun _ h=>Kc.dN h rfl) F5.wp_ab;have g22:=cI (N:=F5.oF) (ps:=F5.vK) g21 (h32.def X Gm) (by decide+kernel) (fun _ _ _ _ _ _ us hl=>by obtain⟨_,_,_,rfl⟩:=Kc.fM hl;rfl) (sp:=F5.spFr K) (fun vs H Q E h=>Kc.aY h fun _ h=>Kc.aY h fun _ h=>Kc.aY h fun _ h=>Kc.aY h fun _ h=>Kc.dN h rfl) (F5.wp_fr (by kernel_rfl) (by kernel_rfl) (by kernel_rfl));have g23:=cI (N:=F5.oE) (ps:=F5.vJ) g22 (h33.def X Gm) (by decide+kernel) (fun _ _ _ _ _ _ us hl=>by obtain⟨_,_,_,rfl⟩:=Kc.fM hl;rfl) (sp:=F5.spNs K) (fun vs H Q E h=>Kc.aY h fun _ h=>Kc.aY h fun _ h=>Kc.aY h fun _ h=>Kc.aY h fun _ h=>Kc.dN h rfl) (F5.wp_ns (by kernel_rfl));have g24:=cI (N:=F5.oH) (ps:=F5.vM) g23 (h34.def X Gm) (by decide+kernel) (fun _ _ _ _ _ _ us hl=>by obtain⟨_,_,rfl⟩:=Kc.fL hl;rfl) (sp:=F5.spAl) (fun vs H Q E h=>Kc.aY h fun _ h=>Kc.aY h fun _ h=>Kc.aY h fun _ h=>Kc.aY h fun _ h=>Kc.aY h fun _ h=>Kc.aY h fun _ h=>Kc.dN h rfl) F5.wp_al;have g25:=cI (N:=F5.qu) (ps:=F5.xJ) g24 (h35.def X Gm) (by decide+kernel) (fun _ _ _ _ _ _ us hl=>by obtain⟨_,_,_,rfl⟩:=Kc.fM hl;rfl) (sp:=F5.spRd K) (fun vs H Q E h=>Kc.aY h fun _ h=>Kc.aY h fun _ h=>Kc.aY h fun _ h=>Kc.aY h fun _ h=>Kc.aY h fun _ h=>Kc.dN h rfl) (F5.wp_rd (by kernel_rfl));have g26:=cI (N:=F5.ji) (ps:=F5.nV) g25 (h36.def X Gm) (by decide+kernel) (fun _ _ _ _ _ _ us hl=>by obtain⟨_,rfl⟩:=Kc.jB hl;rfl) (sp:=F5.spLr) (fun vs H Q E h=>Kc.aY h fun _ h=>Kc.dN h rfl) F5.wp_lr;have g27:=cI (N:=F5.mQ) (ps:=F5.ue) g26 (h37.def X Gm) (by decide+kernel) (fun _ _ _ _ _ _ us hl=>by obtain⟨_,rfl⟩:=Kc.jB hl;rfl) (sp:=F5.spBs) (fun vs H Q E h=>Kc.aY h fun _ h=>Kc.aY h fun _ h=>Kc.aY h fun _ h=>Kc.dN h rfl) F5.wp_bs;have g28:=cI (N:=F5.lB) (ps:=F5.rR) g27 (h38.def X Gm) (by decide+kernel) (fun _ _ _ _ _ _ us hl=>by obtain⟨_,_,rfl⟩:=Kc.fL hl;rfl) (sp:=F5.spCh) (fun vs H Q E h=>Kc.aY h fun _ h=>Kc.aY h fun _ h=>Kc.aY h fun _ h=>Kc.aY h fun _ h=>Kc.aY h fun _ h=>Kc.aY h fun _ h=>Kc.aY h fun _ h=>Kc.dN h rfl) F5.wp_ch;have g29:=cI (N:=F5.mP) (ps:=F5.ud) g28 (h39.def X Gm) (by decide+kernel) (fun _ _ _ _ _ _ us hl=>by obtain⟨_,_,_,_,rfl⟩:=F5.zi hl;rfl) (sp:=F5.spWi) (fun vs H Q E h=>Kc.aY h fun _ h=>Kc.aY h fun _ h=>Kc.aY h fun _ h=>Kc.aY h fun _ h=>Kc.aY h fun _ h=>Kc.aY h fun _ h=>Kc.aY h fun _ h=>Kc.aY h fun _ h=>Kc.aY h fun _ h=>Kc.dN h rfl) F5.wp_wi;have g30:=cI (N:=F5.lu) (ps:=F5.rQ) g29 (h40.def X Gm) (by decide+kernel) (fun _ _ _ _ _ _ us hl=>by obtain⟨_,_,_,rfl⟩:=Kc.fM hl;rfl) (sp:=F5.spTi) (fun vs H Q E h=>Kc.aY h fun _ h=>Kc.aY h fun _ h=>Kc.aY h fun _ h=>Kc.aY h fun _ h=>Kc.aY h fun _ h=>Kc.aY h fun _ h=>Kc.dN h rfl) (F5.wp_ti (by kernel_rfl));have g31:=cI (N:=F5.oD) (ps:=F5.vI) g30 (h41.def X Gm) (by decide+kernel) (fun _ _ _ _ _ _ us hl=>by obtain⟨_,_,_,_,rfl⟩:=F5.zi hl;rfl) (sp:=F5.spRt) (fun vs H Q E h=>Kc.aY h fun _ h=>Kc.aY h fun _ h=>Kc.aY h fun _ h=>Kc.aY h fun _ h=>Kc.aY h fun _ h=>Kc.aY h fun _ h=>Kc.aY h fun _ h=>Kc.aY h fun _ h=>Kc.aY h fun _ h=>Kc.aY h fun _ h=>Kc.aY h fun _ h=>Kc.aY h fun _ h=>Kc.aY h fun _ h=>Kc.aY h fun _ h=>Kc.dN h rfl) (F5.wp_rt (by kernel_rfl) (by kernel_rfl) (by kernel_rfl) (by kernel_rfl));have hk:(qq F5.Dz F5.p_law (aR (top 42))&&qU (aR (top 42)) F5.Dz F5.Ej (bu (top 42)))=true:=by decide+kernel
 rw[aP]at hk;exact iG.calm (zj (DV l c k) hk.1 hk.2 g31 (fun vs H Q E h=>Kc.aY h fun _ h=>Kc.aY h fun _ h=>Kc.dN h rfl) (F5.Bz ⟨by kernel_rfl,by kernel_rfl,by kernel_rfl,by kernel_rfl,by kernel_rfl,by kernel_rfl,by kernel_rfl⟩))
end K53
open PySem PySem.W PyProof.Rows
set_option maxRecDepth 100000 in
set_option maxHeartbeats 0 in
theorem PySem.Challenge.cw_copykin_k53_fewest_changes_holds : PySem.Challenge.rw_copykin_k53_fewest_changes.Holds := by
 w_on;o_law
 refine PySem.W.holds_open (q:=K53.vw) (loose:=K53.loo) (Xt:=K53.xt)
  (XP:=PySem.W.XL K53.vw []) (Yf:=xh (iH K53.wb K53.wc (fun _=>by kernel_rfl) [])) (Ya:=xg (iH K53.wb K53.wc (fun _=>by kernel_rfl) []))
  (YP:=PySem.W.Hook.says (iH K53.wb K53.wc (fun _=>by kernel_rfl) [])) (N:=3036) (fun w=>K53.both (K53.leftA w) (K53.leftB w)) (PySem.W.Hook.of _) (PySem.W.Hook.keeps _)
  (fun s e=>PySem.W.xl_of s (Bx.mp e).1) PySem.W.XL.keeps
  (by rfl) (by rfl) (by rfl)
  (fun s e=>PySem.W.recFacts_of (Bx.mp e).2) rfl (by assumption) (by decide+kernel)
  ⟨rfl,rfl,rfl,rfl,rfl,by decide+kernel⟩ ?hw ?hc
 (case hw=>w_witness2)
 k_fill
 refine Lm.BC (l:=PySem.Challenge.rw_copykin_k53_fewest_changes) (n:=63) (k:=32) (x:="_law_script") (CX:=L2.CX0) (sp:=fun K=>fun vs H Q _=>F5.tQ K vs H Q L2.E0) (tabs:=[]) rfl (by decide) rfl ⟨rfl,by decide,by decide⟩ (fun w h Y=>PySem.W.km_in_of Y) ?T ?F (fun K H a ns hl ht hS=>⟨a,ns,rfl,hS,hl,fun _=>rfl⟩) (fun _ _ _ _ z=>z)
 case T=>
  intro w s₀ mg mb h G Y p hp;exact nomatch hp
 case F=>
  intro w mg fa h KX G hmg;refine' K53.all_mk KX G hmg ?v1 ?v2 ?v3 ?bl ?h6 ?h7 ?h8 ?h10 ?h11 ?h12 ?h15 ?h16 ?h17 ?h18 ?h20 ?h21 ?h22 ?h23 ?h24 ?h25 ?h26 ?h28 ?h29 ?h30 ?h31 ?h32 ?h33 ?h34 ?h35 ?h36 ?h37 ?h38 ?h39 ?h40 ?h41 ?h42
  (case v1=>k_is);(case v2=>k_is);(case v3=>k_is)
  (case bl=>
   intro x hx;simp only[R.gC,aK,bA,or_false]at hx;rcases hx with rfl|rfl|rfl|rfl|rfl|rfl|rfl|rfl|rfl|rfl|rfl|rfl|rfl|rfl|rfl|rfl|rfl|rfl|rfl|rfl<;>k_is)
  (case h6=>refine' R.bP ?a ?l ?c ?k;(case a=>k_is);(case l=>k_is);(case c=>k_is);(case k=>k_is))
  (case h7=>refine' R.bP ?a ?l ?c ?k;(case a=>k_is);(case l=>k_is);(case c=>k_is);(case k=>k_is))
  (case h8=>refine' R.bP ?a ?l ?c ?k;(case a=>k_is);(case l=>k_is);(case c=>k_is);(case k=>k_is))
  (case h10=>refine' R.bP ?a ?l ?c ?k;(case a=>k_is);(case l=>k_is);(case c=>k_is);(case k=>k_is))
  (case h11=>refine' R.bP ?a ?l ?c ?k;(case a=>k_is);(case l=>k_is);(case c=>k_is);(case k=>k_is))
  (case h12=>refine' R.bP ?a ?l ?c ?k;(case a=>k_is);(case l=>k_is);(case c=>k_is);(case k=>k_is))
  (case h15=>refine' R.bP ?a ?l ?c ?k;(case a=>k_is);(case l=>k_is);(case c=>k_is);(case k=>k_is))
  (case h16=>refine' R.bP ?a ?l ?c ?k;(case a=>k_is);(case l=>k_is);(case c=>k_is);(case k=>k_is))
  (case h17=>refine' R.bP ?a ?l ?c ?k;(case a=>k_is);(case l=>k_is);(case c=>k_is);(case k=>k_is))
  (case h18=>refine' K53.sS ?a ?l ?c ?k ?t;(case a=>k_is);(case l=>k_is);(case c=>k_is);(case k=>k_is);(case t=>k_is))
  (case h20=>refine' R.bP ?a ?l ?c ?k;(case a=>k_is);(case l=>k_is);(case c=>k_is);(case k=>k_is))
  (case h21=>refine' R.bP ?a ?l ?c ?k;(case a=>k_is);(case l=>k_is);(case c=>k_is);(case k=>k_is))
  (case h22=>refine' R.bP ?a ?l ?c ?k;(case a=>k_is);(case l=>k_is);(case c=>k_is);(case k=>k_is))
  (case h23=>refine' R.bP ?a ?l ?c ?k;(case a=>k_is);(case l=>k_is);(case c=>k_is);(case k=>k_is))
  (case h24=>refine' R.bP ?a ?l ?c ?k;(case a=>k_is);(case l=>k_is);(case c=>k_is);(case k=>k_is))
  (case h25=>refine' R.bP ?a ?l ?c ?k;(case a=>k_is);(case l=>k_is);(case c=>k_is);(case k=>k_is))
  (case h26=>refine' K53.sS ?a ?l ?c ?k ?t;(case a=>k_is);(case l=>k_is);(case c=>k_is);(case k=>k_is);(case t=>k_is))
  (case h28=>refine' R.bP ?a ?l ?c ?k;(case a=>k_is);(case l=>k_is);(case c=>k_is);(case k=>k_is))
  (case h29=>refine' R.bP ?a ?l ?c ?k;(case a=>k_is);(case l=>k_is);(case c=>k_is);(case k=>k_is))
  (case h30=>refine' R.bP ?a ?l ?c ?k;(case a=>k_is);(case l=>k_is);(case c=>k_is);(case k=>k_is))
  (case h31=>refine' R.bP ?a ?l ?c ?k;(case a=>k_is);(case l=>k_is);(case c=>k_is);(case k=>k_is))
  (case h32=>refine' R.bP ?a ?l ?c ?k;(case a=>k_is);(case l=>k_is);(case c=>k_is);(case k=>k_is))
  (case h33=>refine' R.bP ?a ?l ?c ?k;(case a=>k_is);(case l=>k_is);(case c=>k_is);(case k=>k_is))
  (case h34=>refine' R.bP ?a ?l ?c ?k;(case a=>k_is);(case l=>k_is);(case c=>k_is);(case k=>k_is))
  (case h35=>refine' R.bP ?a ?l ?c ?k;(case a=>k_is);(case l=>k_is);(case c=>k_is);(case k=>k_is))
  (case h36=>refine' R.bP ?a ?l ?c ?k;(case a=>k_is);(case l=>k_is);(case c=>k_is);(case k=>k_is))
  (case h37=>refine' R.bP ?a ?l ?c ?k;(case a=>k_is);(case l=>k_is);(case c=>k_is);(case k=>k_is))
  (case h38=>refine' R.bP ?a ?l ?c ?k;(case a=>k_is);(case l=>k_is);(case c=>k_is);(case k=>k_is))
  (case h39=>refine' R.bP ?a ?l ?c ?k;(case a=>k_is);(case l=>k_is);(case c=>k_is);(case k=>k_is))
  (case h40=>refine' R.bP ?a ?l ?c ?k;(case a=>k_is);(case l=>k_is);(case c=>k_is);(case k=>k_is))
  (case h41=>refine' R.bP ?a ?l ?c ?k;(case a=>k_is);(case l=>k_is);(case c=>k_is);(case k=>k_is))
  (case h42=>refine' R.bP ?a ?l ?c ?k;(case a=>k_is);(case l=>k_is);(case c=>k_is);(case k=>k_is))
