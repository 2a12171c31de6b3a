import PyProof.Rows.All
import Wide.All
import OpenK.AllK
import Wide.FinOn
import Lean
import PyProof.EqAt
import PyProof.EqKinds
import PyProof.TupleCall
import PyProof.NeKinds
import PySem.Challenge.RW_copykin_k55_whole_by_parts
open Array renaming length_toList → bZ, getElem?_eq_some_iff → cz, getElem?_toList → km, perm_iff_toList_perm → t5, mem_toList_iff → zy, getD → Ck
open Bool renaming and_eq_true → aN, false_ne_true → aQ, false_eq_true → bH, or_eq_true → cX, and_false → dk, false_and → eG, and_true → gA, eq_iff_iff → gM, or_false → vL, and_eq_true_iff → zJ
open Classical renaming byContradiction → gU
open False renaming elim → iD
open ForInStep renaming yield → eP
open Int renaming emod_nonneg → bX, toNat_natCast → cE, emod_lt_of_pos → cM, toNat_of_nonneg → fi, eq_ofNat_of_zero_le → fO, fdiv_eq_ediv_of_nonneg → iQ, zero_add → zw
open Lean.Name renaming str → bO, anonymous → vK
open List renaming length_map → ae, getElem?_eq_getElem → ah, mem_append → ai, mem_singleton → aq, mem_cons_self → au, size_toArray → ax, length_append → aA, mem_map → aE, mem_cons_of_mem → aF, map_append → aG, mem_cons → aI, getD_eq_getElem?_getD → aK, range → aM, mem_iff_getElem → aR, mem_append_right → aS, length_take → aW, map_cons → aY, getElem?_map → aZ, lookup_cons → bf, length_cons → bg, mem_of_getElem? → bj, replicate → bq, getElem?_eq_some_iff → bw, not_mem_nil → bE, length_singleton → bJ, take_length → bN, take_add_one → bP, map_map → bQ, getElem_map → bR, getElem_inj → bY, nodup_append → b7, mem_filter → ck, find?_cons → cq, getElem?_append_right → cA, mem_map_of_mem → cD, getElem_mem → cK, countP_cons → cL, ext_getElem → dg, all_eq_true → dh, nodup_cons → dv, length_nil → dw, length_range → dz, replicate_succ → dI, map_congr_left → dJ, length_reverse → dM, length_pos_iff → dN, mem_range → dO, length_eq_zero_iff → dP, filter_cons → dQ, length_replicate → d9, getElem_take → ef, nodup_nil → eF, map_reverse → eN, any_eq_true → eO, getElem?_append_left → eY, sum_cons → fk, getElem?_cons_zero → fK, mem_of_mem_take → gC, lookup → gD, length → gE, count_le_length → gF, filterMap_cons → gT, perm_ext_iff_of_nodup → iF, getElem?_drop → iG, flatten_cons → i7, append_assoc → i8, any_cons → jj, mem_reverse → jt, take_of_length_le → j6, foldl_cons → ki, append_nil → kj, mem_iff_getElem? → kF, getElem?_eq_none → kG, mem_append_left → lg, all_cons → mY, lookup_append → nR, countP_filter → nS, take_sublist → oE, reverse_perm → oF, pairwise_map → oG, map_nil → oH, all_map → oI, eraseIdxIfInBounds_toArray → qm, length_drop → qr, eq_nil_of_length_eq_zero → qN, of_mem_zip → r6, nil_append → r8, length_eraseIdx_of_lt → uc, forIn_nil → ud, exists_cons_of_ne_nil → ue, drop_zero → uf, pairwise_iff_getElem → vz, map_take → vI, getElem?_take_of_lt → vJ, getElem?_cons_succ → xc, pairwise_lt_range → xY, length_eq_one_iff → xZ, getElem?_set_self → x3, length_filter_le → zt, getElem?_toArray → zu, getElem?_reverse → zv, perm_cons_erase → zF, mem_erase_of_ne → zG, getElem?_set_ne → zH, toList_toArray → Cf, reverse_append → Cg, getElem?_range → Ci
open List.Pairwise renaming nil → kl
open List.Perm renaming refl → d8, swap → Cj
open Nat renaming le_refl → ar, ne_of_lt → aD, zero_le → aL, le_trans → aP, lt_of_lt_of_le → aT, lt_succ_of_lt → bF, ne_of_gt → cC, lt_irrefl → df, lt_succ_self → di, le_succ_of_le → eu, le_succ → eL, min_le_right → eU, lt_trans → eV, le_of_not_lt → eW, le_add_right → eX, le_of_lt → gj, sub_zero → kh, lt_of_le_of_lt → ot, succ_le_succ → qM, not_lt_zero → tX, min_eq_left → tY, le_antisymm → tZ, min_self → zr, add_le_add_right → Ce
open Nat.succ renaming inj → ji
open Ne renaming symm → cR
open Option renaming isNone_iff_eq_none → dt, isSome_iff_exists → fe, map_eq_some_iff → fN, isSome_map → nQ, getD_none → oD, isSome_some → zD
open Option.some renaming inj → be, injEq → fh
open Prod.mk renaming injEq → tW
open PyProof.Rows renaming callWith_type1 → bM, boot_list → fc, boot_dict → iE, StrsAre → i4, AllBare → j7, listUpdate_at → kd, callWith_builtin1 → k9, boot_tuple → ql, subscriptTail → qq, boot_int → qL, Subscript_ → zm
open PyProof.Rows.F renaming plain_set_update_loop → dY, entry_set_update_loop → jh
open PySem renaming wpAny_bind → af, wpAny_pure → aj, mem_of_lookup → bh, starEach → bu, SetTable → bx, mainGlobals → bL, cellsFrom → bT, compareOp → b9, wpAny_holding → cc, wpAny_truthy_bool → cg, wpAny_newObj_type → cj, wpAny_setField_rec → cu, wpAny_askSetting → cw, wpAny_setState_of → cG, binaryOp → cO, NameKind → cQ, sysModules → cT, bootBuiltins → cW, wpAny_mono → da, assignEach → du, builtinLookup_eq_fast → dy, codeAny_builtin → dF, tupleKind_room_in1 → ed, wpAny_passesOwn → eB, scanBound → eE, Fin → eK, strIterType → ff, sliceBounds → fg, FuncData → fj, pickOrder → fG, plainId_quiet → fU, typeLookup_type → f9, wpAny_Call_Name_kw → gi, wpAny_pyIter_list → gv, isSubtype_type → gy, foldedSetIterable → gz, wpAny_call_entry → gQ, wpAny_standAt → hG, attributeBase → hJ, codeAny_mono → i0, codeAny → i3, noteFrame → jg, setsByText → jo, call_meets → jq, builtinsNs → jr, fits_of_scanBound → jZ, behindInMarks → ke, tupleKind → kZ, swapsWith → k6, relayAll → k7, wpAny_typeOf → mh, wpAny_rule → mi, call_meetsIn → mj, wpAny_specialOf → mr, wpAny_ite_split → mx, letOwnedTupleGo → mz, wpAny_pyIter_revIter → oh, sizeLine_eq → oi, setField → oj, firstArgMember → oo, valueAt → tQ, slot_list_getitem → tR, wpAny_isInstance → vq, setFlight → vt, noFill_tuple_add → vv, wpAny_field → vB, wpAny_execs_nil → w9, Within → xb, getItem → xV, callerA → xW, ItemsOf → x4, wpAny_seqItems → zi, typeLookup → zj, sliceRange → zk, raiseNew → zl, GenState → zx, evalArgs_none → zA, wpAny_getItem_list_slice → B8, seq_tuple_add → B9, evalPart_none → Ca
open PySem.Around renaming under_plainId → cN
open PySem.Builtin.Dict renaming updateFrom → qp
open PySem.Builtin.List renaming listExtendWith → cS, listLengthHint → dR, listTooLong → ez, listSameRef → gL, listTouch → iH, listItems → qt
open PySem.Builtin.Str renaming occurrences → eQ, strSliceIndices → nU
open PySem.Calls renaming spliced_cons → dW, callWith_builtin → dX, evalArgs_plain → k8, spliced_nil → ou, Name_function_global → t4
open PySem.EntryCells renaming newEntry → vA
open PySem.F renaming slot_dict_get → dc, entry_dict_get → fJ, slot_list_getattribute → fL, args_tuple_add_2 → iP, plainAttrs_dict → i5, entry_tuple_add → i6, slot_tuple_add → js, slot_dict_items → t8, plainAttrs_list → t9, args_dict_get_3 → ua, args_dict_get_2 → ub, type_dict_get → vH
open PySem.Heap renaming get?_push_of_some → ag, lt_size → aw, get?_push_size → aC, get?_update_other → bz, size_push → cB, get?_update_self → cH, SameBut → dA, MadeExcOf → ug, get?_none_of_le → zI
open PySem.Heap.DictOf renaming new → x5
open PySem.Heap.IsRevIter renaming typeIs → qo
open PySem.Heap.IsSliceOf renaming new → r9
open PySem.Heap.SameBut renaming update → gk
open PySem.IsL renaming update → zq
open PySem.NameKind renaming free → bI, cell → b8
open PySem.Obj renaming mapSeq → bS, mapFields → fH, data_mapFields → oq, isFreed_of_fields → zE
open PySem.Paired renaming length → mq
open PySem.PyData renaming keyHash → ay
open PySem.SeqAt.EqAt renaming str_int → vD, int_str → vE
open PySem.SetTable renaming below → bV, grown → dD, insertAt → mB, has → t7, orStandIn → xX, relaid → Cb
open PySem.SetTable.below renaming go → tV
open PySem.SetTable.probe renaming go → j4
open PySem.Str renaming ofString → cP, length → vx
open PySem.Value renaming ref → bA, none → bG, type → dB, isStrOf_shape → mo, str → qh, bool → tU, int → vC
open PySem.W renaming Frag → aa, fnOf → aJ, keepIn → bW, kia_one → cf, kas_sort → cY, codeIn → dE, nsIn → eD, mg_of → eS, kitOne → fI, kas_descPart → gw, kmHook → gR, findIn → gS, methodObj → mX, instObj → qj, binds_K → qk, lookIn → qK, kas_rev → tT, cellsFrom_some → vy, callWith_K → zp, kitx_list → zB, kitx_dict → zC, plainGet → Cc, openEnds → Cd
open PySem.W.Hook renaming val → vF, obs → vG
open PySem.W.KasT renaming ret → oJ
open PySem.pickOrder renaming go → tS
open Sum renaming inr → dq, inl → qi
open Sum.inr renaming inj → kg
set_option Elab.async false
set_option linter.all false
set_option maxRecDepth 100000
set_option maxHeartbeats 0
namespace K55
open PySem PySem.Spec PySem.Calls PyProof.Rows
noncomputable def top(i:Nat):Stmt:=PySem.Challenge.pw_copykin_k55_whole_by_parts.main.body.getD i (.Pass ⟨0,0,0,0⟩)
noncomputable def vw:Program:=
 {PySem.Challenge.pw_copykin_k55_whole_by_parts with main:={PySem.Challenge.pw_copykin_k55_whole_by_parts.main with body:=[top 1,top 2,top 4,top 5,top 6,top 7,top 8,top 10,top 11,top 12,top 14,top 15,top 16,top 17,top 20,top 21,top 22,top 23,top 24,top 25,top 28,top 29,top 30,top 31,top 32,top 33,top 34,top 35,top 36,top 37,top 38]}}
noncomputable def loo:List Str:=[cP "frame_list",cP "fewest"]
noncomputable def xt(s:Shared):Bool:=PySem.W.xlAt vw [] s&&PySem.W.recOk [] s
noncomputable def lhsA(w:World):=(Cd treeTable PySem.Challenge.pw_copykin_k55_whole_by_parts w 2738).map
 (PySem.W.openSeen vw loo (importedModules PySem.Challenge.pw_copykin_k55_whole_by_parts.main.body) xt true)
noncomputable def rhsA(_:World):=some (PySem.W.openGood vw loo)
noncomputable def seen{α:Type}(_:α):Bool:=true
theorem laidA:(seen lhsA&&seen rhsA)=true:=by k_qdec
theorem leftA(w:World):lhsA w=rhsA w:=by
 have _:=laidA;rw[PySem.W.Fast.te13826899668411218337,PySem.W.Fast.te8889108853831476309]
 kernel_rfl
theorem both{α β γ:Type}{o:Option α}{f:α->β}{g:α->γ}{a:β}{b:γ}(h:o.map f=some a)(k:o.map g=some b):(o.map fun s=>(f s,g s))=some (a,b):=by
 cases o with
 |none=>cases h
 |some x=>
  injection h with h;injection k with k;rw[<-h,<-k];rfl
end K55
namespace L2
open PySem PySem.Spec PyProof.Rows
noncomputable abbrev Key:=Sum Int Str
noncomputable def pC:Key->Value->Bool
 |.inl k,v=>Value.isInt k v
 |.inr x,v=>Value.isStrOf x v
noncomputable def keyH(w:World):Key->Int
 |.inl k=>hashInt k
 |.inr x=>hashStr w x
theorem dm:∀{k:Key}{v:Value},pC k v=true->(∃i t,k=qi i/\v=vC i t)\/(∃x t,k=dq x/\v=qh x t)
 |.inl i,v,h=>by
  obtain⟨t,e⟩:=Value.isInt_shape (k:=i) (v:=v) h;exact .inl ⟨i,t,rfl,e⟩
 |.inr x,v,h=>by
  obtain⟨t,e⟩:=mo (x:=x) (v:=v) h;exact .inr ⟨x,t,rfl,e⟩
theorem yO(i:Int)(t:Tok):pC (.inl i) (.int i t)=true:=by simp[pC,Value.isInt]
theorem yN(x:Str)(t:Tok):pC (.inr x) (.str x t)=true:=by simp[pC,Value.isStrOf]
theorem key_ll(a b:Int):decide ((qi a:Key)=qi b)=(a==b):=by
 by_cases e:a=b
 ·subst e;simp
 ·have h:¬(qi a:Key)=qi b:=fun q=>e (qi.inj q)
  rw[decide_eq_false h];exact(beq_eq_false_iff_ne.mpr e).symm
theorem key_rr(a b:Str):decide ((dq a:Key)=dq b)=decide (a=b):=by
 by_cases e:a=b
 ·subst e;simp
 ·have h:¬(dq a:Key)=dq b:=fun q=>e (kg q)
  rw[decide_eq_false h,decide_eq_false e]
theorem key_lr(a:Int)(b:Str):decide ((qi a:Key)=dq b)=false:=decide_eq_false (fun q=>nomatch q)
theorem key_rl(a:Str)(b:Int):decide ((dq a:Key)=qi b)=false:=decide_eq_false (fun q=>nomatch q)
noncomputable def bo(prog:Program)(w:World):PySem.KeyKind prog w Key where
 is:=pC
 hash:=keyH w
 inj:=fun v a b ha hb=>by
  rcases dm ha with⟨i,t,rfl,rfl⟩ |⟨x,t,rfl,rfl⟩
  ·rcases dm hb with⟨j,u,rfl,e⟩ |⟨y,u,rfl,e⟩
   ·injection e with e1 _;rw[e1]
   ·exact nomatch e
  ·rcases dm hb with⟨j,u,rfl,e⟩ |⟨y,u,rfl,e⟩
   ·exact nomatch e
   ·injection e with e1 _;rw[e1]
 byValue:=fun k v h=>by
  rcases dm h with⟨i,t,rfl,rfl⟩ |⟨x,t,rfl,rfl⟩<;>rfl
 pyHash:=fun hv h=>by
  rcases dm hv with⟨i,t,rfl,rfl⟩ |⟨x,t,rfl,rfl⟩
  ·exact wpAny_pyHash_int h
  ·exact wpAny_pyHash_str h
 eqBool:=fun hu hv h=>by
  rcases dm hu with⟨i,t,rfl,rfl⟩ |⟨x,t,rfl,rfl⟩
  ·rcases dm hv with⟨j,u,rfl,rfl⟩ |⟨y,u,rfl,rfl⟩
   ·rw[key_ll]at h;exact wpAny_eqBool_int h
   ·rw[key_lr]at h;exact vE i t y u _ _ _ _ h
  ·rcases dm hv with⟨j,u,rfl,rfl⟩ |⟨y,u,rfl,rfl⟩
   ·rw[key_rl]at h;exact vD x t j u _ _ _ _ h
   ·rw[key_rr]at h;exact wpAny_eqBool_str h
 «strs»:=fun k x t v h=>by
  rcases dm h with⟨i,u,rfl,e⟩ |⟨y,u,rfl,e⟩
  ·exact nomatch e
  ·injection e with e1 _
   subst e1;cases v<;>rfl
theorem pv(prog:Program)(w:World)(k:Key)(v:Value):(bo prog w).is k v=pC k v:=rfl
theorem uQ(prog:Program)(w:World)(i:Int)(t:Tok):(bo prog w).is (.inl i) (.int i t)=true:=yO i t
theorem m9(prog:Program)(w:World)(x:Str)(t:Tok):(bo prog w).is (.inr x) (.str x t)=true:=yN x t
inductive V where
 |non|bl (b:Bool) |int (i:Int) |str (x:Str) |byt (b:Array UInt8) |flt (b:UInt64) |ref (a:Addr) |ty (n:String)
 deriving DecidableEq
noncomputable def RelV:V->Value->Prop
 |.non,u=>u=bG
 |.bl b,u=>u=tU b
 |.int i,u=>∃t,u=vC i t
 |.str x,u=>∃t,u=qh x t
 |.byt b,u=>∃t,u=Value.bytes b t
 |.flt b,u=>∃t,u=Value.float b t
 |.ref a,u=>u=bA a
 |.ty n,u=>u=dB n
noncomputable abbrev bC:List V->List Value->Prop:=Paired RelV
theorem bC.length{xs:List V}{us:List Value}(r:bC xs us):xs.length=us.length:=mq r
theorem bC.get:∀{xs:List V}{us:List Value}{i:Nat}{x:V},bC xs us->xs[i]? =some x->∃u,us[i]? =some u/\RelV x u
 |_,_,_,_,.nil,e=>by simp at e
 |_,_,0,_,.cons r _,e=>by simp at e;subst e;exact⟨_,rfl,r⟩
 |_,_,i+1,x,.cons _ t,e=>by
  obtain⟨u,h1,h2⟩:=bC.get (i:=i) (x:=x) t (by simpa using e);exact⟨u,by simpa using h1,h2⟩
theorem bC.set{x:V}{u:Value}(r:RelV x u):∀{xs:List V}{us:List Value}(i:Nat),bC xs us->bC (xs.set i x) (us.set i u)
 |_,_,_,.nil=>.nil
 |_,_,0,.cons _ t=>.cons r t
 |_,_,i+1,.cons q t=>.cons q (bC.set r i t)
theorem bC.append:∀{xs ys:List V}{us ws:List Value},bC xs us->bC ys ws->bC (xs++ys) (us++ws)
 |_,_,_,_,.nil,s=>s
 |_,_,_,_,.cons r t,s=>.cons r (bC.append t s)
theorem bC.take:∀{xs:List V}{us:List Value}(n:Nat),bC xs us->bC (xs.take n) (us.take n)
 |_,_,0,_=>.nil
 |_,_,_+1,.nil=>.nil
 |_,_,n+1,.cons r t=>.cons r (bC.take n t)
theorem bC.drop:∀{xs:List V}{us:List Value}(n:Nat),bC xs us->bC (xs.drop n) (us.drop n)
 |_,_,0,r=>r
 |_,_,_+1,.nil=>.nil
 |_,_,n+1,.cons _ t=>bC.drop n t
noncomputable def mf:Option V->Option Value->Prop
 |some v,some u=>RelV v u
 |none,none=>True
 |_,_=>False
noncomputable def KV{κ:Type}:List (κ×V)->List (κ×Value)->Prop:=Paired fun(p:κ×V)(q:κ×Value)=>p.1=q.1/\RelV p.2 q.2
noncomputable def kV:Key->V
 |.inl i=>.int i
 |.inr x=>.str x
inductive HO where
 |lst (xs:List V)
 |tup (xs:List V)
 |dK (kvs:List (Key×V)) |dT (kvs:List (List Key×V))
 |set (S:Int->Bool) (n:Nat)
 |ins (C dx:Addr) (fs:List (Str×V))
 |own (x:Addr)
 |xd (fs:List (Str×V))
 |met (f x:Addr)
 |rng (lo hi:Int)
 |frz (o:Obj) (u:HO)
 |tbl (ps:Array Value)
 |ext (φ:Heap->Prop)
noncomputable abbrev Hp:=Addr->Option HO
noncomputable def upd(H:Hp)(a:Addr)(o:HO):Hp:=fun b=>if b=a then some o else H b
theorem av{H:Hp}{a:Addr}{o:HO}:upd H a o a=some o:=by unfold upd;rw[if_pos rfl]
theorem aH{H:Hp}{a b:Addr}{o:HO}(h:b≠a):upd H a o b=H b:=by unfold upd;rw[if_neg h]
theorem sd{H:Hp}{a:Addr}{o u:HO}:upd (upd H a o) a u=upd H a u:=by
 funext b;unfold upd;split <;>rfl
theorem gc{H:Hp}{a b:Addr}{o u:HO}(h:H a=some o)(h':H b=some u)(d:o≠u):a≠b:=by
 intro e;subst e;rw[h]at h';exact d (be h')
theorem bb{H:Hp}{a b:Addr}{o:HO}(h:H a=some o)(h':H b=none):a≠b:=by
 intro e;subst e;rw[h]at h';cases h'
section
variable(P:Program)(w:World)
noncomputable def cF(H:Hp)(h:Heap)(a:Addr):HO->Prop
 |.lst xs=>xs.length<=sizeLine/\∃(its:List Value)(n:Nat),bC xs its/\h.get? a=some {cls:=.type "list",data:=.seq its.toArray n}
 |.tup xs=>xs.length<=sizeLine/\∃its:List Value,bC xs its/\IsTup h a its.toArray
 |.dK kvs=>kvs.length<=sizeLine/\(a==cT)=false/\∃vs,KV kvs vs/\h.DictOf (bo P w) a vs
 |.dT kvs=>kvs.length<=sizeLine/\(a==cT)=false/\∃xs:List (List Key×Addr×Value),
   Paired (fun(p:List Key×V)(q:List Key×Addr×Value)=>p.1=q.1/\H q.2.1=some (.tup (p.1.map kV))/\RelV p.2 q.2.2) kvs xs/\
   ∃o es ep,h.get? a=some o/\o.ExactDict/\o.data=.dict es ep/\es.toList=xs.map (entryOfKey (kZ (bo P w)))/\(xs.map (·.1)).Nodup
 |.set S n=>h.SetOf (intKind P w) a S n
 |.ins C dx fs=>H dx=some (.own a)/\fs.length<=1000/\dx≠a/\h.get? a=some (qj C dx)/\
   ∃mA,h.Ns1 dx mA/\(∀f,mf (fs.lookup f) (mA f))/\xb mA (fs.map (·.1))
 |.own _=>∃o,h.get? a=some o
 |.xd fs=>∃mA,h.Ns1 a mA/\∀f,mf (fs.lookup f) (mA f)
 |.rng lo hi=>∃t u v,h.get? a=some {cls:=.type "range",data:=.fields #[.int lo t,.int hi u,.int 1 v]}
 |.frz o u=>h.get? a=some o/\cF H h a u
 |.tbl ps=>h.get? a=some {cls:=.none,data:=.fields ps}
 |.met f x=>h.get? a=some (mX (.ref f) (.ref x))
 |.ext φ=>φ h/\(∃o,h.get? a=some o)/\∀h1 h2:Heap,φ h1->(∀o,h1.get? a=some o->h2.get? a=some o)->φ h2
noncomputable def HOk(H:Hp)(h:Heap):Prop:=∀a o,H a=some o->cF P w H h a o
end
section
variable {P:Program}{w:World}{H H':Hp}{h h':Heap}{a:Addr}{o:HO}
theorem cF.lt(x:cF P w H h a o):a<h.objs.size:=by
 cases o with
 |lst xs=>obtain⟨_,_,_,_,e⟩:=x;exact aw e
 |tup xs=>obtain⟨_,_,_,p⟩:=x;exact p.lt
 |dK kvs=>obtain⟨_,_,_,_,o,_,_,e,_⟩:=x;exact aw e
 |dT kvs=>obtain⟨_,_,_,_,o,_,_,e,_⟩:=x;exact aw e
 |set S n=>obtain⟨o,_,_,_,e,_⟩:=x;exact aw e
 |ins C dx fs=>obtain⟨_,_,_,e,_⟩:=x;exact aw e
 |own y=>obtain⟨_,e⟩:=x;exact aw e
 |xd fs=>obtain⟨_,⟨_,_,_,e,_⟩,_⟩:=x;exact aw e
 |rng lo hi=>obtain⟨_,_,_,e⟩:=x;exact aw e
 |frz ob u=>obtain⟨e,_⟩:=x;exact aw e
 |tbl ps=>exact aw (show h.get? a=some _ from x)
 |met f y=>exact aw (show h.get? a=some _ from x)
 |ext φ=>obtain⟨_,⟨_,e⟩,_⟩:=x;exact aw e
theorem Paired.lG{α β:Type}{F G:α->β->Prop}:∀{l₁:List α}{l₂:List β},Paired F l₁ l₂->(∀a b,F a b->G a b)->Paired G l₁ l₂
 |_,_,.nil,_=>.nil
 |_,_,.cons r t,f=>.cons (f _ _ r) (Paired.lG t f)
theorem cF.j8(x:cF P w H h a o)(k:∀b u,(b=a\/H b=some (.own a))->h.get? b=some u->h'.get? b=some u)
  (ho:∀b,H b=some (.own a)->H' b=some (.own a))(ht:∀b xs,H b=some (.tup xs)->H' b=some (.tup xs)):cF P w H' h' a o:=by
 induction o with
 |lst xs=>obtain⟨z,its,n,r,e⟩:=x;exact⟨z,its,n,r,k _ _ (.inl rfl) e⟩
 |tup xs=>obtain⟨z,its,r,ob,e,c⟩:=x;exact⟨z,its,r,ob,k _ _ (.inl rfl) e,c⟩
 |dK kvs=>obtain⟨z,y,vs,r,ob,es,ep,e,c⟩:=x;exact⟨z,y,vs,r,ob,es,ep,k _ _ (.inl rfl) e,c⟩
 |dT kvs=>
  obtain⟨z,y,xs,r,ob,es,ep,e,c⟩:=x;exact⟨z,y,xs,Paired.lG r fun p q z=>⟨z.1,ht _ _ z.2.1,z.2.2⟩,ob,es,ep,k _ _ (.inl rfl) e,c⟩
 |set S n=>obtain⟨ob,es,ep,t,e,c⟩:=x;exact⟨ob,es,ep,t,k _ _ (.inl rfl) e,c⟩
 |ins C dx fs=>
  obtain⟨d,z,ne,e,mA,⟨od,es,ep,e2,c⟩,r⟩:=x;exact⟨ho _ d,z,ne,k _ _ (.inl rfl) e,mA,⟨od,es,ep,k _ _ (.inr d) e2,c⟩,r⟩
 |own y=>obtain⟨ob,e⟩:=x;exact⟨ob,k _ _ (.inl rfl) e⟩
 |xd fs=>obtain⟨mA,⟨od,es,ep,e,c⟩,r⟩:=x;exact⟨mA,⟨od,es,ep,k _ _ (.inl rfl) e,c⟩,r⟩
 |rng lo hi=>obtain⟨t,u,v,e⟩:=x;exact⟨t,u,v,k _ _ (.inl rfl) e⟩
 |frz ob u ih=>obtain⟨e,q⟩:=x;exact⟨k _ _ (.inl rfl) e,ih q⟩
 |tbl ps=>
  have e:h.get? a=some {cls:=.none,data:=.fields ps}:=x;show h'.get? a=some {cls:=.none,data:=.fields ps};exact k a _ (.inl rfl) e
 |met f y=>
  have e:h.get? a=some (mX (.ref f) (.ref y)):=x;show h'.get? a=some (mX (.ref f) (.ref y));exact k a _ (.inl rfl) e
 |ext φ=>obtain⟨p,⟨o,e⟩,st⟩:=x;exact⟨st _ _ p fun o q=>k _ _ (.inl rfl) q,⟨o,k _ _ (.inl rfl) e⟩,st⟩
theorem HOk.lt(x:HOk P w H h)(e:H a=some o):a<h.objs.size:=(x a o e).lt
theorem HOk.fresh(x:HOk P w H h)(e:h.objs.size<=a):H a=none:=by
 cases q:H a with
 |none=>rfl
 |some u=>exact absurd (aT (x.lt q) e) (df _)
theorem HOk.kept(x:HOk P w H h)(k:∀b u,h.get? b=some u->h'.get? b=some u):HOk P w H h':=fun a o e=>
 (x a o e).j8 (fun b u _ q=>k b u q) (fun _ q=>q) fun _ _ q=>q
theorem HOk.laid(x:HOk P w H h)(k:∀b u,h.get? b=some u->h'.get? b=some u)(hp:h.objs.size<=a)(new:cF P w (upd H a o) h' a o):HOk P w (upd H a o) h':=fun b u e=>by
 have hn:=x.fresh hp;by_cases hb:b=a
 ·subst hb;rw[av]at e;cases e;exact new
 ·rw[aH hb]at e
  exact(x b u e).j8 (fun c v _ q=>k c v q) (fun c q=>by rw[aH (bb q hn)];exact q) fun c xs q=>by rw[aH (bb q hn)];exact q
end
noncomputable def Rd(H:Hp)(a:Addr)(u:HO):Prop:=H a=some u\/∃o,H a=some (.frz o u)
theorem Rd.ok{P:Program}{w:World}{H:Hp}{h:Heap}{a:Addr}{u:HO}(r:Rd H a u)(x:HOk P w H h):cF P w H h a u:=by
 rcases r with r|⟨o,r⟩
 ·exact x a u r
 ·obtain⟨_,q⟩:=x a _ r
  exact q
noncomputable def Mut:Option HO->Prop
 |some (.lst _)=>True
 |some (.dK _)=>True
 |some (.dT _)=>True
 |some (.set _ _)=>True
 |some (.ins _ _ _)=>True
 |some (.ext _)=>True
 |_=>False
section
variable {P:Program}{w:World}{H:Hp}{h h':Heap}{x e:Addr}{o':HO}
theorem HOk.write(ok:HOk P w H h)(mu:Mut (H x))(he:e=x\/H e=some (.own x))(k:∀b u,b≠e->h.get? b=some u->h'.get? b=some u)(heo:∃u,h'.get? e=some u)
  (new:cF P w (upd H x o') h' x o'):HOk P w (upd H x o') h':=fun b u q=>by
 have nown:∀c y,H c=some (.own y)->c≠x:=fun c y r z=>by subst z;rw[r]at mu;exact mu
 have ntup:∀c xs,H c=some (.tup xs)->c≠x:=fun c xs r z=>by subst z;rw[r]at mu;exact mu
 by_cases hb:b=x
 ·subst hb;rw[av]at q;cases q;exact new
 ·rw[aH hb]at q
  by_cases hbe:b=e
  ·have q':H b=some (.own x):=by
    rcases he with z|z
    ·exact absurd (hbe.trans z) hb
    ·rw[hbe];exact z
   rw[q]at q';cases q';obtain⟨v,hv⟩:=heo;exact⟨v,by rw[hbe];exact hv⟩
  ·refine(ok b u q).j8 (fun c v hc r=>k c v ?_ r) (fun c r=>by rw[aH (nown c b r)];exact r) fun c xs r=>by rw[aH (ntup c xs r)];exact r
   rcases hc with rfl|hc
   ·exact hbe
   ·rintro rfl
    rcases he with z|z
    ·exact nown c b hc z
    ·rw[hc]at z;cases z;exact hb rfl
end
structure Un(fs ex:List Addr)(H H':Hp)(h h':Heap):Prop where
 keep:∀b o,h.get? b=some o->H b=none->b∉fs->b∉ex->h'.get? b=some o
 slot:∀b o,h.get? b=some o->H b=none->b∈fs->b∉ex->∃sl,h'.get? b=some {o with slots:=sl}
 free:∀b o,h.get? b=some o->H b=none->b∉ex->H' b=none
 there:∀b o,h.get? b=some o->b∉ex->∃o',h'.get? b=some o'
 tups:∀b xs,H b=some (.tup xs)->H' b=some (.tup xs)
 frzs:∀b o u,H b=some (.frz o u)->H' b=some (.frz o u)
 tbls:∀b ps,H b=some (.tbl ps)->∃more,H' b=some (.tbl (ps++more))
section
variable {fs fs' ex ex':List Addr}{H H1 H2:Hp}{h h1 h2 h':Heap}{a x e:Addr}{o:HO}
theorem Un.any(u:Un fs ex H H1 h h1){b:Addr}{ob:Obj}(q:h.get? b=some ob)(n:H b=none)(hx:b∉ex):∃sl,h1.get? b=some {ob with slots:=sl}:=by
 by_cases hb:b∈fs
 ·exact u.slot b ob q n hb hx
 ·exact⟨ob.slots,u.keep b ob q n hb hx⟩
theorem Un.kept(k:∀b u,h.get? b=some u->h'.get? b=some u):Un fs ex H H h h':=
 ⟨fun b ob q _ _ _=>k b ob q,fun b ob q _ _ _=>⟨ob.slots,k b ob q⟩,fun _ _ _ n _=>n,fun b ob q _=>⟨ob,k b ob q⟩,fun _ _ q=>q,fun _ _ _ q=>q,fun _ ps q=>⟨#[],by rw[q];simp⟩⟩
theorem Un.refl:Un fs ex H H h h:=Un.kept fun _ _ q=>q
theorem Un.laid(k:∀b u,h.get? b=some u->h'.get? b=some u)(hp:h.objs.size<=a)(hn:H a=none):Un fs ex H (upd H a o) h h' where
 keep:=fun b u q _ _ _=>k b u q
 slot:=fun b u q _ _ _=>⟨u.slots,k b u q⟩
 free:=fun b u q n _=>by rw[aH (aD (aT (aw q) hp))];exact n
 there:=fun b u q _=>⟨u,k b u q⟩
 tups:=fun b xs q=>by rw[aH (bb q hn)];exact q
 frzs:=fun b u xs q=>by rw[aH (bb q hn)];exact q
 tbls:=fun b ps q=>⟨#[],by rw[aH (bb q hn),q];simp⟩
theorem Un.write(mu:Mut (H x))(he:e=x\/H e=some (.own x))(k:∀b u,b≠e->h.get? b=some u->h'.get? b=some u)(heo:∃u,h'.get? e=some u):Un fs ex H (upd H x o) h h':=by
 have hx:∀b,H b=none->b≠x:=fun b n z=>by subst z;rw[n]at mu;exact mu
 have hb:∀b,H b=none->b≠e:=fun b n z=>by
  subst z;rcases he with r|r
  ·exact hx b n r
  ·rw[n]at r;cases r
 have hm:∀b u,H b=some u->¬Mut (some u)->b≠x:=fun b u q nm z=>by subst z;rw[q]at mu;exact nm mu
 refine⟨fun b u q n _ _=>k b u (hb b n) q,fun b u q n _ _=>⟨u.slots,k b u (hb b n) q⟩,fun b u q n _=>by rw[aH (hx b n)];exact n,fun b u q _=>?_,
  fun b xs q=>by rw[aH (hm b _ q fun z=>z)];exact q,fun b u xs q=>by rw[aH (hm b _ q fun z=>z)];exact q,fun b ps q=>⟨#[],by rw[aH (hm b _ q fun z=>z),q];simp⟩⟩
 by_cases hbe:b=e
 ·subst hbe;exact heo
 ·exact⟨u,k b u hbe q⟩
end
noncomputable def trk(h:Heap)(H:Hp):List Addr:=(aM h.objs.size).filter fun a=>(H a).isSome
noncomputable def uZ(h:Heap)(H:Hp):Heap:=PySem.W.hideAll h (trk h H)
theorem yQ(h:Heap)(H:Hp):(uZ h H).objs.size=h.objs.size:=PySem.W.hideAll_size _ _
theorem pF{h:Heap}{H:Hp}{b:Addr}{o:Obj}(e:h.get? b=some o)(n:H b=none):(uZ h H).get? b=some o:=
 PySem.W.hideAll_get _ e fun hm=>by
  have q:(H b).isSome=true:=(ck.mp hm).2;rw[n]at q;simp at q
theorem of_hidT{h:Heap}{H:Hp}{b:Addr}{o:Obj}(e:(uZ h H).get? b=some o):h.get? b=some o/\H b=none:=by
 have e':h.get? b=some o:=PySem.W.of_hideAll (trk h H) e;refine⟨e',?_⟩;cases q:H b with
 |none=>rfl
 |some x=>
  have hm:b∈trk h H:=ck.mpr ⟨dO.mpr (aw e'),by simp[q]⟩;have z:(uZ h H).get? b=none:=PySem.W.hideAll_none (trk h H) hm;rw[z]at e;cases e
structure Mod(K:aa)(mg:Str->Option Value)(base:Heap):Prop where
 kin:K.In base
 glob:base.Ns bL mg
 blt:∃mb,base.Ns jr mb/\∀x:Str,x≠"__name__"->mb x=cW x
 nolimit:base.NoLimit
structure Cx where
 prog:Program
 w:World
 K:aa
 mg:Str->Option Value
 base:Heap
 A:Around
 N:List Str
 s₀:Shared
 H₀:Hp
 env:Env
 outer:List Env
 stack:List Env
 ex:List Addr
 fn:Str->Bool
 calm:Bool
 pn:List (Addr×Obj)
 xe:Value->Shared->Prop
noncomputable def frs(l:List Env):List Addr:=l.filterMap (·.frame)
noncomputable abbrev Cx.fs(X:Cx):List Addr:=frs X.outer
noncomputable def Vis(sc:Scope)(x:Str):Prop:=sc.names.lookup x=some .local\/sc.names.lookup x=some .cell\/sc.names.lookup x=some .free
noncomputable def Loc(sc:Scope)(x:Str):Prop:=sc.names.lookup x=some .local\/sc.names.lookup x=some .cell
noncomputable def Look(env:Env)(h:Heap)(m:Str->Option Value)(x:Str)(u:Value):Prop:=
 (env.kindOf x=some .local/\m x=some u)\/((env.kindOf x=some .cell\/env.kindOf x=some .free)/\∃c,env.cells.lookup x=some c/\h.IsCell c (some u))
structure Cx.Ok(X:Cx):Prop where
 mod:Mod X.K X.mg X.base
 kind:X.env.scope.kind=.function
 glob:X.env.globals=bL
 blt:X.env.builtins=jr
 above:X.s₀.heap.objs.size<=X.env.locals
 inj:∀x y c,X.env.cells.lookup x=some c->X.env.cells.lookup y=some c->x=y
 has:∀x,(X.env.kindOf x=some .cell\/X.env.kindOf x=some .free)->∃c,X.env.cells.lookup x=some c
 cab:∀x c,X.fn x=true->X.env.cells.lookup x=some c->X.s₀.heap.objs.size<=c
 hd:X.calm=true->X.A.handled=none
 frames:X.A.frames=some X.stack
 stk:X.stack=X.outer\/(X.stack=X.env::X.outer/\X.env.frame=some X.env.locals)
 exf:∀b∈X.ex,b≠X.env.locals/\∀x c,X.env.cells.lookup x=some c->c≠b
 bs:∀b o,X.base.get? b=some o->X.s₀.heap.get? b=some o/\X.H₀ b=none
 bsz:X.base.objs.size<=X.s₀.heap.objs.size
 noex:∀b o,X.base.get? b=some o->b∉X.ex
 exfs:∀b∈X.ex,b∉X.fs
 tp:X.s₀.heap.FunFrames X.base X.outer
 frf:∀b∈X.fs,X.H₀ b=none
structure Inv(X:Cx)(pins:List (Addr×Obj))(σ:List (Option V))(H:Hp)(s:Shared):Prop where
 ok:X.Ok
 os:s.os=X.s₀.os
 bare:j7 s.gens
 base:Un X.fs X.ex X.H₀ H X.s₀.heap s.heap
 loc:∃m,s.heap.Ns X.env.locals m/\∀(i:Nat)(x:Str)(v:V),X.N[i]? =some x->σ[i]? =some (some v)->Vis X.env.scope x->∃u,RelV v u/\Look X.env s.heap m x u
 cell:∀x c,X.env.cells.lookup x=some c->∃v,s.heap.IsCell c v
 free:H X.env.locals=none
 freeC:∀x c,X.env.cells.lookup x=some c->H c=none
 pin:∀p∈X.pn++pins,s.heap.get? p.1=some p.2/\H p.1=none/\p.1≠X.env.locals/\p.1∉X.fs/\∀v,p.2.data≠.cell v
 hok:HOk X.prog X.w H s.heap
 len:σ.length=X.N.length
section
variable {X:Cx}{pins:List (Addr×Obj)}{σ:List (Option V)}{H H':Hp}{s:Shared}{h':Heap}
theorem Cx.Ok.nofr(ok:X.Ok){b:Addr}{o:Obj}(e:X.base.get? b=some o):b∉X.fs:=fun hb=>by
 have :=(ok.tp.mem hb).1
 rw[e]at this;cases this
theorem Inv.bs(I:Inv X pins σ H s):∀b o,X.base.get? b=some o->s.heap.get? b=some o/\H b=none:=fun b o e=>
 ⟨I.base.keep b o (I.ok.bs b o e).1 (I.ok.bs b o e).2 (I.ok.nofr e) (I.ok.noex b o e),I.base.free b o (I.ok.bs b o e).1 (I.ok.bs b o e).2 (I.ok.noex b o e)⟩
theorem Inv.bk(I:Inv X pins σ H s):∀b o,X.base.get? b=some o->s.heap.get? b=some o:=fun b o e=>(I.bs b o e).1
theorem Inv.mod(I:Inv X pins σ H s):Mod X.K X.mg X.base:=I.ok.mod
theorem Inv.kIn(I:Inv X pins σ H s):X.K.In s.heap:=I.ok.mod.kin.keeps I.bk
theorem Inv.lt(I:Inv X pins σ H s):X.env.locals<s.heap.objs.size:=let⟨_,hn,_⟩:=I.loc;hn.lt
theorem Inv.sz(I:Inv X pins σ H s):X.s₀.heap.objs.size<=s.heap.objs.size:=aP I.ok.above (gj I.lt)
theorem Inv.nofs(I:Inv X pins σ H s){a:Addr}(h:s.heap.objs.size<=a):a∉X.fs:=fun hb=>by
 obtain⟨_,o,ho,_⟩:=I.ok.tp.mem hb;exact absurd (aT (aw ho) (aP I.sz h)) (df _)
theorem Inv.cne(I:Inv X pins σ H s):∀x c,X.env.cells.lookup x=some c->c≠X.env.locals:=fun x c e z=>by
 obtain⟨v,o,ho,hd⟩:=I.cell x c e;obtain⟨m,⟨o',es,ep,ho',hd',_⟩,_⟩:=I.loc;rw[z,ho']at ho;cases ho;rw[hd']at hd;cases hd
theorem Inv.tp(I:Inv X pins σ H s):s.heap.FunFrames X.base X.outer:=by
 have all:∀(l:List Env),(∀b∈frs l,b∈X.fs)->X.s₀.heap.FunFrames X.base l->s.heap.FunFrames X.base l:=by
  intro l
  induction l with
  |nil=>intro _ _;trivial
  |cons env r ih=>
   intro hs hl;obtain⟨hk,⟨L,o,hf,hn,ho,hd⟩,hr⟩:=hl;have hL:L∈X.fs:=hs L (by unfold frs;rw[gT,hf];exact au);obtain⟨sl,e⟩:=I.base.slot L o ho (I.ok.frf L hL) hL fun z=>I.ok.exfs L z hL;exact⟨hk,⟨L,_,hf,hn,e,hd⟩,ih (fun b hb=>hs b (by unfold frs;rw[gT,hf];exact aF _ hb)) hr⟩
 exact all X.outer (fun _ hb=>hb) I.ok.tp
theorem Inv.stack(I:Inv X pins σ H s):s.heap.FunFrames X.base X.stack:=by
 rcases I.ok.stk with e|⟨e,hf⟩
 ·rw[e];exact I.tp
 ·rw[e]
  obtain⟨m,hn,_⟩:=I.loc;refine .cons (by rw[I.ok.kind];decide) hf hn ?_ I.tp;exact zI (aP I.ok.bsz I.ok.above)
theorem Inv.vU(I:Inv X pins σ H s):∀b∈frs X.stack,b∈X.env.locals::X.fs:=fun b hb=>by
 rcases I.ok.stk with e|⟨e,hf⟩
 ·rw[e]at hb;exact aF _ hb
 ·rw[e]at hb
  unfold frs at hb;rw[gT,hf]at hb;exact hb
theorem Inv.sj(I:Inv X pins σ H s):∀b∈frs X.stack,H b=none:=fun b hb=>by
 rcases aI.mp (I.vU b hb)with e|hb
 ·rw[e];exact I.free
 ·obtain⟨_,o,ho,_⟩:=I.ok.tp.mem hb
  exact I.base.free b o ho (I.ok.frf b hb) fun z=>I.ok.exfs b z hb
theorem Inv.step{g':Array zx}{t':Nat}{d':Drawn}{ch:List Addr}(I:Inv X pins σ H s)
  (hch:∀b∈ch,(b∈X.ex\/X.s₀.heap.objs.size<=b)/\b≠X.env.locals/\(∀x c,X.env.cells.lookup x=some c->c≠b)/\∀p∈X.pn++pins,p.1≠b)
  (keep:∀b o,b≠X.env.locals->b∉X.fs->b∉ch->s.heap.get? b=some o->H b=none->h'.get? b=some o)
  (slot:∀b o,b≠X.env.locals->b∈X.fs->b∉ch->s.heap.get? b=some o->H b=none->∃sl,h'.get? b=some {o with slots:=sl}) (free:∀b o,b∉ch->s.heap.get? b=some o->H b=none->H' b=none)
  (there:∀b o,b∉ch->s.heap.get? b=some o->∃o',h'.get? b=some o')
  (tups:∀b xs,H b=some (.tup xs)->H' b=some (.tup xs)) (frzs:∀b o u,H b=some (.frz o u)->H' b=some (.frz o u)) (tbls:∀b ps,H b=some (.tbl ps)->∃more,H' b=some (.tbl (ps++more)))
  (ns:∀m,s.heap.Ns X.env.locals m->h'.Ns X.env.locals m) (hok:HOk X.prog X.w H' h') (hg:j7 g'):
  Inv X pins σ H' {s with heap:=h',gens:=g',drawn:=d',toks:=t'}:=by
 have neL:∀b o,X.s₀.heap.get? b=some o->b≠X.env.locals:=fun b o e=>aD (aT (aw e) I.ok.above);have neC:∀b o,X.s₀.heap.get? b=some o->b∉X.ex->b∉ch:=fun b o e hx hb=>by
  rcases(hch b hb).1 with z|z
  ·exact hx z
  ·exact absurd (aT (aw e) z) (df _)
 have cellK:∀x c,X.env.cells.lookup x=some c->∀v,s.heap.IsCell c v->h'.IsCell c v:=fun x c e v ⟨o,ho,hd⟩=>by
  have nch:c∉ch:=fun z=>(hch c z).2.2.1 x c e rfl;by_cases hc:c∈X.fs
  ·obtain⟨sl,q⟩:=slot c o (I.cne x c e) hc nch ho (I.freeC x c e)
   exact⟨_,q,hd⟩
  ·exact⟨o,keep c o (I.cne x c e) hc nch ho (I.freeC x c e),hd⟩
 refine⟨I.ok,I.os,hg,⟨fun b o e n hb hx=>?_,fun b o e n hb hx=>?_,fun b o e n hx=>?_,fun b o e hx=>?_,fun b xs e=>tups b xs (I.base.tups b xs e),fun b o xs e=>frzs b o xs (I.base.frzs b o xs e),fun b ps e=>?_⟩,?_,fun x c e=>?_,?_,fun x c e=>?_,fun p hp=>?_,hok,I.len⟩
 ·exact keep b o (neL b o e) hb (neC b o e hx) (I.base.keep b o e n hb hx) (I.base.free b o e n hx)
 ·obtain⟨sl,e1⟩:=I.base.slot b o e n hb hx
  obtain⟨sl',e2⟩:=slot b _ (neL b o e) hb (neC b o e hx) e1 (I.base.free b o e n hx);exact⟨sl',e2⟩
 ·obtain⟨o',e1⟩:=I.base.there b o e hx
  exact free b o' (neC b o e hx) e1 (I.base.free b o e n hx)
 ·obtain⟨o',e1⟩:=I.base.there b o e hx
  exact there b o' (neC b o e hx) e1
 ·obtain⟨m1,e1⟩:=I.base.tbls b ps e
  obtain⟨m2,e2⟩:=tbls b _ e1;exact⟨m1++m2,by rw[e2,Array.append_assoc]⟩
 ·obtain⟨m,hn,hl⟩:=I.loc
  refine⟨m,ns m hn,fun i x v e1 e2 e3=>?_⟩;obtain⟨u,r,l⟩:=hl i x v e1 e2 e3;refine⟨u,r,?_⟩;rcases l with l|⟨k,c,e,z⟩
  ·exact .inl l
  ·exact .inr ⟨k,c,e,cellK x c e _ z⟩
 ·obtain⟨v,z⟩:=I.cell x c e
  exact⟨v,cellK x c e v z⟩
 ·obtain⟨m,⟨o,_,_,ho,_⟩,_⟩:=I.loc
  exact free _ o (fun z=>(hch _ z).2.1 rfl) ho I.free
 ·obtain⟨v,o,ho,hd⟩:=I.cell x c e
  exact free c o (fun z=>(hch c z).2.2.1 x c e rfl) ho (I.freeC x c e)
 ·obtain⟨e,n,ne,nf,d⟩:=I.pin p hp
  have nch:p.1∉ch:=fun z=>(hch p.1 z).2.2.2 p hp rfl;exact⟨keep p.1 p.2 ne nf nch e n,free p.1 p.2 nch e n,ne,nf,d⟩
theorem Inv.un{t':Nat}(I:Inv X pins σ H s)(u:Un X.fs [] H H' s.heap h')(hok:HOk X.prog X.w H' h'):Inv X pins σ H' {s with heap:=h',toks:=t'}:=by
 obtain⟨m,⟨o,es,ep,ho,r⟩,_⟩:=id I.loc;obtain⟨sl,hL⟩:=u.any ho I.free (by simp);exact I.step (g':=s.gens) (d':=s.drawn) (ch:=[]) (fun _ z=>nomatch z) (fun b o _ hb _ e n=>u.keep b o e n hb (by simp)) (fun b o _ hb _ e n=>u.slot b o e n hb (by simp)) (fun b o _ e n=>u.free b o e n (by simp)) (fun b o _ e=>u.there b o e (by simp)) u.tups u.frzs u.tbls (fun m' hm=>by
  obtain⟨o',es',ep',ho',r'⟩:=hm;rw[ho]at ho';cases ho';exact⟨_,es',ep',hL,r'⟩) hok I.bare
theorem Inv.call{g':Array zx}{t':Nat}{d':Drawn}{ch:List Addr}(I:Inv X pins σ H s)(u:Un (frs X.stack) ch H H' s.heap h')(hok:HOk X.prog X.w H' h')(hg:j7 g')
  (hch:∀b∈ch,(b∈X.ex\/X.s₀.heap.objs.size<=b)/\b≠X.env.locals/\(∀x c,X.env.cells.lookup x=some c->c≠b)/\∀p∈X.pn++pins,p.1≠b):
  Inv X pins σ H' {s with heap:=h',gens:=g',drawn:=d',toks:=t'}:=by
 obtain⟨m,⟨o,es,ep,ho,r⟩,_⟩:=id I.loc;obtain⟨sl,hL⟩:=u.any ho I.free fun z=>(hch _ z).2.1 rfl;exact I.step (ch:=ch) hch (fun b o hL hb hc e n=>u.keep b o e n (fun z=>(aI.mp (I.vU b z)).elim hL hb) hc) (fun b o _ _ hc e n=>u.any e n hc) (fun b o hc e n=>u.free b o e n hc) (fun b o hc e=>u.there b o e hc) u.tups u.frzs u.tbls (fun m' hm=>by
  obtain⟨o',es',ep',ho',r'⟩:=hm;rw[ho]at ho';cases ho';exact⟨_,es',ep',hL,r'⟩) hok hg
theorem Inv.turned{t':Nat}{it:Addr}(I:Inv X pins σ H s)(k:∀b o,b≠it->s.heap.get? b=some o->h'.get? b=some o)(hn:H it=none)(hL:it≠X.env.locals)
  (h1:it∈X.ex\/X.s₀.heap.objs.size<=it)(h2:∀x c,X.env.cells.lookup x=some c->c≠it)(h3:∀p∈X.pn++pins,p.1≠it):Inv X pins σ H {s with heap:=h',toks:=t'}:=by
 have nit:∀b u,H b=some u->b≠it:=fun b u e z=>by rw[z,hn]at e;cases e
 refine I.step (g':=s.gens) (d':=s.drawn) (ch:=[it]) (fun b hb=>?_) (fun b o _ _ hc e _=>k b o (fun z=>hc (by simp[z])) e) (fun b o _ _ hc e _=>⟨o.slots,k b o (fun z=>hc (by simp[z])) e⟩) (fun _ _ _ _ n=>n)
  (fun b o hc e=>⟨o,k b o (fun z=>hc (by simp[z])) e⟩) (fun _ _ e=>e) (fun _ _ _ e=>e) (fun b ps e=>⟨#[],by rw[e];simp⟩) (fun m hm=>?_) (fun b u e=>?_) I.bare
 ·have e:b=it:=by simpa using hb
  subst e;exact⟨h1,hL,h2,h3⟩
 ·obtain⟨o,es,ep,ho,r⟩:=hm
  exact⟨o,es,ep,k _ o (cR hL) ho,r⟩
 ·refine(I.hok b u e).j8 (fun c v hc q=>k c v ?_ q) (fun _ q=>q) fun _ _ q=>q
  rcases hc with z|z
  ·rw[z];exact nit b u e
  ·exact nit c _ z
theorem Inv.tok(I:Inv X pins σ H s)(t:Nat):Inv X pins σ H {s with toks:=t}:=I.un (h':=s.heap) (t':=t) Un.refl I.hok
theorem Inv.kept{t':Nat}(I:Inv X pins σ H s)(k:∀b u,s.heap.get? b=some u->h'.get? b=some u):Inv X pins σ H {s with heap:=h',toks:=t'}:=I.un (Un.kept k) (I.hok.kept k)
theorem Inv.laid{a:Addr}{o:HO}{t':Nat}(I:Inv X pins σ H s)(k:∀b u,s.heap.get? b=some u->h'.get? b=some u)(hp:s.heap.objs.size<=a)(new:cF X.prog X.w (upd H a o) h' a o):
  Inv X pins σ (upd H a o) {s with heap:=h',toks:=t'}:=I.un (Un.laid k hp (I.hok.fresh hp)) (I.hok.laid k hp new)
theorem Inv.write{x e:Addr}{o:HO}{t':Nat}(I:Inv X pins σ H s)(mu:Mut (H x))(he:e=x\/H e=some (.own x))(k:∀b u,b≠e->s.heap.get? b=some u->h'.get? b=some u)(heo:∃u,h'.get? e=some u)
  (new:cF X.prog X.w (upd H x o) h' x o):Inv X pins σ (upd H x o) {s with heap:=h',toks:=t'}:=I.un (Un.write mu he k heo) (I.hok.write mu he k heo new)
theorem Inv.sM{pins':List (Addr×Obj)}(I:Inv X pins σ H s)(h:∀p∈pins',s.heap.get? p.1=some p.2/\H p.1=none/\p.1≠X.env.locals/\p.1∉X.fs/\∀v,p.2.data≠.cell v):Inv X pins' σ H s:=
 ⟨I.ok,I.os,I.bare,I.base,I.loc,I.cell,I.free,I.freeC,fun p hp=>(ai.mp hp).elim (fun z=>I.pin p (lg _ z)) (h p),I.hok,I.len⟩
theorem uM{N:List Str}(hN:N.Nodup){i j:Nat}{x:Str}(a:N[i]? =some x)(b:N[j]? =some x):i=j:=by
 obtain⟨h1,e1⟩:=bw.mp a;obtain⟨h2,e2⟩:=bw.mp b;exact(bY hN).mp (e1.trans e2.symm)
theorem ye{M:Model}{A:Around}{E:Value->Shared->Prop}{i:Nat}{x:Str}{v:V}{u:Value}{Q:Unit->Shared->Prop}(I:Inv X pins σ H s)(hN:X.N.Nodup)(hi:X.N[i]? =some x)(hx:Loc X.env.scope x)(r:RelV v u)
  (h:∀s',Inv X pins (σ.set i (some v)) H s'->(∃a,dA a s.heap s'.heap/\(a=X.env.locals\/X.env.cells.lookup x=some a))->Q () s')(hf:X.fn x=true\/X.env.scope.names.lookup x=some .local:=by first |exact .inl rfl|exact .inr rfl|assumption):wpAny M A (storeName X.env x u) Q E s:=by
 obtain⟨m,hn,hl⟩:=id I.loc;have hcls:(X.env.scope.kind== .class||(X.env.scope.kind== .module&&X.env.locals != X.env.globals))=false:=by rw[I.ok.kind];rfl
 have hiσ:i<σ.length:=by rw[I.len];exact(bw.mp hi).1
 have cne:=I.cne;have tracked:∀{a:Addr}{h':Heap},(∃o,s.heap.get? a=some o/\H a=none)->dA a s.heap h'->HOk X.prog X.w H h':=fun{a h'} ha hs b ob e=>by
  obtain⟨_,_,hfree⟩:=ha;refine(I.hok b ob e).j8 (fun c w' hc q=>(hs.2 c ?_).trans q) (fun _ q=>q) fun _ _ q=>q;rintro rfl;rcases hc with rfl|hc
  ·rw[hfree]at e;cases e
  ·rw[hfree]at hc;cases hc
 rcases hx with hk|hk
 ·refine wpAny_storeName_local hk hn (fun h' hn' hs=>?_) hcls
  obtain⟨oL,_,_,hoL,_⟩:=id hn;refine h _ ⟨I.ok,I.os,I.bare,⟨fun b o e n hb hx=>?_,fun b o e n hb hx=>?_,I.base.free,fun b o e hx=>?_,I.base.tups,I.base.frzs,I.base.tbls⟩,⟨_,hn',fun j y v' e1 e2 e3=>?_⟩,fun y c e=>?_,I.free,I.freeC,fun p hp=>?_,tracked ⟨oL,hoL,I.free⟩ hs,by simpa using I.len⟩ ⟨_,hs,.inl rfl⟩
  ·exact(hs.2 b (aD (aT (aw e) I.ok.above))).trans (I.base.keep b o e n hb hx)
  ·obtain⟨sl,e1⟩:=I.base.slot b o e n hb hx
   exact⟨sl,(hs.2 b (aD (aT (aw e) I.ok.above))).trans e1⟩
  ·obtain⟨o',e1⟩:=I.base.there b o e hx
   exact⟨o',(hs.2 b (aD (aT (aw e) I.ok.above))).trans e1⟩
  ·by_cases hj:j=i
   ·subst hj
    rw[hi]at e1;cases e1;rw[x3 hiσ]at e2;cases e2;exact⟨u,r,.inl ⟨hk,by simp⟩⟩
   ·rw[zH (cR hj)]at e2
    obtain⟨u',r',q⟩:=hl j y v' e1 e2 e3;refine⟨u',r',?_⟩;rcases q with⟨k,e⟩ |⟨k,c,e,z⟩
    ·refine .inl ⟨k,?_⟩
     have :y≠x:=fun e=>hj (uM hN e1 (e▸hi));simp[this,e]
    ·exact .inr ⟨k,c,e,z.sameBut hs (cne y c e)⟩
  ·obtain⟨w',z⟩:=I.cell y c e
   exact⟨w',z.sameBut hs (cne y c e)⟩
  ·obtain⟨e,n,ne,nf,d⟩:=I.pin p hp
   exact⟨(hs.2 p.1 ne).trans e,n,ne,nf,d⟩
 ·have hfn:X.fn x=true:=by
   rcases hf with z|z
   ·exact z
   ·rw[z]at hk;cases hk
  obtain⟨c,hc⟩:=I.ok.has x (.inl hk);obtain⟨w',z⟩:=I.cell x c hc;refine wpAny_storeName_cell I.ok.kind hk hc z (fun h' hc' hs=>?_);obtain⟨oc,hoc,hocd⟩:=id z;refine h {s with heap:=h'} ⟨I.ok,I.os,I.bare,⟨fun b o e n hb hx=>?_,fun b o e n hb hx=>?_,I.base.free,fun b o e hx=>?_,I.base.tups,I.base.frzs,I.base.tbls⟩,⟨m,hn.sameBut hs (cR (cne x c hc)),fun j y v' e1 e2 e3=>?_⟩,fun y c' e=>?_,I.free,I.freeC,fun p hp=>?_,tracked ⟨oc,hoc,I.freeC x c hc⟩ hs,by simpa using I.len⟩ ⟨c,hs,.inr hc⟩
  ·exact(hs.2 b (aD (aT (aw e) (I.ok.cab x c hfn hc)))).trans (I.base.keep b o e n hb hx)
  ·obtain⟨sl,e1⟩:=I.base.slot b o e n hb hx
   exact⟨sl,(hs.2 b (aD (aT (aw e) (I.ok.cab x c hfn hc)))).trans e1⟩
  ·obtain⟨o',e1⟩:=I.base.there b o e hx
   exact⟨o',(hs.2 b (aD (aT (aw e) (I.ok.cab x c hfn hc)))).trans e1⟩
  ·by_cases hj:j=i
   ·subst hj
    rw[hi]at e1;cases e1;rw[x3 hiσ]at e2;cases e2;exact⟨u,r,.inr ⟨.inl hk,c,hc,hc'⟩⟩
   ·rw[zH (cR hj)]at e2
    obtain⟨u',r',q⟩:=hl j y v' e1 e2 e3;refine⟨u',r',?_⟩;rcases q with q|⟨k,c',e,z'⟩
    ·exact .inl q
    ·refine .inr ⟨k,c',e,z'.sameBut hs ?_⟩
     rintro rfl;exact hj (uM hN e1 (I.ok.inj _ _ _ e hc▸hi))
  ·by_cases hcc:c'=c
   ·subst hcc;exact⟨_,hc'⟩
   ·obtain⟨w2,z2⟩:=I.cell y c' e
    exact⟨w2,z2.sameBut hs hcc⟩
  ·obtain⟨e,n,ne,nf,d⟩:=I.pin p hp
   refine⟨(hs.2 p.1 ?_).trans e,n,ne,nf,d⟩;intro q;rw[q,hoc]at e;have q':oc=p.2:=be e;exact d w' (by rw[<-q'];exact hocd)
theorem uq{M:Model}{A:Around}{E:Value->Shared->Prop}{i:Nat}{x:Str}{v:V}{u:Value}{Q:Unit->Shared->Prop}(I:Inv X pins σ H s)(hN:X.N.Nodup)(hi:X.N[i]? =some x)(hx:Loc X.env.scope x)(r:RelV v u)
  (h:∀s',Inv X pins (σ.set i (some v)) H s'->Q () s')(hf:X.fn x=true\/X.env.scope.names.lookup x=some .local:=by first |exact .inl rfl|exact .inr rfl|assumption):wpAny M A (storeName X.env x u) Q E s:=
 ye I hN hi hx r (fun s' I' _=>h s' I') hf
theorem Inv.call'{s':Shared}{ch:List Addr}(I:Inv X pins σ H s)(ho:s'.os=s.os)(u:Un (frs X.stack) ch H H' s.heap s'.heap)(hok:HOk X.prog X.w H' s'.heap)(hg:j7 s'.gens)
  (hch:∀b∈ch,(b∈X.ex\/X.s₀.heap.objs.size<=b)/\b≠X.env.locals/\(∀x c,X.env.cells.lookup x=some c->c≠b)/\∀p∈X.pn++pins,p.1≠b):Inv X pins σ H' s':=by
 obtain⟨h',g',d',t',o'⟩:=s';have e:o'=s.os:=ho;subst e;exact I.call (g':=g') (t':=t') (d':=d') u hok hg hch
end
noncomputable abbrev XK:=Value->Option Addr->Hp->Prop
noncomputable abbrev St:=List (Option V)
noncomputable abbrev VK:=V->Hp->Prop
noncomputable abbrev TE:=St->Hp->VK->Prop
noncomputable abbrev TT:=St->Hp->(Bool->Hp->Prop)->Prop
noncomputable abbrev TA:=St->Hp->(List V->Hp->Prop)->Prop
structure Ends where
 nx:St->Hp->Prop
 rt:VK
 bk:St->Hp->Prop:=fun _ _=>False
 ct:St->Hp->Prop:=fun _ _=>False
noncomputable abbrev TS:=Ends->St->Hp->Prop
noncomputable def EP(X:Cx)(pins:List (Addr×Obj))(σ:St)(Q:VK)(u:Value)(s':Shared):Prop:=∃v H',Inv X pins σ H' s'/\RelV v u/\Q v H'
noncomputable def TP(X:Cx)(pins:List (Addr×Obj))(σ:St)(Q:Bool->Hp->Prop)(b:Bool)(s':Shared):Prop:=∃H',Inv X pins σ H' s'/\Q b H'
noncomputable def AP(X:Cx)(pins:List (Addr×Obj))(σ:St)(Q:List V->Hp->Prop)(us:List Value)(s':Shared):Prop:=∃vs H',Inv X pins σ H' s'/\bC vs us/\Q vs H'
noncomputable def SP(X:Cx)(pins:List (Addr×Obj))(D:Ends)(f:Flow)(s':Shared):Prop:=
 match f with
 |.next=>∃σ' H',Inv X pins σ' H' s'/\D.nx σ' H'
 |.brk=>∃σ' H',Inv X pins σ' H' s'/\D.bk σ' H'
 |.cont=>∃σ' H',Inv X pins σ' H' s'/\D.ct σ' H'
 |.ret u=>∃v σ' H',Inv X pins σ' H' s'/\RelV v u/\D.rt v H'
noncomputable def PE(X:Cx)(e:Expr)(t:TE):Prop:=
 ∀(pins:List (Addr×Obj))(s:Shared)(σ:St)(H:Hp)(Q:VK),Inv X pins σ H s->t σ H Q->wpAny (model X.prog X.w) X.A (eval e X.env) (EP X pins σ Q) X.xe s
noncomputable def PT(X:Cx)(e:Expr)(t:TT):Prop:=
 ∀(pins:List (Addr×Obj))(s:Shared)(σ:St)(H:Hp)(Q:Bool->Hp->Prop),Inv X pins σ H s->t σ H Q->wpAny (model X.prog X.w) X.A (isTrue e X.env (eval e X.env)) (TP X pins σ Q) X.xe s
noncomputable def PW(X:Cx)(e:Expr)(t:TT):Prop:=
 ∀(whole:Sem Value)(pins:List (Addr×Obj))(s:Shared)(σ:St)(H:Hp)(Q:Bool->Hp->Prop),Inv X pins σ H s->t σ H Q->wpAny (model X.prog X.w) X.A (isTrue e X.env whole) (TP X pins σ Q) X.xe s
theorem PW.pt{X:Cx}{e:Expr}{t:TT}(h:PW X e t):PT X e t:=h _
noncomputable def PA(X:Cx)(es:List Expr)(t:TA):Prop:=
 ∀(pos:Pos)(pins:List (Addr×Obj))(s:Shared)(σ:St)(H:Hp)(Q:List V->Hp->Prop),Inv X pins σ H s->t σ H Q->wpAny (model X.prog X.w) X.A (spliced (backTo pos (bu es X.env))) (AP X pins σ Q) X.xe s
noncomputable def PS(X:Cx)(st:Stmt)(t:TS):Prop:=
 ∀(pins:List (Addr×Obj))(s:Shared)(σ:St)(H:Hp)(D:Ends),Inv X pins σ H s->t D σ H->wpAny (model X.prog X.w) X.A (exec st X.env) (SP X pins D) X.xe s
noncomputable def PSs(X:Cx)(st:List Stmt)(t:TS):Prop:=
 ∀(pins:List (Addr×Obj))(s:Shared)(σ:St)(H:Hp)(D:Ends),Inv X pins σ H s->t D σ H->wpAny (model X.prog X.w) X.A (execs st X.env) (SP X pins D) X.xe s
theorem thn{α:Type}{t:Sem α}{Q Q':α->Shared->Prop}{M:Model}{A:Around}{E:Value->Shared->Prop}{s:Shared}(h:wpAny M A t Q E s)(hQ:∀a s,Q a s->Q' a s):wpAny M A t Q' E s:=da h hQ fun _ _ x=>x
section
variable {X:Cx}
noncomputable def nV(i:Nat):TE:=fun σ H Q=>∃v,σ[i]? =some (some v)/\Q v H
noncomputable def tC(v:V):TE:=fun _ H Q=>Q v H
theorem pe_var{i:Nat}{x:Str}{pos:Pos}(hN:X.N[i]? =some x)(hv:Vis X.env.scope x)(hd:(x==("__debug__":Str))=false:=by decide) (hcd:(x==("__classdict__":Str))=false:=by decide):PE X (.Name x pos) (nV i):=by
 intro pins s σ H Q I h;obtain⟨v,e,h⟩:=h;obtain⟨m,hn,hl⟩:=I.loc;obtain⟨u,r,l⟩:=hl i x v hN e hv;have fin:EP X pins σ Q u s:=⟨v,H,I,r,h⟩;rcases l with⟨hk,hm⟩ |⟨hk,c,hc,hcell⟩
 ·exact wpAny_Name (wpAny_loadName_local I.ok.kind hk hn hm fin) hd
 ·rcases hk with hk|hk
  ·exact wpAny_Name (wpAny_loadName_cell I.ok.kind hk hc hcell fin) hd
  ·exact wpAny_Name (wpAny_loadName_free I.ok.kind hk hc hcell fin hcd) hd
theorem A1{i j pos}:PE X (.Constant (.int i) j pos) (tC (.int i)):=fun _ _ _ H _ I h=>wpAny_Constant_int ⟨.int i,H,I.tok _,⟨_,rfl⟩,h⟩
theorem pe_bl{b j pos}:PE X (.Constant (.bool b) j pos) (tC (.bl b)):=fun _ _ _ H _ I h=>Constant_bool ⟨.bl b,H,I,rfl,h⟩
theorem pe_non{j pos}:PE X (.Constant .none j pos) (tC .non):=fun _ _ _ H _ I h=>Constant_none ⟨.non,H,I,rfl,h⟩
theorem pe_str{x j pos}:PE X (.Constant (.str x) j pos) (tC (.str x)):=fun _ _ _ H _ I h=>Calls.Constant_str ⟨.str x,H,I.tok _,⟨_,rfl⟩,h⟩
noncomputable def Gl(X:Cx)(x:Str):Prop:=X.env.kindOf x=some .globalImplicit
theorem oz{E:Value->Shared->Prop}{pins:List (Addr×Obj)}{s:Shared}{σ:St}{H:Hp}{x:Str}{u:Value}{pos:Pos}{Q:Value->Shared->Prop}(I:Inv X pins σ H s)(hg:Gl X x)(hm:X.mg x=some u)(h:Q u s)
  (hd:(x==("__debug__":Str))=false:=by decide):wpAny (model X.prog X.w) X.A (eval (.Name x pos) X.env) Q E s:=
 t4 I.ok.kind hg (Calls.loadGlobal_global (by rw[I.ok.glob];exact I.mod.glob.keeps I.bk) hm h) hd
theorem gG{E:Value->Shared->Prop}{pins:List (Addr×Obj)}{s:Shared}{σ:St}{H:Hp}{x:Str}{u:Value}{pos:Pos}{Q:Value->Shared->Prop}(I:Inv X pins σ H s)(hg:Gl X x)(hm:X.mg x=none)(hv:cW x=some u)(h:Q u s)
  (hn:x≠"__name__":=by decide) (hd:(x==("__debug__":Str))=false:=by decide):wpAny (model X.prog X.w) X.A (eval (.Name x pos) X.env) Q E s:=by
 obtain⟨mb,h1,h2⟩:=I.mod.blt;exact t4 I.ok.kind hg (Calls.loadGlobal_builtin (by rw[I.ok.glob];exact I.mod.glob.keeps I.bk) hm (by rw[I.ok.blt];exact h1.keeps I.bk) ((h2 x hn).trans hv) h) hd
theorem pe_glob{x:Str}{v:V}{u:Value}{pos:Pos}(hg:Gl X x)(hm:X.mg x=some u)(r:RelV v u)(hd:(x==("__debug__":Str))=false:=by decide):PE X (.Name x pos) (tC v):=
 fun _ _ _ H _ I h=>oz I hg hm ⟨v,H,I,r,h⟩ hd
theorem pe_bltn{x:Str}{v:V}{u:Value}{pos:Pos}(hg:Gl X x)(hm:X.mg x=none)(hv:cW x=some u)(r:RelV v u)(hn:x≠"__name__":=by decide) (hd:(x==("__debug__":Str))=false:=by decide):PE X (.Name x pos) (tC v):=
 fun _ _ _ H _ I h=>gG I hg hm hv ⟨v,H,I,r,h⟩ hn hd
variable {a b:Expr}{ta tb:TE}{pos:Pos}
noncomputable def PC(X:Cx)(op:CmpOp)(a b:Expr)(t:TE):Prop:=
 ∀(pins:List (Addr×Obj))(s:Shared)(σ:St)(H:Hp)(Q:VK),Inv X pins σ H s->t σ H Q->
  wpAny (model X.prog X.w) X.A (eval a X.env) (fun v s₁=>wpAny (model X.prog X.w) X.A (eval b X.env) (fun u s₂=>wpAny (model X.prog X.w) X.A (b9 op v u) (EP X pins σ Q) X.xe s₂) X.xe s₁) X.xe s
noncomputable def tB(t:TE):TT:=fun σ H Q=>t σ H fun x H1=>∃c,x=.bl c/\Q c H1
theorem A6{op:CmpOp}{t:TE}(h:PC X op a b t)(h1:ke op b=false:=by first |exact nobehind _ (by decide) (by decide) |rfl):PE X (.Compare a [op] [b] pos) t:=fun pins s σ H Q I hw=>wpAny_Compare1 (h pins s σ H Q I hw) h1
theorem AN{op:CmpOp}{t:TE}(h:PC X op a b t)(h1:ke op b=false:=by first |exact nobehind _ (by decide) (by decide) |rfl):PT X (.Compare a [op] [b] pos) (tB t):=by
 intro pins s σ H Q I hw;refine wpAny_isTrue_Compare1 (thn (h pins s σ H _ I hw) fun v s1 h1=>thn h1 fun u s2 h2=>thn h2 fun c s3 ⟨x,H1,I1,r1,q1⟩=>?_) h1;obtain⟨d,rfl,q⟩:=q1;cases r1;exact cg ⟨H1,I1,q⟩
variable {tA tB':TT}{rest:List Expr}
noncomputable def tAnd(t u:TT):TT:=fun σ H Q=>t σ H fun c H1=>if c=true then u σ H1 Q else Q false H1
noncomputable def tOr(t u:TT):TT:=fun σ H Q=>t σ H fun c H1=>if c=true then Q true H1 else u σ H1 Q
noncomputable def tNot(t:TT):TT:=fun σ H Q=>t σ H fun c H1=>Q (!c) H1
theorem pw_and1(ha:PT X a tA):PW X (.BoolOp .And [a] pos) tA:=by
 intro wh pins s σ H Q I h;refine isTrue_and (thn (ha pins s σ H Q I h) fun c s1 e=>?_);cases c with
 |true=>exact isTrue_and_nil e
 |false=>exact e
theorem pw_or1(ha:PT X a tA):PW X (.BoolOp .Or [a] pos) tA:=by
 intro wh pins s σ H Q I h;refine isTrue_or (thn (ha pins s σ H Q I h) fun c s1 e=>?_);cases c with
 |false=>exact isTrue_or_nil e
 |true=>exact e
theorem AL(ha:PT X a tA)(hb:PW X (.BoolOp .And (b::rest) pos) tB'):PW X (.BoolOp .And (a::b::rest) pos) (tAnd tA tB'):=by
 intro wh pins s σ H Q I h;refine isTrue_and (thn (ha pins s σ H _ I h) fun c s1 ⟨H1,I1,q1⟩=>?_);cases c with
 |true=>exact hb wh pins s1 σ H1 Q I1 q1
 |false=>exact⟨H1,I1,q1⟩
theorem pw_or(ha:PT X a tA)(hb:PW X (.BoolOp .Or (b::rest) pos) tB'):PW X (.BoolOp .Or (a::b::rest) pos) (tOr tA tB'):=by
 intro wh pins s σ H Q I h;refine isTrue_or (thn (ha pins s σ H _ I h) fun c s1 ⟨H1,I1,q1⟩=>?_);cases c with
 |true=>exact⟨H1,I1,q1⟩
 |false=>exact hb wh pins s1 σ H1 Q I1 q1
theorem pt_not(ha:PT X a tA):PT X (.UnaryOp .Not a pos) (tNot tA):=by
 intro pins s σ H Q I h;exact isTrue_not (ha pins s σ H (fun c H1=>Q (!c) H1) I h)
noncomputable def z9(ta tb:TE):TE:=fun σ H Q=>ta σ H fun x H1=>∃c,x=.bl c/\if c=true then tb σ H1 Q else Q (.bl false) H1
noncomputable def tOrV(ta tb:TE):TE:=fun σ H Q=>ta σ H fun x H1=>∃c,x=.bl c/\if c=true then Q (.bl true) H1 else tb σ H1 Q
noncomputable def zX(ta:TE):TE:=fun σ H Q=>ta σ H fun x H1=>∃c,x=.bl c/\Q (.bl (!c)) H1
theorem A0{op}{t:TE}(h:PE X a t):PE X (.BoolOp op [a] pos) t:=fun pins s σ H Q I hw=>BoolOp_one (h pins s σ H Q I hw)
theorem Ba(ha:PE X a ta)(hb:PE X (.BoolOp .And (b::rest) pos) tb):PE X (.BoolOp .And (a::b::rest) pos) (z9 ta tb):=by
 intro pins s σ H Q I h;refine BoolOp_and (thn (ha pins s σ H _ I h) fun v s1 ⟨x,H1,I1,r1,q1⟩=>?_);obtain⟨c,rfl,q1⟩:=q1;cases r1;refine cg ?_;cases c with
 |true=>exact hb pins s1 σ H1 Q I1 q1
 |false=>exact⟨.bl false,H1,I1,rfl,q1⟩
theorem pe_or(ha:PE X a ta)(hb:PE X (.BoolOp .Or (b::rest) pos) tb):PE X (.BoolOp .Or (a::b::rest) pos) (tOrV ta tb):=by
 intro pins s σ H Q I h;refine BoolOp_or (thn (ha pins s σ H _ I h) fun v s1 ⟨x,H1,I1,r1,q1⟩=>?_);obtain⟨c,rfl,q1⟩:=q1;cases r1;refine cg ?_;cases c with
 |false=>exact hb pins s1 σ H1 Q I1 q1
 |true=>exact⟨.bl true,H1,I1,rfl,q1⟩
theorem pe_not(ha:PE X a ta):PE X (.UnaryOp .Not a pos) (zX ta):=by
 intro pins s σ H Q I h;refine UnaryOp_ (thn (ha pins s σ H _ I h) fun v s1 ⟨x,H1,I1,r1,q1⟩=>?_);obtain⟨c,rfl,q1⟩:=q1;cases r1;exact not_of (cg ⟨.bl (!c),H1,I1,rfl,q1⟩)
noncomputable def tIf(t:TT)(ta tb:TE):TE:=fun σ H Q=>t σ H fun c H1=>if c=true then ta σ H1 Q else tb σ H1 Q
theorem A2{c:Expr}(hc:PT X c tA)(ha:PE X a ta)(hb:PE X b tb):PE X (.IfExp c a b pos) (tIf tA ta tb):=by
 intro pins s σ H Q I h;refine wpAny_IfExp (thn (hc pins s σ H _ I h) fun d s1 ⟨H1,I1,q1⟩=>?_);cases d with
 |true=>exact ha pins s1 σ H1 Q I1 q1
 |false=>exact hb pins s1 σ H1 Q I1 q1
end
noncomputable def SqL(K:aa)(H:Hp)(a:Addr)(xs:List V):Prop:=
 Rd H a (.lst xs)\/
  ∃(o:Obj)(its:Array Value)(n:Nat),K.lookup a=some o/\o.cls=.type "list"/\o.dict=none/\o.data=.seq its n/\its.size<=sizeLine/\bC xs its.toList
noncomputable def SqT(K:aa)(H:Hp)(a:Addr)(xs:List V):Prop:=
 Rd H a (.tup xs)\/
  ∃(o:Obj)(its:Array Value)(n:Nat),K.lookup a=some o/\o.cls=.type "tuple"/\o.data=.seq its n/\its.size<=sizeLine/\bC xs its.toList
noncomputable def absV:Value->Option V
 |.none=>some .non
 |.bool b=>some (.bl b)
 |.int i _=>some (.int i)
 |.str x _=>some (.str x)
 |.bytes b _=>some (.byt b)
 |.float b _=>some (.flt b)
 |.ref a=>some (.ref a)
 |.type n=>some (.ty n)
 |_=>none
theorem RelV.abs{x:V}{u:Value}(r:RelV x u):absV u=some x:=by
 cases x with
 |non=>cases r;rfl
 |bl _=>cases r;rfl
 |int _=>obtain⟨t,rfl⟩:=r;rfl
 |str _=>obtain⟨t,rfl⟩:=r;rfl
 |byt _=>obtain⟨t,rfl⟩:=r;rfl
 |flt _=>obtain⟨t,rfl⟩:=r;rfl
 |ref _=>cases r;rfl
 |ty _=>cases r;rfl
theorem RelV.inj{x y:V}{u:Value}(r:RelV x u)(q:RelV y u):x=y:=be (r.abs.symm.trans q.abs)
theorem bC.inj{xs ys:List V}{us:List Value}(h:bC xs us):bC ys us->xs=ys:=by
 induction h generalizing ys with
 |nil=>intro k;cases k;rfl
 |cons r k ih=>
  intro w;cases w with
  |cons r' w'=>rw[r.inj r',ih w']
section
variable {X:Cx}{pins:List (Addr×Obj)}{σ:St}{H:Hp}{s:Shared}{a:Addr}{xs ys:List V}
theorem SqL.of{K:aa}(h:H a=some (.lst xs)):SqL K H a xs:=.inl (.inl h)
theorem SqT.of{K:aa}(h:H a=some (.tup xs)):SqT K H a xs:=.inl (.inl h)
theorem Inv.list(I:Inv X pins σ H s)(h:SqL X.K H a xs):∃its:List Value,bC xs its/\PlainL s.heap a its.toArray/\xs.length<=sizeLine:=by
 rcases h with h|⟨o,its,n,hk,hc,hd,hs,hz,r⟩
 ·obtain⟨z,its,n,r,e⟩:=h.ok I.hok
  exact⟨its,r,⟨_,n,e,rfl,rfl,rfl⟩,z⟩
 ·refine⟨its.toList,r,⟨o,n,I.kIn a o hk,hc,hd,by simpa using hs⟩,?_⟩
  have e:=r.length;simp only[bZ]at e;omega
theorem Inv.tuple(I:Inv X pins σ H s)(h:SqT X.K H a xs):∃its:List Value,bC xs its/\IsTup s.heap a its.toArray/\xs.length<=sizeLine:=by
 rcases h with h|⟨o,its,n,hk,hc,hs,hz,r⟩
 ·obtain⟨z,its,r,p⟩:=h.ok I.hok
  exact⟨its,r,p,z⟩
 ·refine⟨its.toList,r,⟨o,I.kIn a o hk,hc,n,by simpa using hs⟩,?_⟩
  have e:=r.length;simp only[bZ]at e;omega
theorem Inv.lI(I:Inv X pins σ H s)(h:SqL X.K H a xs)(h':SqL X.K H a ys):xs=ys:=by
 obtain⟨its,r,⟨o,n,e,_,_,d⟩,_⟩:=I.list h;obtain⟨its',r',⟨o',n',e',_,_,d'⟩,_⟩:=I.list h';rw[e]at e';cases e';rw[d]at d';injection d' with d1 _
 have :its=its':=by simpa using congrArg Array.toList d1
 subst this;exact r.inj r'
theorem Inv.qS(I:Inv X pins σ H s)(h:SqT X.K H a xs)(h':SqT X.K H a ys):xs=ys:=by
 obtain⟨its,r,⟨o,e,_,n,d⟩,_⟩:=I.tuple h;obtain⟨its',r',⟨o',e',_,n',d'⟩,_⟩:=I.tuple h';rw[e]at e';cases e';rw[d]at d';injection d' with d1 _
 have :its=its':=by simpa using congrArg Array.toList d1
 subst this;exact r.inj r'
end
section
variable {X:Cx}{st:Stmt}{rest:List Stmt}{t u:TS}{e:Expr}{te:TE}{pos:Pos}
noncomputable def uk:TS:=fun D σ H=>D.nx σ H
noncomputable def tSeq(t u:TS):TS:=fun D σ H=>t {D with nx:=u D} σ H
theorem pss_nil:PSs X [] uk:=fun _ _ σ H _ I h=>w9 ⟨σ,H,I,h⟩
theorem AQ(h1:PS X st t)(h2:PSs X rest u):PSs X (st::rest) (tSeq t u):=by
 intro pins s σ H D I h;refine wpAny_execs_cons (thn (h1 pins s σ H {D with nx:=u D} I h) fun f s1 q=>?_);cases f with
 |next =>
  obtain⟨σ',H',I',q⟩:=q;exact h2 pins s1 σ' H' D I' q
 |ret v=>exact q
 |brk=>exact q
 |cont=>exact q
noncomputable def z8:TS:=fun D σ H=>D.bk σ H
noncomputable def tCont:TS:=fun D σ H=>D.ct σ H
theorem ps_pass:PS X (.Pass pos) uk:=fun _ _ σ H _ I h=>wpAny_Pass ⟨σ,H,I,h⟩
theorem AU:PS X (.Break pos) z8:=fun _ _ σ H _ I h=>wpAny_Break ⟨σ,H,I,h⟩
theorem uA:PS X (.Continue pos) tCont:=fun _ _ σ H _ I h=>wpAny_Continue ⟨σ,H,I,h⟩
theorem Inv.quiet{pins:List (Addr×Obj)}{σ:St}{H:Hp}{s:Shared}(I:Inv X pins σ H s):interactive X.env=false:=by simp[interactive,I.ok.kind]
noncomputable def zZ(te:TE):TS:=fun D σ H=>te σ H fun _ H1=>D.nx σ H1
theorem ps_expr(he:PE X e te)(hs:k6 e none pos.line X.env=pure false:=by rfl):PS X (.Expr e pos) (zZ te):=by
 intro pins s σ H D I h;exact wpAny_Expr_any (thn (he pins s σ H _ I h) fun v s1 ⟨x,H1,I1,r1,q1⟩=>⟨σ,H1,I1,q1⟩) I.quiet hs
noncomputable def tRet(te:TE):TS:=fun D σ H=>te σ H D.rt
theorem ps_ret(he:PE X e te):PS X (.Return (some e) pos) (tRet te):=by
 intro pins s σ H D I h;exact wpAny_Return_some (thn (he pins s σ H _ I h) fun v s1 ⟨x,H1,I1,r1,q1⟩=>⟨x,σ,H1,I1,r1,q1⟩)
noncomputable def zV:TS:=fun D _ H=>D.rt .non H
theorem ps_retN:PS X (.Return none pos) zV:=fun _ _ σ H _ I h=>wpAny_Return_none ⟨.non,σ,H,I,rfl,h⟩
noncomputable def tIfS(c:TT)(t u:TS):TS:=fun D σ H=>c σ H fun b H1=>if b=true then t D σ H1 else u D σ H1
theorem ps_if{c:Expr}{a b:List Stmt}{tc:TT}(hc:PT X c tc)(ha:PSs X a t)(hb:PSs X b u):PS X (.If c a b pos) (tIfS tc t u):=by
 intro pins s σ H D I h;refine wpAny_If (thn (hc pins s σ H _ I h) fun d s1 ⟨H1,I1,q1⟩=>?_);cases d with
 |true=>exact ha pins s1 σ H1 D I1 q1
 |false=>exact hb pins s1 σ H1 D I1 q1
end
noncomputable abbrev TG:=V->St->Hp->(St->Hp->Prop)->Prop
noncomputable abbrev TGs:=List V->St->Hp->(St->Hp->Prop)->Prop
noncomputable def PG(X:Cx)(target:Expr)(t:TG):Prop:=
 ∀(pins:List (Addr×Obj))(s:Shared)(σ:St)(H:Hp)(v:V)(u:Value)(Q:St->Hp->Prop),Inv X pins σ H s->RelV v u->t v σ H Q->
  wpAny (model X.prog X.w) X.A (assign target X.env u) (fun _ s'=>∃σ' H',Inv X pins σ' H' s'/\Q σ' H') X.xe s
noncomputable def PGs(X:Cx)(ts:List Expr)(t:TGs):Prop:=
 ∀(pins:List (Addr×Obj))(s:Shared)(σ:St)(H:Hp)(vs:List V)(us:List Value)(Q:St->Hp->Prop),Inv X pins σ H s->bC vs us->t vs σ H Q->
  wpAny (model X.prog X.w) X.A (assignInOrder ((du ts X.env).map (·.2)) us) (fun _ s'=>∃σ' H',Inv X pins σ' H' s'/\Q σ' H') X.xe s
noncomputable abbrev TSet:=V->V->V->Hp->(Hp->Prop)->Prop
noncomputable def PSet(X:Cx)(t:TSet):Prop:=
 ∀(pins:List (Addr×Obj))(s:Shared)(σ:St)(H:Hp)(o i v:V)(ov iv u:Value)(Q:Hp->Prop),Inv X pins σ H s->RelV o ov->RelV i iv->RelV v u->t o i v H Q->
  wpAny (model X.prog X.w) X.A (setItem ov iv u) (fun _ s'=>∃H',Inv X pins σ H' s'/\Q H') X.xe s
section
variable {X:Cx}{pos:Pos}
noncomputable def lK(i:Nat):TG:=fun v σ H Q=>Q (σ.set i (some v)) H
theorem xr{i:Nat}{x:Str}(hN:X.N.Nodup)(hi:X.N[i]? =some x)(hx:Loc X.env.scope x)(hf:X.fn x=true\/X.env.scope.names.lookup x=some .local:=by first |exact .inl rfl|exact .inr rfl|assumption):PG X (.Name x pos) (lK i):=by
 intro pins s σ H v u Q I r h;exact wpAny_assign_Name (uq I hN hi hx r (fun s' I'=>⟨_,H,I',h⟩) hf)
noncomputable def gNil:TGs:=fun vs σ H Q=>vs=[]/\Q σ H
noncomputable def u4(t:TG)(u:TGs):TGs:=fun vs σ H Q=>∃v r,vs=v::r/\t v σ H fun σ' H'=>u r σ' H' Q
theorem pgs_nil:PGs X [] gNil:=by
 intro pins s σ H vs us Q I r h;obtain⟨e,h⟩:=h;subst e;cases r;exact assignInOrder_nil ⟨σ,H,I,h⟩
theorem AY{e:Expr}{es:List Expr}{t:TG}{u:TGs}(h1:PG X e t)(h2:PGs X es u)
  (hs:(du (e::es) X.env).map (·.2)=assign e X.env::(du es X.env).map (·.2):=by rfl):PGs X (e::es) (u4 t u):=by
 intro pins s σ H vs us Q I r h;obtain⟨v,vr,e1,h⟩:=h;subst e1;cases r with
 |cons r rr=>
  rw[hs];refine assignInOrder_cons (thn (h1 pins s σ H _ _ _ I r h) fun _ s1 ⟨σ1,H1,I1,q1⟩=>?_);exact h2 pins s1 σ1 H1 _ _ Q I1 rr q1
noncomputable def gTup(K:aa)(n:Nat)(t:TGs):TG:=fun v σ H Q=>∃a xs,v=.ref a/\SqT K H a xs/\xs.length=n/\t xs σ H Q
theorem pg_tup{es:List Expr}{k:Nat}{t:TGs}{n:Nat}(hc:X.calm=true)(h:PGs X es t)
  (hn:(du es X.env).length=n:=by rfl) (hst:(du es X.env).findIdx? (·.1)=none:=by rfl):PG X (.Tuple es k pos) (gTup X.K n t):=by
 intro pins s σ H v u Q I r hw;obtain⟨a,xs,e1,hq,hl,hw⟩:=hw;subst e1;cases r;obtain⟨its,rv,ht,hz⟩:=I.tuple hq;refine assign_Tuple_tuple (I.ok.hd hc) ht (by simp[hn,<-hl,rv.length]) hst fun h' hx=>?_;have I1:Inv X pins σ H {s with heap:=h'}:=I.kept (t':=s.toks) fun b o e=>hx b o (aD (aw e)) e;exact h pins _ σ H xs _ Q I1 (by simpa using rv) hw
noncomputable def gSub(to ti:TE)(t:TSet):TG:=fun v σ H Q=>to σ H fun o H1=>ti σ H1 fun i H2=>t o i v H2 fun H3=>Q σ H3
theorem pg_sub{o i:Expr}{to ti:TE}{t:TSet}(ho:PE X o to)(hi:PE X i ti)(hs:PSet X t)
  (ha:∀v,assign (.Subscript o i pos) X.env v=(do
   let ov<-holding [v] (eval o X.env)
   let iv<-holding [v,ov] (eval i X.env)
   standAt pos
   holding [v,ov,iv] (setItem ov iv v)
   release [v,ov,iv] []):=by intro _;rfl):PG X (.Subscript o i pos) (gSub to ti t):=by
 intro pins s σ H v u Q I r h;rw[ha];refine af (cc (thn (ho pins s σ H _ I h) fun ov s1 ⟨x,H1,I1,r1,q1⟩=>?_));refine af (cc (thn (hi pins s1 σ H1 _ I1 q1) fun iv s2 ⟨y,H2,I2,r2,q2⟩=>?_));refine af (hG (af (cc (thn (hs pins s2 σ H2 x y v ov iv u _ I2 r1 r2 r q2) fun _ s3 ⟨H3,I3,q3⟩=>?_))));exact wpAny_release ⟨σ,H3,I3,q3⟩
noncomputable def yc(te:TE)(g:TG):TS:=fun D σ H=>te σ H fun x H1=>g x σ H1 D.nx
theorem ps_asg{tg e:Expr}{te:TE}{g:TG}(he:PE X e te)(hg:PG X tg g)(hs:swapsWithSole [tg] e pos.line X.env=pure false:=by rfl) (hw:swappedStores [tg] e X.env=pure none:=by rfl)
  (h1:(du [tg] X.env).map (·.2)=[assign tg X.env]:=by rfl):PS X (.Assign [tg] e pos) (yc te g):=by
 intro pins s σ H D I h;refine wpAny_Assign_stores (thn (he pins s σ H _ I h) fun v s1 ⟨x,H1,I1,r1,q1⟩=>?_) hs hw;rw[h1];exact thn (hg pins s1 σ H1 x v _ I1 r1 q1) fun _ s2 q=>q
theorem ps_set{i:Nat}{x:Str}{e:Expr}{te:TE}{pos':Pos}(hN:X.N.Nodup)(hi:X.N[i]? =some x)(hx:Loc X.env.scope x)(he:PE X e te)(hs:k6 e (some (.Name x pos')) pos.line X.env=pure false:=by rfl) (hf:X.fn x=true\/X.env.scope.names.lookup x=some .local:=by first |exact .inl rfl|exact .inr rfl|assumption):
  PS X (.Assign [.Name x pos'] e pos) (yc te (lK i)):=by
 intro pins s σ H D I h;refine wpAny_Assign_Name (thn (he pins s σ H _ I h) fun v s1 ⟨y,H1,I1,r1,q1⟩=>?_) hs;exact uq I1 hN hi hx r1 (fun s2 I2=>⟨_,H1,I2,q1⟩) hf
end
section
variable {X:Cx}{pos:Pos}
noncomputable def zT(c:TT)(tb:TS):TS:=fun D σ H=>∃W:Nat->St->Hp->Prop,(∃m,W m σ H)/\∀m σ H,W m σ H->
 c σ H fun b H1=>if b=true then ∃N:St->Hp->Prop,(∀σ' H',N σ' H'->∃m',m'<m/\W m' σ' H')/\tb {D with nx:=N,ct:=N,bk:=D.nx} σ H1 else D.nx σ H1
theorem AR{c:Expr}{body:List Stmt}{tc:TT}{tb:TS}(hp:PassesOwn (model X.prog X.w) X.A X.env X.xe)(hc:PT X c tc)(hb:PSs X body tb):PS X (.While c body [] pos) (zT tc tb):=by
 intro pins s σ H D I h;obtain⟨W,⟨m0,w0⟩,turn⟩:=h;refine wpAny_While (codeAny_whileLoop (fun n s'=>∃σ' H',Inv X pins σ' H' s'/\W n σ' H') ?_ m0 ⟨σ,H,I,w0⟩);rintro n s1 ⟨σ1,H1,I1,w1⟩;refine eB hp (thn (hc pins s1 σ1 H1 _ I1 (turn n σ1 H1 w1)) fun b s2 ⟨H2,I2,q2⟩=>?_);cases b with
 |true=>
  obtain⟨N,hN,q2⟩:=q2;rw[if_pos rfl];refine eB hp (thn (hb pins s2 σ1 H2 _ I2 q2) fun f s3 q3=>?_);cases f with
  |next =>
   obtain⟨σ3,H3,I3,n3⟩:=q3;obtain⟨m',hm,w3⟩:=hN σ3 H3 n3;exact⟨m',hm,σ3,H3,I3,w3⟩
  |cont=>
   obtain⟨σ3,H3,I3,n3⟩:=q3;obtain⟨m',hm,w3⟩:=hN σ3 H3 n3;exact⟨m',hm,σ3,H3,I3,w3⟩
  |brk=>exact q3
  |ret v=>exact q3
 |false=>
  rw[if_neg aQ];exact w9 ⟨σ1,H2,I2,q2⟩
end
structure It where
 go:Nat->Hp->Prop
 yld:Nat->Hp->V->Hp->Prop
 stop:Nat->Hp->Prop
noncomputable def kY(X:Cx)(pins:List (Addr×Obj))(H:Hp)(b:Addr):Prop:=
 H b=none/\b≠X.env.locals/\b∉X.fs/\(b∈X.ex\/X.s₀.heap.objs.size<=b)/\(∀x c,X.env.cells.lookup x=some c->c≠b)/\∀p∈X.pn++pins,p.1≠b
theorem Inv.n8{X:Cx}{pins:List (Addr×Obj)}{σ:St}{H H':Hp}{s:Shared}{b:Addr}(I:Inv X pins σ H s)(hb:s.heap.objs.size<=b)(hn:H' b=none):kY X pins H' b:=by
 refine⟨hn,cC (aT I.lt hb),I.nofs hb,.inr (aP I.sz hb),fun x c e z=>?_,fun p hp z=>?_⟩
 ·obtain⟨v,q⟩:=I.cell x c e
  exact absurd (aT q.lt (by rw[z];exact hb)) (df _)
 ·exact absurd (aT (aw (I.pin p hp).1) (by rw[z];exact hb)) (df _)
structure Turn(P:Program)(w:World)(K:aa)(tg:Expr)(J:It)(fp:List Addr)(it:Addr)(tn:Nat->Heap->Prop):Prop where
 mem:it∈fp
 obj:∀i h,tn i h->∀b∈fp,∃o,h.get? b=some o/\∀v,o.data≠.cell v
 keep:∀i h h',tn i h->(∀b∈fp,∀o,h.get? b=some o->h'.get? b=some o)->tn i h'
 item:∀(X:Cx),X.prog=P->X.w=w->X.K=K->X.calm=true->∀(i:Nat)(pins:List (Addr×Obj))(s:Shared)(σ:St)(H:Hp)(E:Value->Shared->Prop),Inv X pins σ H s->(∀b∈fp,kY X pins H b)->tn i s.heap->J.go i H->
  wpAny (model P w) X.A (pyNext (.ref it)) (fun r s1=>∃u,r=some u/\
   wpAny (model P w) X.A (mz tg (.ref it) u) (fun _ s2=>∃x H',Inv X pins σ H' s2/\RelV x u/\J.yld i H x H'/\tn (i+1) s2.heap/\∀b∈fp,H' b=none) E s1) E s
 done:∀(X:Cx),X.prog=P->X.w=w->X.K=K->X.calm=true->∀(i:Nat)(pins:List (Addr×Obj))(s:Shared)(σ:St)(H:Hp)(E:Value->Shared->Prop),Inv X pins σ H s->(∀b∈fp,kY X pins H b)->tn i s.heap->J.stop i H->
  wpAny (model P w) X.A (pyNext (.ref it)) (fun r s1=>r=none/\Inv X pins σ H s1) E s
 self:∀(A:Around)(i:Nat)(s:Shared)(Q:Value->Shared->Prop)(E:Value->Shared->Prop),tn i s.heap->Q (.ref it) s->wpAny (model P w) A (pyIter (.ref it)) Q E s
noncomputable abbrev TI:=St->Hp->(It->Hp->Prop)->Prop
noncomputable def PIE(X:Cx)(pins:List (Addr×Obj))(σ:St)(tg:Expr)(R:It->Hp->Prop)(itv:Value)(s2:Shared):Prop:=
 ∃(it:Addr)(fp:List Addr)(tn:Nat->Heap->Prop)(J:It)(H':Hp),itv=.ref it/\Inv X pins σ H' s2/\Turn X.prog X.w X.K tg J fp it tn/\tn 0 s2.heap/\(∀b∈fp,kY X pins H' b)/\R J H'
noncomputable def PI(X:Cx)(tg iter:Expr)(wi:TI):Prop:=
 ∀(pins:List (Addr×Obj))(s:Shared)(σ:St)(H:Hp)(R:It->Hp->Prop),Inv X pins σ H s->wi σ H R->
  wpAny (model X.prog X.w) X.A (eval iter X.env) (fun v s1=>wpAny (model X.prog X.w) X.A (pyIter v) (PIE X pins σ tg R) X.xe s1) X.xe s
theorem rD{M:Model}{A:Around}{E:Value->Shared->Prop}{s:Shared}{tg:Expr}{it:Addr}{u:Value}{o:Obj}{n:String}{vs:Array Value}{Q:Unit->Shared->Prop}(ho:s.heap.get? it=some o)(hc:o.cls=.type n)(hd:o.data=.fields vs)
  (hn:["enumerate","zip","dict_itemiterator","dict_reverseitemiterator","odict_iterator","itertools.zip_longest","itertools.pairwise"].contains n=false)(hQ:Q () s):wpAny M A (mz tg (.ref it) u) Q E s:=by
 unfold mz;cases tg<;>first
  |exact aj hQ
  | (cases u<;>first
    |exact aj hQ
    | (refine af (wpAny_load ho ?_)
       rw[hc,hd];show wpAny M A (if(["enumerate","zip","dict_itemiterator","dict_reverseitemiterator","odict_iterator","itertools.zip_longest","itertools.pairwise"].contains n&&vs[0]? ==some (rawInt _))=true then _ else _) Q E s;rw[if_neg (by intro h;rw[hn,eG]at h;cases h)];exact aj hQ))
noncomputable def Itl(K:aa)(a:Addr):It:=
 ⟨fun i H=>∃xs x,SqL K H a xs/\xs[i]? =some x,fun i H x H'=>H'=H/\∀xs,SqL K H a xs->xs[i]? =some x,fun i H=>∃xs,SqL K H a xs/\xs.length<=i⟩
noncomputable def Itt(K:aa)(a:Addr):It:=
 ⟨fun i H=>∃xs x,SqT K H a xs/\xs[i]? =some x,fun i H x H'=>H'=H/\∀xs,SqT K H a xs->xs[i]? =some x,fun i H=>∃xs,SqT K H a xs/\xs.length<=i⟩
noncomputable def Itr(lo:Int)(n:Nat):It:=⟨fun i _=>i<n,fun i H x H'=>H'=H/\x=.int (lo+i),fun i _=>n<=i⟩
theorem qR{P:Program}{w:World}{K:aa}{tg:Expr}(a it:Addr):Turn P w K tg (Itl K a) [it] it (fun i h=>h.IsListIter it a i) where
 mem:=by simp
 obj:=fun i h st b hb=>by
  have e:b=it:=by simpa using hb
  subst e;obtain⟨o,e,c,d⟩:=st;exact⟨o,e,fun v z=>by rw[d]at z;cases z⟩
 keep:=fun i h h' st k=>st.at fun o e=>k it (by simp) o e
 item:=by
  intro X hP hw hK hc i pins s σ H E I hf st hg;subst hP hw hK;obtain⟨xs,x,hq,hx⟩:=hg;obtain⟨its,rv,p,hz⟩:=I.list hq;obtain⟨u,hu,ru⟩:=rv.get hx;obtain⟨f0,f1,f2,f3,f4,f5⟩:=hf it (by simp);refine wpAny_pyNext_list_item st p.isList (x:=u) (by simpa using hu) fun h' st' sb=>?_;have I1:Inv X pins σ H {s with heap:=h'}:=I.turned (t':=s.toks) (fun b o hb e=>(sb.2 b hb).trans e) f0 f1 f3 f4 f5;obtain⟨o,e,c,d⟩:=id st';exact⟨u,rfl,rD (s:={s with heap:=h'}) e c d (by decide) ⟨x,H,I1,ru,⟨rfl,fun ys hy=>by rw[I.lI hy hq];exact hx⟩,st',fun b hb=>(hf b hb).1⟩⟩
 done:=by
  intro X hP hw hK hc i pins s σ H E I hf st hg;subst hP hw hK;obtain⟨xs,hq,hx⟩:=hg;obtain⟨its,rv,p,hz⟩:=I.list hq;obtain⟨f0,f1,f2,f3,f4,f5⟩:=hf it (by simp);have hl:=rv.length;exact wpAny_pyNext_list_end (I.ok.hd hc) st p.isList (by simp;omega) fun h' eb=>⟨rfl,I.turned (t':=s.toks) (fun b o hb e=>eb b o hb e) f0 f1 f3 f4 f5⟩
 self:=fun _ _ _ _ _ st h=>wpAny_pyIter_listiter st h
theorem oN{P:Program}{w:World}{K:aa}{tg:Expr}(a it:Addr):Turn P w K tg (Itt K a) [it] it (fun i h=>h.IsTupleIter it a i) where
 mem:=by simp
 obj:=fun i h st b hb=>by
  have e:b=it:=by simpa using hb
  subst e;obtain⟨o,e,c,d⟩:=st;exact⟨o,e,fun v z=>by rw[d]at z;cases z⟩
 keep:=fun i h h' st k=>st.at fun o e=>k it (by simp) o e
 item:=by
  intro X hP hw hK hc i pins s σ H E I hf st hg;subst hP hw hK;obtain⟨xs,x,hq,hx⟩:=hg;obtain⟨its,rv,p,hz⟩:=I.tuple hq;obtain⟨u,hu,ru⟩:=rv.get hx;obtain⟨f0,f1,f2,f3,f4,f5⟩:=hf it (by simp);refine wpAny_pyNext_tuple_item st (show s.heap.IsTuple a its.toArray from p) (x:=u) (by simpa using hu) fun h' st' sb=>?_;have I1:Inv X pins σ H {s with heap:=h'}:=I.turned (t':=s.toks) (fun b o hb e=>(sb.2 b hb).trans e) f0 f1 f3 f4 f5;obtain⟨o,e,c,d⟩:=id st';exact⟨u,rfl,rD (s:={s with heap:=h'}) e c d (by decide) ⟨x,H,I1,ru,⟨rfl,fun ys hy=>by rw[I.qS hy hq];exact hx⟩,st',fun b hb=>(hf b hb).1⟩⟩
 done:=by
  intro X hP hw hK hc i pins s σ H E I hf st hg;subst hP hw hK;obtain⟨xs,hq,hx⟩:=hg;obtain⟨its,rv,p,hz⟩:=I.tuple hq;obtain⟨f0,f1,f2,f3,f4,f5⟩:=hf it (by simp);have hl:=rv.length;exact wpAny_pyNext_tuple_end (I.ok.hd hc) st (show s.heap.IsTuple a its.toArray from p) (by simp;omega) fun h' eb=>⟨rfl,I.turned (t':=s.toks) (fun b o hb e=>eb b o hb e) f0 f1 f3 f4 f5⟩
 self:=fun _ _ _ _ _ st h=>wpAny_pyIter_tupleiter st h
theorem vO{P:Program}{w:World}{K:aa}{tg:Expr}(it:Addr)(lo:Int)(n:Nat):Turn P w K tg (Itr lo n) [it] it (fun i h=>IsRangeIter h it (lo+(i:Nat)*1) ((n:Int)-(i:Nat)) 1) where
 mem:=by simp
 obj:=fun i h st b hb=>by
  have e:b=it:=by simpa using hb
  subst e;exact⟨_,st,fun v z=>by
   have z':Data.fields _=Data.cell v:=z;cases z'⟩
 keep:=fun i h h' st k=>k it (by simp) _ st
 item:=by
  intro X hP hw hK hc i pins s σ H E I hf st hg;subst hP hw hK;obtain⟨f0,f1,f2,f3,f4,f5⟩:=hf it (by simp);have W:=Walks.range (prog:=X.prog) (w:=X.w) (I.ok.hd hc) it lo 1 n;refine W.item i s _ _ hg st fun v h' tk hv st' kk=>?_;obtain⟨t,rfl⟩:=hv;have I1:Inv X pins σ H {s with heap:=h',toks:=tk}:=I.turned (fun b o hb e=>kk b o (by simpa using hb) e) f0 f1 f3 f4 f5;refine⟨_,rfl,rD (s:={s with heap:=h',toks:=tk}) (n:="range_iterator") st' rfl rfl (by decide) ⟨.int (lo+i),H,I1,⟨t,?_⟩,⟨rfl,rfl⟩,st',fun b hb=>(hf b hb).1⟩⟩;rw[Int.mul_one]
 done:=by
  intro X hP hw hK hc i pins s σ H E I hf st hg;subst hP hw hK;obtain⟨f0,f1,f2,f3,f4,f5⟩:=hf it (by simp);exact wpAny_pyNext_range_end (I.ok.hd hc) st (by have :n<=i:=hg;omega) fun h' eb=>⟨rfl,I.turned (t':=s.toks) (fun b o hb e=>eb b o hb e) f0 f1 f3 f4 f5⟩
 self:=fun _ _ _ _ _ st h=>wpAny_pyIter_rangeiter st h
section
variable {X:Cx}{tg:Expr}
noncomputable def BB(K:aa)(tl:TE):TI:=fun σ H R=>tl σ H fun x H1=>∃a,x=.ref a/\(∃xs,SqL K H1 a xs)/\R (Itl K a) H1
noncomputable def iTup(K:aa)(tl:TE):TI:=fun σ H R=>tl σ H fun x H1=>∃a,x=.ref a/\(∃xs,SqT K H1 a xs)/\R (Itt K a) H1
theorem pi_list{l:Expr}{tl:TE}(hl:PE X l tl):PI X tg l (BB X.K tl):=by
 intro pins s σ H R I h;refine thn (hl pins s σ H _ I h) fun v s1 ⟨x,H1,I1,r1,q1⟩=>?_;obtain⟨a,e,⟨xs,hq⟩,q⟩:=q1;subst e;cases r1;obtain⟨its,rv,p,hz⟩:=I1.list hq;refine gv p.isList ?_;refine⟨s1.heap.objs.size,[s1.heap.objs.size],_,_,H1,rfl,I1.kept (t':=s1.toks) fun b o e=>ag _ e,qR a _,⟨_,aC _ rfl,rfl,rfl⟩,fun b hb=>?_,q⟩;have e:b=s1.heap.objs.size:=by simpa using hb
 subst e;exact I1.n8 (ar _) (I1.hok.fresh (ar _))
theorem pi_tup{l:Expr}{tl:TE}(hl:PE X l tl):PI X tg l (iTup X.K tl):=by
 intro pins s σ H R I h;refine thn (hl pins s σ H _ I h) fun v s1 ⟨x,H1,I1,r1,q1⟩=>?_;obtain⟨a,e,⟨xs,hq⟩,q⟩:=q1;subst e;cases r1;obtain⟨its,rv,p,hz⟩:=I1.tuple hq;refine wpAny_pyIter_tuple (show s1.heap.IsTuple a its.toArray from p) ?_;refine⟨s1.heap.objs.size,[s1.heap.objs.size],_,_,H1,rfl,I1.kept (t':=s1.toks) fun b o e=>ag _ e,oN a _,⟨_,aC _ rfl,rfl,rfl⟩,fun b hb=>?_,q⟩;have e:b=s1.heap.objs.size:=by simpa using hb
 subst e;exact I1.n8 (ar _) (I1.hok.fresh (ar _))
theorem uz{pins:List (Addr×Obj)}{σ:St}{H:Hp}{s:Shared}{R:It->Hp->Prop}{E:Value->Shared->Prop}{lo hi:Int}{t u v:Tok}{tk:Nat}(I:Inv X pins σ H s)(h1: -(2^62)<=lo)(h2:lo<2^62)(h3: -(2^62)<=hi)(h4:hi<2^62)
  (q:R (Itr lo (hi-lo).toNat) H):wpAny (model X.prog X.w) X.A (pyIter (.ref s.heap.objs.size)) (PIE X pins σ tg R) E {s with heap:=s.heap.push {cls:=.type "range",data:=.fields #[.int lo t,.int hi u,.int 1 v]},toks:=tk}:=by
 refine wpAny_pyIter_range (IsRange.new ..) (small_one h1 h2 h3 h4) ?_;have I1:Inv X pins σ H {s with heap:=s.heap.push {cls:=.type "range",data:=.fields #[.int lo t,.int hi u,.int 1 v]},toks:=tk}:=I.kept fun b o e=>ag _ e;refine⟨(s.heap.push {cls:=.type "range",data:=.fields #[.int lo t,.int hi u,.int 1 v]}).objs.size,[(s.heap.push {cls:=.type "range",data:=.fields #[.int lo t,.int hi u,.int 1 v]}).objs.size],_,_,H,rfl,
  I1.kept (t':=tk) fun b o e=>ag _ e,vO _ lo (hi-lo).toNat,?_,fun b hb=>?_,q⟩
 ·have e1:lo+((0:Nat):Int)*1=lo:=by simp
  have e2:(((hi-lo).toNat:Nat):Int)-((0:Nat):Int)=Builtin.Range.rangeSize lo hi 1:=by rw[rangeSize_one];split <;>omega
  show IsRangeIter _ _ (lo+((0:Nat):Int)*1) ((((hi-lo).toNat:Nat):Int)-((0:Nat):Int)) 1;rw[e1,e2];exact aC _ rfl
 ·have e:b=(s.heap.push {cls:=.type "range",data:=.fields #[.int lo t,.int hi u,.int 1 v]}).objs.size:=by simpa using hb
  subst e;exact I1.n8 (ar _) (I1.hok.fresh (ar _))
noncomputable def BA(ta:TA):TI:=fun σ H R=>ta σ H fun vs H1=>∃j:Int,vs=[.int j]∧-(2^62)<=j/\j<2^62/\R (Itr 0 j.toNat) H1
noncomputable def Bz(ta:TA):TI:=fun σ H R=>ta σ H fun vs H1=>∃i j:Int,vs=[.int i,.int j]/\(-(2^62)<=i/\i<2^62∧-(2^62)<=j/\j<2^62)/\R (Itr i (j-i).toNat) H1
theorem yu{a:Expr}{ta:TA}{p pos:Pos}(hg:Gl X "range")(hm:X.mg "range"=none)(ha:PA X [a] ta)(hs:bu [a] X.env=[(false,eval a X.env)]:=by rfl):PI X tg (.Call (.Name "range" p) [a] [] pos) (BA ta):=by
 intro pins s σ H R I h;refine Call_ (gG I hg hm boot_range (bM (thn (ha pos pins s σ H _ I h) fun us s1 ⟨vs,H1,I1,r1,q1⟩=>?_) hs rfl));obtain⟨j,e,q1,q2,q⟩:=q1;subst e;cases r1 with
 |cons r rr=>
  cases rr;obtain⟨t,rfl⟩:=r;exact call_range_1 (uz I1 (by omega) (by omega) q1 q2 (by simpa using q))
theorem yt{a b:Expr}{ta:TA}{p pos:Pos}(hg:Gl X "range")(hm:X.mg "range"=none)(ha:PA X [a,b] ta)(hs:bu [a,b] X.env=[(false,eval a X.env),(false,eval b X.env)]:=by rfl) (hs2:bu [b] X.env=[(false,eval b X.env)]:=by rfl):
  PI X tg (.Call (.Name "range" p) [a,b] [] pos) (Bz ta):=by
 intro pins s σ H R I h;refine Call_ (gG I hg hm boot_range (bM (thn (ha pos pins s σ H _ I h) fun us s1 ⟨vs,H1,I1,r1,q1⟩=>?_) (by rw[hs,hs2]) (by rw[hs2];rfl)));obtain⟨i,j,e,⟨q1,q2,q3,q4⟩,q⟩:=q1;subst e;cases r1 with
 |cons r rr=>
  cases rr with
  |cons r' rr=>
   cases rr;obtain⟨t,rfl⟩:=r;obtain⟨t',rfl⟩:=r';exact call_range_2 (uz I1 q1 q2 q3 q4 q)
noncomputable def tFor(wi:TI)(g:TG)(tb:TS):TS:=fun D σ H=>wi σ H fun J H1=>∃W:Nat->Nat->St->Hp->Prop,(∃m,W 0 m σ H1)/\∀i m σ H,W i m σ H->
 (J.stop i H/\D.nx σ H)\/(J.go i H/\∃N:St->Hp->Prop,(∀σ' H',N σ' H'->∃m',m'<m/\W (i+1) m' σ' H')/\∀x H',J.yld i H x H'->g x σ H' fun σ2 H2=>tb {D with nx:=N,ct:=N,bk:=D.nx} σ2 H2)
noncomputable def gm(fp:List Addr)(h:Heap):List (Addr×Obj):=fp.filterMap fun b=>(h.get? b).map fun o=>(b,o)
theorem fR{fp:List Addr}{h:Heap}{b:Addr}{o:Obj}(hb:b∈fp)(e:h.get? b=some o):(b,o)∈gm fp h:=List.mem_filterMap.mpr ⟨b,hb,by rw[e];rfl⟩
theorem mH{fp:List Addr}{h:Heap}{p:Addr×Obj}(hp:p∈gm fp h):p.1∈fp/\h.get? p.1=some p.2:=by
 obtain⟨b,hb,e⟩:=List.mem_filterMap.mp hp;cases q:h.get? b with
 |none=>rw[q]at e;cases e
 |some o=>
  rw[q]at e;have e':(b,o)=p:=be e;subst e';exact⟨hb,q⟩
theorem Inv.pinned{pins:List (Addr×Obj)}{σ:St}{H:Hp}{s:Shared}{fp:List Addr}(I:Inv X pins σ H s)(hf:∀b∈fp,kY X pins H b)(ho:∀b∈fp,∃o,s.heap.get? b=some o/\∀v,o.data≠.cell v):Inv X (pins++gm fp s.heap) σ H s:=
 I.sM fun p hp=>(ai.mp hp).elim (fun z=>I.pin p (aS _ z)) fun z=>by
  obtain⟨hb,e⟩:=mH z;obtain⟨f0,f1,f2,_⟩:=hf p.1 hb;obtain⟨o,e',d⟩:=ho p.1 hb;rw[e]at e';cases e';exact⟨e,f0,f1,f2,d⟩
theorem Inv.fm{pins pl:List (Addr×Obj)}{σ:St}{H:Hp}{s:Shared}(I:Inv X (pins++pl) σ H s):Inv X pins σ H s:=I.sM fun p hp=>I.pin p (aS _ (lg _ hp))
theorem ps_for{iter:Expr}{body:List Stmt}{wi:TI}{g:TG}{tb:TS}{pos:Pos}(hp:PassesOwn (model X.prog X.w) X.A X.env X.xe)(hc:X.calm=true)(hi:PI X tg iter wi)(hg:PG X tg g)(hb:PSs X body tb)
  (hs:∀x,gz iter X.env x=pure x:=by intro _;rfl):PS X (.For tg iter body [] pos) (tFor wi g tb):=by
 intro pins s σ H D I h;refine wpAny_For (thn (hi pins s σ H _ I h) fun v s1 h1=>thn h1 fun itv s2 h2=>?_) hs;obtain⟨it,fp,tn,J,H2,e,I2,T,st2,f2,W,⟨m0,w0⟩,turn⟩:=h2;subst e
 --what stays true of the iterator's objects through the loop
 have stat:∀{H':Hp},(∀b∈fp,H' b=none)->∀b∈fp,kY X pins H' b:=fun hn b hb=>⟨hn b hb,(f2 b hb).2⟩;refine codeAny_forLoop_any (fun n s'=>∃i σ' H',Inv X pins σ' H' s'/\tn i s'.heap/\(∀b∈fp,H' b=none)/\W i n σ' H') ?_ m0 ⟨0,σ,H2,I2,st2,fun b hb=>(f2 b hb).1,w0⟩;rintro n s3 ⟨i,σ3,H3,I3,st3,fr3,w3⟩;rcases turn i n σ3 H3 w3 with⟨stop,qn⟩ |⟨go,N,hN,step⟩
 ·refine eB hp (thn (T.done X rfl rfl rfl hc i pins s3 σ3 H3 X.xe I3 (stat fr3) st3 stop) fun r s4 ⟨hr,I4⟩=>?_)
  subst hr;exact w9 ⟨σ3,H3,I4,qn⟩
 ·refine eB hp (thn (T.item X rfl rfl rfl hc i pins s3 σ3 H3 X.xe I3 (stat fr3) st3 go) fun r s4 ⟨u,hr,h4⟩=>?_)
  subst hr;refine eB hp (thn h4 fun _ s5 ⟨x,H5,I5,r5,y5,st5,fr5⟩=>?_);have I5':=I5.pinned (stat fr5) (T.obj _ _ st5);refine eB hp (thn (hg _ s5 σ3 H5 x u _ I5' r5 (step x H5 y5)) fun _ s6 ⟨σ6,H6,I6,q6⟩=>?_);refine eB hp (thn (hb _ s6 σ6 H6 _ I6 q6) fun f s7 q7=>?_);have again:∀{σ7:St}{H7:Hp},Inv X (pins++gm fp s5.heap) σ7 H7 s7->N σ7 H7->∃m,m<n/\∃i σ' H',Inv X pins σ' H' s7/\tn i s7.heap/\(∀b∈fp,H' b=none)/\W i m σ' H':=fun{σ7 H7} I7 n7=>by
   obtain⟨m',hm,w7⟩:=hN σ7 H7 n7;refine⟨m',hm,i+1,σ7,H7,I7.fm,T.keep _ _ _ st5 fun b hb o e=>(I7.pin (b,o) (aS _ (aS _ (fR hb e)))).1,fun b hb=>?_,w7⟩;obtain⟨o,e,d⟩:=T.obj _ _ st5 b hb;exact(I7.pin (b,o) (aS _ (aS _ (fR hb e)))).2.1
  cases f with
  |next =>obtain⟨σ7,H7,I7,n7⟩:=q7;exact again I7 n7
  |cont=>obtain⟨σ7,H7,I7,n7⟩:=q7;exact again I7 n7
  |brk=>obtain⟨σ7,H7,I7,q7⟩:=q7;exact⟨σ7,H7,I7.fm,q7⟩
  |ret v=>obtain⟨x7,σ7,H7,I7,r7,q7⟩:=q7;exact⟨x7,σ7,H7,I7.fm,r7,q7⟩
end
noncomputable abbrev R2:=V->V->Hp->VK->Prop
noncomputable def OpR(X:Cx)(f:Value->Value->Sem Value)(r:R2):Prop:=
 ∀(pins:List (Addr×Obj))(s:Shared)(σ:St)(H:Hp)(x y:V)(v u:Value)(Q:VK),Inv X pins σ H s->RelV x v->RelV y u->r x y H Q->
  wpAny (model X.prog X.w) X.A (f v u) (EP X pins σ Q) X.xe s
noncomputable def UnR(X:Cx)(f:Value->Sem Value)(r:V->Hp->VK->Prop):Prop:=
 ∀(pins:List (Addr×Obj))(s:Shared)(σ:St)(H:Hp)(x:V)(v:Value)(Q:VK),Inv X pins σ H s->RelV x v->r x H Q->
  wpAny (model X.prog X.w) X.A (f v) (EP X pins σ Q) X.xe s
noncomputable def eh(X:Cx)(f:Value)(r:List V->Hp->VK->Prop):Prop:=
 ∀(pins:List (Addr×Obj))(s:Shared)(σ:St)(H:Hp)(xs:List V)(us:List Value)(Q:VK),Inv X pins σ H s->bC xs us->r xs H Q->
  wpAny (model X.prog X.w) X.A (call f us) (EP X pins σ Q) X.xe s
noncomputable def TruR(X:Cx)(r:V->Hp->(Bool->Hp->Prop)->Prop):Prop:=
 ∀(pins:List (Addr×Obj))(s:Shared)(σ:St)(H:Hp)(x:V)(v:Value)(Q:Bool->Hp->Prop),Inv X pins σ H s->RelV x v->r x H Q->
  wpAny (model X.prog X.w) X.A (truthy v) (TP X pins σ Q) X.xe s
noncomputable def tOp(r:R2)(ta tb:TE):TE:=fun σ H Q=>ta σ H fun x H1=>tb σ H1 fun y H2=>r x y H2 Q
noncomputable def tUn(r:V->Hp->VK->Prop)(ta:TE):TE:=fun σ H Q=>ta σ H fun x H1=>r x H1 Q
noncomputable def rI(C:Int->Int->Prop)(g:Int->Int->V):R2:=fun x y H Q=>∃i j,x=.int i/\y=.int j/\C i j/\Q (g i j) H
noncomputable def rI0(g:Int->Int->V):R2:=fun x y H Q=>∃i j,x=.int i/\y=.int j/\Q (g i j) H
noncomputable def rU(g:Int->V):V->Hp->VK->Prop:=fun x H Q=>∃i,x=.int i/\Q (g i) H
section
variable {X:Cx}{a b c:Expr}{ta tb tc:TE}{pos:Pos}
theorem binT(ha:PE X a ta)(hb:PE X b tb){pins:List (Addr×Obj)}{s:Shared}{σ:St}{H:Hp}{R:V->V->Hp->Prop}(I:Inv X pins σ H s)
  (h:ta σ H fun x H1=>tb σ H1 fun y H2=>R x y H2){Q:Value->Shared->Prop}{f:Value->Value->Sem Value}
  (hf:∀v u s2 x y H2,Inv X pins σ H2 s2->RelV x v->RelV y u->R x y H2->wpAny (model X.prog X.w) X.A (f v u) Q X.xe s2):
  wpAny (model X.prog X.w) X.A (eval a X.env) (fun v s₁=>wpAny (model X.prog X.w) X.A (eval b X.env) (fun u s₂=>wpAny (model X.prog X.w) X.A (f v u) Q X.xe s₂) X.xe s₁) X.xe s:=by
 refine thn (ha pins s σ H _ I h) fun v s1 ⟨x,H1,I1,r1,q1⟩=>?_;refine thn (hb pins s1 σ H1 _ I1 q1) fun u s2 ⟨y,H2,I2,r2,q2⟩=>?_;exact hf v u s2 x y H2 I2 r1 r2 q2
theorem pe_op{op:Operator}{r:R2}(ho:OpR X (cO op) r)(ha:PE X a ta)(hb:PE X b tb):PE X (.BinOp a op b pos) (tOp r ta tb):=by
 intro pins s σ H Q I h;exact wpAny_BinOp (binT ha hb I h fun v u s2 x y H2 I2 rx ry q=>ho pins s2 σ H2 x y v u Q I2 rx ry q)
theorem pe_un{op:UnaryOp}{r:V->Hp->VK->Prop}(ho:UnR X (unaryOp op) r)(ha:PE X a ta):PE X (.UnaryOp op a pos) (tUn r ta):=by
 intro pins s σ H Q I h;exact UnaryOp_ (thn (ha pins s σ H _ I h) fun v s1 ⟨x,H1,I1,r1,q1⟩=>ho pins s1 σ H1 x v Q I1 r1 q1)
theorem opI{f:Value->Value->Sem Value}{C:Int->Int->Prop}{g:Int->Int->Int}
  (rule:∀(i j:Int)(t u:Tok)(s:Shared)(Q:Value->Shared->Prop)(E:Value->Shared->Prop),C i j->Q (.int (g i j) s.toks) {s with toks:=s.toks+1}->wpAny (model X.prog X.w) X.A (f (.int i t) (.int j u)) Q E s):
  OpR X f (rI C fun i j=>.int (g i j)):=by
 intro pins s σ H x y v u Q I rx ry h;obtain⟨i,j,rfl,rfl,hc,q⟩:=h;obtain⟨t,rfl⟩:=rx;obtain⟨t',rfl⟩:=ry;exact rule i j t t' s _ _ hc ⟨.int (g i j),H,I.tok _,⟨_,rfl⟩,q⟩
theorem opI0{f:Value->Value->Sem Value}{g:Int->Int->Int}
  (rule:∀(i j:Int)(t u:Tok)(s:Shared)(Q:Value->Shared->Prop)(E:Value->Shared->Prop),Q (.int (g i j) s.toks) {s with toks:=s.toks+1}->wpAny (model X.prog X.w) X.A (f (.int i t) (.int j u)) Q E s):
  OpR X f (rI0 fun i j=>.int (g i j)):=by
 intro pins s σ H x y v u Q I rx ry h;obtain⟨i,j,rfl,rfl,q⟩:=h;obtain⟨t,rfl⟩:=rx;obtain⟨t',rfl⟩:=ry;exact rule i j t t' s _ _ ⟨.int (g i j),H,I.tok _,⟨_,rfl⟩,q⟩
theorem opB0{f:Value->Value->Sem Value}{g:Int->Int->Bool}
  (rule:∀(i j:Int)(t u:Tok)(s:Shared)(Q:Value->Shared->Prop)(E:Value->Shared->Prop),Q (.bool (g i j)) s->wpAny (model X.prog X.w) X.A (f (.int i t) (.int j u)) Q E s):
  OpR X f (rI0 fun i j=>.bl (g i j)):=by
 intro pins s σ H x y v u Q I rx ry h;obtain⟨i,j,rfl,rfl,q⟩:=h;obtain⟨t,rfl⟩:=rx;obtain⟨t',rfl⟩:=ry;exact rule i j t t' s _ _ ⟨.bl (g i j),H,I,rfl,q⟩
noncomputable def CDiv(i j:Int):Prop:=0<j/\j<1073741824
noncomputable def B7(i j:Int):Prop:=0<=j/\j<=1000000/\i.natAbs<2^64
noncomputable def w8(i j:Int):Prop:=(-(2^64)<i/\i<2^64)\/(-(2^64)<j/\j<2^64)
theorem w8.ok{i j:Int}(h:w8 i j):IntMulOk i j:=by
 rcases h with⟨h1,h2⟩ |⟨h1,h2⟩
 ·exact .of_left (intBits_le_64 h1 h2)
 ·exact .of_right (intBits_le_64 h1 h2)
theorem vN(k:Nat):(0:Int)<=2^k:=by
 rw[two_pow_cast];exact Int.natCast_nonneg _
theorem op_add:OpR X (cO .Add) (rI0 fun i j=>.int (i+j)):=opI0 fun _ _ _ _ _ _ _ q=>add_int q
theorem op_sub:OpR X (cO .Sub) (rI0 fun i j=>.int (i-j)):=opI0 fun _ _ _ _ _ _ _ q=>sub_int q
theorem op_mul:OpR X (cO .Mult) (rI w8 fun i j=>.int (i*j)):=opI fun _ _ _ _ _ _ _ hc q=>mul_int q hc.ok
theorem op_fdiv:OpR X (cO .FloorDiv) (rI CDiv fun i j=>.int (i/j)):=opI fun i j _ _ _ _ _ hc q=>by
 have h1:(0:Int)<j:=hc.1;have h2:j<1073741824:=hc.2;exact floordiv_int (by omega) (by rw[iQ i (by omega)];exact q) (.inl (PyProof.noPylong_small (by omega)))
theorem op_mod:OpR X (cO .Mod) (rI (fun _ j=>0<j) fun i j=>.int (i%j)):=opI fun i j _ _ _ _ _ hc q=>by
 have h1:(0:Int)<j:=hc;exact mod_int' (by omega) (by rw[Int.fmod_eq_emod_of_nonneg i (by omega)];exact q)
theorem op_pow:OpR X (cO .Pow) (rI B7 fun i j=>.int (i^j.toNat)):=opI fun _ _ _ _ _ _ _ hc q=>pow_int_small hc.1 hc.2.1 hc.2.2 q
theorem op_shl:OpR X (cO .LShift) (rI B7 fun i j=>.int (i*2^j.toNat)):=opI fun _ _ _ _ _ _ _ hc q=>lshift_int_small hc.1 hc.2.1 hc.2.2 q
theorem op_shr:OpR X (cO .RShift) (rI (fun _ j=>0<=j) fun i j=>.int (i/2^j.toNat)):=opI fun i j _ _ _ _ _ hc q=>
 rshift_int hc (by rw[iQ i (vN _)];exact q)
theorem op_and:OpR X (cO .BitAnd) (rI0 fun i j=>.int (Builtin.bitAnd i j)):=opI0 fun _ _ _ _ _ _ _ q=>and_int q
theorem op_xor:OpR X (cO .BitXor) (rI0 fun i j=>.int (Builtin.bitXor i j)):=opI0 fun _ _ _ _ _ _ _ q=>xor_int q
theorem unI{f:Value->Sem Value}{g:Int->Int}
  (rule:∀(i:Int)(t:Tok)(s:Shared)(Q:Value->Shared->Prop)(E:Value->Shared->Prop),Q (.int (g i) s.toks) {s with toks:=s.toks+1}->wpAny (model X.prog X.w) X.A (f (.int i t)) Q E s):
  UnR X f (rU fun i=>.int (g i)):=by
 intro pins s σ H x v Q I rx h;obtain⟨i,rfl,q⟩:=h;obtain⟨t,rfl⟩:=rx;exact rule i t s _ _ ⟨.int (g i),H,I.tok _,⟨_,rfl⟩,q⟩
theorem zN:UnR X (unaryOp .USub) (rU fun i=>.int (-i)):=unI fun _ _ _ _ _ q=>neg_int q
end
section
variable {X:Cx}{a b c:Expr}{ta tb tc:TE}{pos:Pos}
theorem pK{pins:List (Addr×Obj)}{σ:St}{H:Hp}{s:Shared}{Q:VK}{k k':Bool}(I:Inv X pins σ H s)(q:Q (.bl k) H)(e:k=k'):EP X pins σ Q (.bool k') s:=by
 subst e;exact⟨.bl k,H,I,rfl,q⟩
theorem op_lt:OpR X (b9 .Lt) (rI0 fun i j=>.bl (decide (i<j))):=opB0 fun _ _ _ _ _ _ _ q=>lt_int q
theorem op_le:OpR X (b9 .LtE) (rI0 fun i j=>.bl (decide (i<=j))):=opB0 fun _ _ _ _ _ _ _ q=>le_int q
theorem op_gt:OpR X (b9 .Gt) (rI0 fun i j=>.bl (decide (j<i))):=opB0 fun _ _ _ _ _ _ _ q=>gt_int q
theorem op_ge:OpR X (b9 .GtE) (rI0 fun i j=>.bl (decide (j<=i))):=opB0 fun _ _ _ _ _ _ _ q=>ge_int q
theorem yE:OpR X (b9 .In) (fun x y H Q=>∃i j,x=.str i/\y=.str j/\Q (.bl (!(eQ j i 0 j.length 1).isEmpty)) H):=by
 intro pins s σ H x y v u Q I rx ry h;obtain⟨i,j,rfl,rfl,q⟩:=h;obtain⟨t,rfl⟩:=rx;obtain⟨t',rfl⟩:=ry;exact in_str (pK I q rfl)
theorem op_isN:OpR X (b9 .Is) (fun x y H Q=>y=.non/\Q (.bl (decide (x=.non))) H):=by
 intro pins s σ H x y v u Q I rx ry h;obtain⟨rfl,q⟩:=h;cases ry;refine is_none_gen (pK I q ?_);cases x<;>first
  | (cases rx;rfl)
  | (obtain⟨t,rfl⟩:=rx;rfl)
theorem op_notN:OpR X (b9 .IsNot) (fun x y H Q=>y=.non/\Q (.bl (!decide (x=.non))) H):=by
 intro pins s σ H x y v u Q I rx ry h;obtain⟨rfl,q⟩:=h;cases ry;refine isnot_none_gen (pK I q ?_);cases x<;>first
  | (cases rx;rfl)
  | (obtain⟨t,rfl⟩:=rx;rfl)
theorem OpR.or{f:Value->Value->Sem Value}{r r':R2}(h:OpR X f r)(h':OpR X f r'):OpR X f (fun x y H Q=>r x y H Q\/r' x y H Q):=by
 intro pins s σ H x y v u Q I rx ry q;rcases q with q|q
 ·exact h pins s σ H x y v u Q I rx ry q
 ·exact h' pins s σ H x y v u Q I rx ry q
theorem pe_cmpR{op:CmpOp}{r:R2}(ho:OpR X (b9 op) r)(ha:PE X a ta)(hb:PE X b tb)(hm:ke op b=false):PE X (.Compare a [op] [b] pos) (tOp r ta tb):=by
 intro pins s σ H Q I h;exact wpAny_Compare1 (binT ha hb I h fun v u s2 x y H2 I2 rx ry q=>ho pins s2 σ H2 x y v u Q I2 rx ry q) hm
noncomputable def oP(t:TE):TT:=fun σ H Q=>t σ H fun x H'=>∃k,x=.bl k/\Q k H'
theorem pt_cmpR{op:CmpOp}{r:R2}(ho:OpR X (b9 op) r)(ha:PE X a ta)(hb:PE X b tb)(hm:ke op b=false):PT X (.Compare a [op] [b] pos) (oP (tOp r ta tb)):=by
 intro pins s σ H Q I h;refine wpAny_isTrue_Compare1 (thn (ha pins s σ H _ I h) fun v s1 ⟨x,H1,I1,r1,q1⟩=>thn (hb pins s1 σ H1 _ I1 q1) fun u s2 ⟨y,H2,I2,r2,q2⟩=>
  thn (ho pins s2 σ H2 x y v u _ I2 r1 r2 q2) fun c s3 ⟨z,H3,I3,r3,k,e,q3⟩=>?_) hm
 subst e;cases r3;exact cg ⟨H3,I3,q3⟩
noncomputable def oS(r r':R2)(ta tb tc:TE):TE:=fun σ H Q=>ta σ H fun x H1=>tb σ H1 fun y H2=>r x y H2 fun z H3=>∃k,z=.bl k/\
 (if k=true then tc σ H3 fun w' H4=>r' y w' H4 Q else Q (.bl false) H3)
theorem A7{op op':CmpOp}{r r':R2}(ho:OpR X (b9 op) r)(ho':OpR X (b9 op') r')(ha:PE X a ta)(hb:PE X b tb)(hc:PE X c tc)
  (hm:lastMarks [op,op'] [b,c]=false:=by with_unfolding_all rfl):PE X (.Compare a [op,op'] [b,c] pos) (oS r r' ta tb tc):=by
 intro pins s σ H Q I h;refine Compare_chain (thn (ha pins s σ H _ I h) fun v s1 ⟨x,H1,I1,r1,q1⟩=>chain_link (thn (hb pins s1 σ H1 _ I1 q1) fun u s2 ⟨y,H2,I2,r2,q2⟩=>
  thn (ho pins s2 σ H2 x y v u _ I2 r1 r2 q2) fun d s3 ⟨z,H3,I3,r3,k,e,q3⟩=>?_)) hm
 subst e;cases r3;refine cg ?_;cases k with
 |false=>exact ite_ff ⟨.bl false,H3,I3,rfl,q3⟩
 |true=>exact ite_tt (chain_last (thn (hc pins s3 σ H3 _ I3 q3) fun w' s4 ⟨z',H4,I4,r4,q4⟩=>ho' pins s4 σ H4 y z' u w' Q I4 r2 r4 q4))
theorem AO{op op':CmpOp}{r r':R2}(ho:OpR X (b9 op) r)(ho':OpR X (b9 op') r')(ha:PE X a ta)(hb:PE X b tb)(hc:PE X c tc)
  (hm:lastMarks [op,op'] [b,c]=false:=by with_unfolding_all rfl):PT X (.Compare a [op,op'] [b,c] pos) (oP (oS r r' ta tb tc)):=by
 intro pins s σ H Q I h;refine isTrue_chain (thn (ha pins s σ H _ I h) fun v s1 ⟨x,H1,I1,r1,q1⟩=>test_link (thn (hb pins s1 σ H1 _ I1 q1) fun u s2 ⟨y,H2,I2,r2,q2⟩=>
  thn (ho pins s2 σ H2 x y v u _ I2 r1 r2 q2) fun d s3 ⟨z,H3,I3,r3,k,e,q3⟩=>?_)) hm
 subst e;cases r3;refine cg ?_;cases k with
 |false=>
  obtain⟨k',e',q'⟩:=q3;cases e';exact ite_ff ⟨H3,I3,q'⟩
 |true=>
  refine ite_tt (test_last (thn (hc pins s3 σ H3 _ I3 q3) fun w' s4 ⟨z',H4,I4,r4,q4⟩=>thn (ho' pins s4 σ H4 y z' u w' _ I4 r2 r4 q4) fun d' s5 ⟨z2,H5,I5,r5,k2,e2,q5⟩=>?_));subst e2;cases r5;exact cg ⟨H5,I5,q5⟩
noncomputable def TruV(K:aa)(x:V)(H:Hp)(k:Bool):Prop:=
 match x with
 |.non=>k=false
 |.bl b=>k=b
 |.int i=>k=(i != 0)
 |.str y=>y.length<=sizeLine/\k=((y.length:Int) != 0)
 |.byt y=>y.size<=sizeLine/\k=((y.size:Int) != 0)
 |.ref p=>(∃xs,SqL K H p xs/\k= !xs.isEmpty)\/(∃xs,SqT K H p xs/\k= !xs.isEmpty)\/∃kvs,H p=some (.dK kvs)/\k= !kvs.isEmpty
 |_=>False
theorem wB{κ:Type}{kvs:List (κ×V)}{vs:List (κ×Value)}(r:KV kvs vs):(!vs.isEmpty)= !kvs.isEmpty:=by
 cases r<;>rfl
theorem pD{xs:List V}{its:List Value}(r:bC xs its):(!its.toArray.isEmpty)= !xs.isEmpty:=by
 cases r<;>simp
theorem kL:(sizeLine:Nat)<2^63:=by rw[oi];decide
theorem tru_ok:TruR X (fun x H Q=>∃k,TruV X.K x H k/\Q k H):=by
 intro pins s σ H x v Q I rx h;obtain⟨k,e,q⟩:=h;have hl:=kL;have hs:sizeLine=16777216:=oi;cases x with
 |non=>
  cases rx;have e':k=false:=e;subst e';exact truthy_none ⟨H,I,q⟩
 |bl b=>
  cases rx;have e':k=b:=e;subst e';exact cg ⟨H,I,q⟩
 |int i=>
  obtain⟨t,rfl⟩:=rx;have e':k=(i != 0):=e;subst e';exact PySem.P.truthy_int ⟨H,I,q⟩
 |str y=>
  obtain⟨t,rfl⟩:=rx;obtain⟨hy,e'⟩:y.length<=sizeLine/\k=((y.length:Int) != 0):=e;subst e';exact PySem.P.truthy_str (by omega) ⟨H,I.tok _,q⟩
 |byt y=>
  obtain⟨t,rfl⟩:=rx;obtain⟨hy,e'⟩:y.size<=sizeLine/\k=((y.size:Int) != 0):=e;subst e';exact PySem.W.truthy_bytes (by omega) ⟨H,I.tok _,q⟩
 |ref p=>
  cases rx;have e':(∃xs,SqL X.K H p xs/\k= !xs.isEmpty)\/(∃xs,SqT X.K H p xs/\k= !xs.isEmpty)\/∃kvs,H p=some (.dK kvs)/\k= !kvs.isEmpty:=e;rcases e' with⟨xs,hx,e'⟩ |⟨xs,hx,e'⟩ |⟨kvs,hx,e'⟩
  ·subst e'
   obtain⟨its,r,pl,hz⟩:=I.list hx;have hlen:=r.length;exact wpAny_truthy_list pl.isList (by simp only[ax];omega) ⟨H,I.tok _,by rw[pD r];exact q⟩
  ·subst e'
   obtain⟨its,r,pl,hz⟩:=I.tuple hx;have hlen:=r.length;exact truthy_tuple pl (by simp only[ax];omega) ⟨H,I.tok _,by rw[pD r];exact q⟩
  ·subst e'
   obtain⟨hz,hS,vs,r,m⟩:kvs.length<=sizeLine/\(p==cT)=false/\∃vs,KV kvs vs/\s.heap.DictOf (bo X.prog X.w) p vs:=I.hok p _ hx;have hlen:kvs.length=vs.length:=mq r;exact wpAny_truthy_dict hS m (by omega) ⟨H,I.tok _,by rw[wB r];exact q⟩
 |_=>exact(show False from e).elim
theorem iJ(ha:PE X a ta)(he:∀whole,isTrue a X.env whole=(do let v<-whole;standAt a.pos;holding [v] (truthy v))):
  PT X a (fun σ H Q=>ta σ H fun x H'=>∃k,TruV X.K x H' k/\Q k H'):=by
 intro pins s σ H Q I h;exact isTrue_plain (thn (ha pins s σ H _ I h) fun v s1 ⟨x,H1,I1,r1,q1⟩=>tru_ok pins s1 σ H1 x v Q I1 r1 q1) (he _)
theorem wm:OpR X (cO .Add) (fun x y H Q=>∃i j,x=.str i/\y=.str j/\i.length+j.length<=sizeLine/\Q (.str (i++j)) H):=by
 intro pins s σ H x y v u Q I rx ry h;obtain⟨i,j,rfl,rfl,hz,q⟩:=h;obtain⟨t,rfl⟩:=rx;obtain⟨t',rfl⟩:=ry;exact add_str (fun t' tk=>⟨.str (i++j),H,I.tok _,⟨_,rfl⟩,q⟩) hz
theorem vals1{x:V}{us:List Value}(r:bC [x] us):∃u,us=[u]/\RelV x u:=by
 cases r with
 |cons r1 r2=>cases r2;exact⟨_,rfl,r1⟩
theorem vals2{x y:V}{us:List Value}(r:bC [x,y] us):∃u w',us=[u,w']/\RelV x u/\RelV y w':=by
 cases r with
 |cons r1 r2=>
  cases r2 with
  |cons r3 r4=>cases r4;exact⟨_,_,rfl,r1,r3⟩
theorem yZ(hc:X.calm=true):eh X (.builtin "max") (fun xs H Q=>∃i j,xs=[.int i,.int j]/\Q (.int (if j>i then j else i)) H):=by
 intro pins s σ H xs us Q I r h;obtain⟨i,j,rfl,q⟩:=h;obtain⟨u,w',rfl,⟨t,rfl⟩,⟨t',rfl⟩⟩:=vals2 r;refine max_two_ints (I.ok.hd hc) fun h' tk k=>⟨_,H,I.kept k,?_,q⟩;by_cases hj:j>i
 ·rw[if_pos hj,if_pos hj];exact⟨_,rfl⟩
 ·rw[if_neg hj,if_neg hj];exact⟨_,rfl⟩
theorem yY(hc:X.calm=true):eh X (.builtin "min") (fun xs H Q=>∃i j,xs=[.int i,.int j]/\Q (.int (if j<i then j else i)) H):=by
 intro pins s σ H xs us Q I r h;obtain⟨i,j,rfl,q⟩:=h;obtain⟨u,w',rfl,⟨t,rfl⟩,⟨t',rfl⟩⟩:=vals2 r;refine min_two_ints (I.ok.hd hc) fun h' tk k=>⟨_,H,I.kept k,?_,q⟩;by_cases hj:j<i
 ·rw[if_pos hj,if_pos hj];exact⟨_,rfl⟩
 ·rw[if_neg hj,if_neg hj];exact⟨_,rfl⟩
theorem za:eh X (.type "int") (fun xs H Q=>(∃i,xs=[.int i]/\Q (.int i) H)\/∃k,xs=[.bl k]/\Q (.int (if k then 1 else 0)) H):=by
 intro pins s σ H xs us Q I r h;rcases h with⟨i,rfl,q⟩ |⟨k,rfl,q⟩
 ·obtain⟨u,rfl,t,rfl⟩:=vals1 r
  exact call_int_int ⟨.int i,H,I,⟨_,rfl⟩,q⟩
 ·obtain⟨u,rfl,r1⟩:=vals1 r
  cases r1;exact call_int_bool ⟨.int (if k then 1 else 0),H,I.tok _,⟨_,rfl⟩,q⟩
end
structure ObjM(h:Heap)(x dx C:Addr)(mA:Str->Option Value):Prop where
 obj:h.get? x=some (qj C dx)
 ns:h.Ns1 dx mA
 ne:dx≠x
theorem yK{h:Heap}{dx:Addr}{mA:Str->Option Value}(n:h.Ns1 dx mA):∃od,h.get? dx=some od/\∀name,qK name od=some (mA name):=by
 obtain⟨o,es,ep,ho,hd,hk,_,hm⟩:=n;refine⟨o,ho,fun name=>?_⟩;have e:=hm name;unfold nsFind findBy at e;rw[<-Array.find?_toList]at e;unfold qK;rw[hd];dsimp only;split
 ·rename_i y q
  rw[q]at e;exact congrArg some e
 ·rename_i q
  rw[q]at e;have a:es.toList.any (·.refKey)=false:=by
   rw[List.any_eq_false];intro y hy;obtain⟨z,t,hkey⟩:=hk y (zy.mp hy);simp[DictEntry.refKey,hkey]
  have a':¬es.toList.any (·.refKey)=true:=by rw[a];exact aQ
  rw[if_neg a'];exact congrArg some e
theorem ObjM.look{h:Heap}{x dx C:Addr}{mA:Str->Option Value}(I:ObjM h x dx C mA):∃od,PySem.W.InstAt h x (qj C dx) C (some od)/\∀name,qK name od=some (mA name):=
 let⟨od,ho,hl⟩:=yK I.ns
 ⟨od,⟨I.obj,rfl,rfl,ho⟩,hl⟩
noncomputable def putF(f:Str)(v:V):List (Str×V)->List (Str×V)
 | []=>[(f,v)]
 | (g,x)::r=>if g=f then(g,v)::r else(g,x)::putF f v r
theorem mf.some_of{v:V}{o:Option Value}(r:mf (some v) o):∃u,o=some u/\RelV v u:=by
 cases o with
 |none=>exact(show False from r).elim
 |some u=>exact⟨u,rfl,r⟩
section
variable {P:Program}{w:World}{H H':Hp}{h h':Heap}{a C dx:Addr}{fs fs':List (Str×V)}
theorem ins_get(hok:HOk P w H h)(e:H a=some (.ins C dx fs)):∃mA,ObjM h a dx C mA/\(∀f,mf (fs.lookup f) (mA f))/\xb mA (fs.map (·.1))/\fs.length<=1000/\H dx=some (.own a):=by
 obtain⟨d,z,ne,ob,mA,n,r,q⟩:=(show cF P w H h a (.ins C dx fs)from hok a _ e);exact⟨mA,⟨ob,n,ne⟩,r,q,z,d⟩
end
structure Cls(K:aa)(C:Addr):Prop where
 pg:Cc K C Str.empty=true
 hd:PySem.W.hasDictIn K C=true
 po:PySem.W.plainOver K C=true
 sa:gS K (.ref C) "__setattr__"=some (some (.builtin "object.__setattr__"))
theorem Cls.get{K:aa}{C:Addr}(c:Cls K C)(f:Str):Cc K C f=true:=c.pg
noncomputable def B5(K:aa)(C:Addr)(f:Str):Prop:=gS K (.ref C) f=some none
structure Meth(K:aa)(C:Addr)(m:Str)(f:Addr):Prop where
 at_:gS K (.ref C) m=some (some (.ref f))
 fn:PySem.W.isFn K (.ref f)=true
 kp:bW K (.ref f)=true
noncomputable def tFld(K:aa)(ta:TE)(f:Str):TE:=fun σ H Q=>ta σ H fun x H1=>∃a C dx fs v,x=.ref a/\H1 a=some (.ins C dx fs)/\Cls K C/\B5 K C f/\fs.lookup f=some v/\Q v H1
noncomputable def sFld(K:aa)(ta tv:TE)(f:Str):TS:=fun D σ H=>tv σ H fun y H1=>ta σ H1 fun x H2=>∃a C dx fs,x=.ref a/\H2 a=some (.ins C dx fs)/\Cls K C/\B5 K C f/\fs.length<1000/\
 D.nx σ (upd H2 a (.ins C dx (putF f y fs)))
section
variable {X:Cx}{pins:List (Addr×Obj)}{σ:St}{H:Hp}{s:Shared}{A:Around}{E:Value->Shared->Prop}{Q:Value->Shared->Prop}{c:Value}{b:Bool}
inductive jn (K:aa) (H:Hp):V->Value->Prop where
 |non:jn K H .non (.type "NoneType")
 |bl (x:Bool):jn K H (.bl x) (.type "bool")
 |int (i:Int):jn K H (.int i) (.type "int")
 |str (x:Str):jn K H (.str x) (.type "str")
 |flt (x:UInt64):jn K H (.flt x) (.type "float")
 |lst {a:Addr} {xs:List V} (e:H a=some (.lst xs)):jn K H (.ref a) (.type "list")
 |frz {a:Addr} {o:Obj} {xs:List V} (e:H a=some (.frz o (.lst xs))):jn K H (.ref a) (.type "list")
 |tup {a:Addr} {xs:List V} (e:H a=some (.tup xs)):jn K H (.ref a) (.type "tuple")
 |dK {a:Addr} {kvs:List (Key×V)} (e:H a=some (.dK kvs)):jn K H (.ref a) (.type "dict")
 |dT {a:Addr} {kvs:List (List Key×V)} (e:H a=some (.dT kvs)):jn K H (.ref a) (.type "dict")
 |ins {a C dx:Addr} {fs:List (Str×V)} (e:H a=some (.ins C dx fs)) (cl:Cls K C) (ha:gS K (.ref C) "__class__"=some (some (.builtin "object.__class__")))
   (hn:PySem.W.specialIn K (.builtin "object.__class__") "__get__"=some (some (.builtin "getset_descriptor.__get__"))) (htk:PySem.W.takesIn K (.builtin "object.__class__")=some true)
   (hm:PySem.W.mroIn K C (.type "object")=some true):jn K H (.ref a) (.ref C)
theorem rA{x:V}{u t:Value}(I:Inv X pins σ H s)(rx:RelV x u)(ty:jn X.K H x t)(e:fI X.K t c=some b)(h:∀tk,Q (.bool b) {s with toks:=tk}):
  wpAny (model X.prog X.w) A (call (.builtin "isinstance") [u,c]) Q E s:=by
 cases ty with
 |non=>cases(show u=bG from rx);exact cf PySem.W.kitx_none I.kIn True.intro e (fun z=>nomatch z) h
 |bl y=>cases(show u=tU y from rx);exact cf PySem.W.kitx_bool I.kIn True.intro e (fun z=>nomatch z) h
 |int i=>obtain⟨t,q⟩:=(show ∃t,u=vC i t from rx);cases q;exact cf PySem.W.kitx_int I.kIn True.intro e (fun z=>nomatch z) h
 |str y=>obtain⟨t,q⟩:=(show ∃t,u=qh y t from rx);cases q;exact cf PySem.W.kitx_str I.kIn True.intro e (fun z=>nomatch z) h
 |flt y=>obtain⟨t,q⟩:=(show ∃t,u=Value.float y t from rx);cases q;exact cf PySem.W.kitx_float I.kIn True.intro e (fun z=>nomatch z) h
 | @lst a xs ea=>
  cases(show u=bA a from rx);obtain⟨_,_,n,_,h1⟩:=(show cF X.prog X.w H s.heap a (.lst xs)from I.hok a _ ea);exact cf zB I.kIn ⟨_,h1,rfl⟩ e (fun z=>nomatch z) h
 | @frz a ob xs ea=>
  cases(show u=bA a from rx);obtain⟨_,_,_,n,_,h1⟩:=(show cF X.prog X.w H s.heap a (.frz ob (.lst xs))from I.hok a _ ea);exact cf zB I.kIn ⟨_,h1,rfl⟩ e (fun z=>nomatch z) h
 | @tup a xs ea=>
  cases(show u=bA a from rx);obtain⟨_,_,_,p⟩:=(show cF X.prog X.w H s.heap a (.tup xs)from I.hok a _ ea);obtain⟨o,h1,h2,_⟩:=p;exact cf PySem.W.kitx_tuple I.kIn ⟨o,h1,h2⟩ e (fun z=>nomatch z) h
 | @dK a kvs ea=>
  cases(show u=bA a from rx);obtain⟨_,_,vs,_,p⟩:=(show cF X.prog X.w H s.heap a (.dK kvs)from I.hok a _ ea);obtain⟨o,es,ep,h1,h2,_⟩:=p;exact cf zC I.kIn ⟨o,h1,h2.1⟩ e (fun z=>nomatch z) h
 | @dT a kvs ea=>
  cases(show u=bA a from rx);obtain⟨_,_,xs,_,o,es,ep,h1,h2,_⟩:=(show cF X.prog X.w H s.heap a (.dT kvs)from I.hok a _ ea);exact cf zC I.kIn ⟨o,h1,h2.1⟩ e (fun z=>nomatch z) h
 | @ins a C dx fs ea cl ha hn htk hm=>
  cases(show u=bA a from rx);obtain⟨mA,O,_⟩:=ins_get I.hok ea;obtain⟨od,J,_⟩:=O.look;exact cf (PySem.W.kitx_own (cl.get _) cl.hd ha hn htk hm) I.kIn J e (fun z=>nomatch z) h
end
structure iC(k:Nat)(A:Around):Prop where
 hd:A.handled=none
 dp:A.depth+3*k+5<recursionLimit
 un:A.units+16*k+200<cLine
theorem iC.mono{j k:Nat}{A:Around}(r:iC k A)(h:j<=k):iC j A:=⟨r.hd,by have :=r.dp;omega,by have :=r.un;omega⟩
theorem iC.deeper{k:Nat}{A:Around}(r:iC (k+1) A)(env:Env):iC k (A.deeper env):=
 ⟨r.hd,by have :=r.dp;show A.depth+1+3*k+5<_;omega,by have :=r.un;show A.units+3+16*k+200<_;omega⟩
theorem iC.depth{k:Nat}{A:Around}(r:iC k A):A.depth<recursionLimit:=by have :=r.dp;omega
theorem iC.units{k:Nat}{A:Around}(r:iC k A):A.units+64<cLine:=by have :=r.un;omega
noncomputable def oQ:TA:=fun _ H Q=>Q [] H
noncomputable def i9(ta:TE)(tr:TA):TA:=fun σ H Q=>ta σ H fun x H1=>tr σ H1 fun xs H2=>Q (x::xs) H2
section
variable {X:Cx}{e:Expr}{es:List Expr}{te:TE}{t:TA}{pos:Pos}
theorem jx:PA X [] oQ:=fun _ _ _ _ H Q I h=>ou ⟨[],H,I,.nil,h⟩
theorem fV(ha:PE X e te)(hr:PA X es t)(hs:bu (e::es) X.env=(false,eval e X.env)::bu es X.env:=by rfl):PA X (e::es) (i9 te t):=by
 intro pos pins s σ H Q I h;rw[hs];show wpAny _ _ (spliced ((false,eval e X.env)::backTo pos (bu es X.env))) _ _ s;refine dW (thn (ha pins s σ H _ I h) fun u s1 ⟨x,H1,I1,r1,q1⟩=>?_);exact thn (hr pos pins s1 σ H1 _ I1 q1) fun us s2 ⟨xs,H2,I2,r2,q2⟩=>⟨x::xs,H2,I2,.cons r1 r2,q2⟩
noncomputable def tTup(t:TA):TE:=fun σ H Q=>t σ H fun xs H1=>xs.length<=sizeLine/\∀p,H1 p=none->Q (.ref p) (upd H1 p (.tup xs))
noncomputable def tLst(t:TA):TE:=fun σ H Q=>t σ H fun xs H1=>xs.length<=sizeLine/\∀p,H1 p=none->Q (.ref p) (upd H1 p (.lst xs))
theorem pe_tup{x1}(h:PA X es t):PE X (.Tuple es x1 pos) (tTup t):=by
 intro pins s σ H Q I hq;refine wpAny_Tuple_spliced (thn (h pos pins s σ H _ I hq) fun us s1 ⟨xs,H1,I1,r,z,q⟩=>⟨by rw[<-r.length];exact z,?_⟩);have hf:H1 s1.heap.objs.size=none:=I1.hok.fresh (ar _);refine⟨.ref s1.heap.objs.size,upd H1 s1.heap.objs.size (.tup xs),I1.laid (t':=s1.toks) (fun b u e=>ag _ e) (ar _) ?_,rfl,q _ hf⟩;exact⟨z,us,r,⟨_,aC _ rfl,rfl,_,rfl⟩⟩
theorem pe_lst(h:PA X es t):PE X (.List es pos) (tLst t):=by
 intro pins s σ H Q I hq;refine wpAny_List_spliced (thn (h pos pins s σ H _ I hq) fun us s1 ⟨xs,H1,I1,r,z,q⟩=>⟨by rw[<-r.length];exact z,?_⟩);have hf:H1 s1.heap.objs.size=none:=I1.hok.fresh (ar _);refine⟨.ref s1.heap.objs.size,upd H1 s1.heap.objs.size (.lst xs),I1.laid (t':=s1.toks) (fun b u e=>ag _ e) (ar _) ?_,rfl,q _ hf⟩;exact⟨z,us,0,r,aC _ rfl⟩
end
noncomputable abbrev Sp:=List V->Hp->VK->XK->Prop
noncomputable abbrev CXT:=List Env->Hp->Shared->XK->Value->Shared->Prop
structure Env0(P:Program)(w:World)(K:aa)(mg:Str->Option Value)(base:Heap)(A:Around)(outer:List Env)(s:Shared)(H:Hp):Prop where
 frames:A.frames=some outer
 mod:Mod K mg base
 bs:∀b o,base.get? b=some o->s.heap.get? b=some o/\H b=none
 bsz:base.objs.size<=s.heap.objs.size
 tp:s.heap.FunFrames base outer
 frf:∀b∈frs outer,H b=none
 hok:HOk P w H s.heap
 bare:j7 s.gens
noncomputable def CE(outer:List Env)(P:Program)(w:World)(H:Hp)(s:Shared)(Q:VK)(u:Value)(s':Shared):Prop:=
 ∃v H',s'.os=s.os/\j7 s'.gens/\Un (frs outer) [] H H' s.heap s'.heap/\HOk P w H' s'.heap/\RelV v u/\Q v H'
noncomputable def CR(CX:CXT)(outer:List Env)(P:Program)(w:World)(H:Hp)(s:Shared)(Q:VK)(E:XK)(r:Result)(s':Shared):Prop:=
 match r with
 |.ok (.ret u)=>CE outer P w H s Q u s'
 |.ok _=>False
 |.error e=>CX outer H s E e s'
structure gP(P:Program)(w:World)(K:aa)(mg:Str->Option Value)(base:Heap)(CX:CXT)(k:Nat)(f:Addr)(fd:fj)(ps:List Str)(sp:Sp):Prop where
 len:∀vs H Q E,sp vs H Q E->vs.length=ps.length
 run:∀(A:Around)(outer:List Env)(s:Shared)(H:Hp)(args:Args)(us:List Value)(vs:List V)(Q:VK)(E:XK),iC k A->Env0 P w K mg base A outer s H->BindsTo s fd args (ps.zip us)->bC vs us->sp vs H Q E->
  i3 (model P w) A (.call (.ref f) args) (CR CX outer P w H s Q E) s
section
variable {X:Cx}{pins:List (Addr×Obj)}{σ:St}{H:Hp}{s s':Shared}
theorem Inv.env0(I:Inv X pins σ H s):Env0 X.prog X.w X.K X.mg X.base X.A X.stack s H:=
 ⟨I.ok.frames,I.ok.mod,I.bs,aP I.ok.bsz I.sz,I.stack,I.sj,I.hok,I.bare⟩
theorem Inv.after{Q:VK}{u:Value}(I:Inv X pins σ H s)(h:CE X.stack X.prog X.w H s Q u s'):EP X pins σ Q u s':=by
 obtain⟨v,H',os,bare,un,hok,r,q⟩:=h;obtain⟨hh,g,d,t,os'⟩:=s';obtain rfl:os'=s.os:=os;exact⟨v,H',I.call (h':=hh) (g':=g) (d':=d) (t':=t) (ch:=[]) un hok bare (fun b z=>absurd z (by simp)),r,q⟩
end
noncomputable def um(sp:Sp)(dvs:List V)(E:XK)(t:TA):TE:=fun σ H Q=>t σ H fun vs H1=>sp (vs++dvs) H1 Q E
noncomputable def tMeth(C:Addr)(m:Str)(sp:Sp)(dvs:List V)(E:XK)(ta:TE)(t:TA):TE:=fun σ H Q=>ta σ H fun x H1=>∃a dx fs,x=.ref a/\H1 a=some (.ins C dx fs)/\fs.lookup m=none/\
 t σ H1 fun vs H2=>sp (x::(vs++dvs)) H2 Q E
noncomputable def tMake(C:Addr)(sp:Sp)(dvs:List V)(E:XK)(t:TA):TE:=fun σ H Q=>t σ H fun vs H1=>∀x dx,H1 x=none->H1 dx=none->dx≠x->
 sp (.ref x::(vs++dvs)) (upd (upd H1 dx (.own x)) x (.ins C dx [])) (fun v H2=>v=.non/\Q (.ref x) H2) E
noncomputable def Binds(K:aa)(fd:fj)(ps:List Str)(ds:List Value):Prop:=
 ∀(s:Shared)(us:List Value),K.In s.heap->(us++ds).length=ps.length->BindsTo s fd ⟨us,[]⟩ (ps.zip (us++ds))
theorem Binds.all{K:aa}{fd:fj}{ps:List Str}(h:∀us:List Value,us.length=ps.length->bindArgs fd ⟨us,[]⟩=pure (ps.zip us)):Binds K fd ps []:=fun s us _ hl=>by
 rw[kj]at hl⊢;exact .of_eq (h us hl)
section
variable {X:Cx}{CX:CXT}{k:Nat}{f C:Addr}{fd:fj}{ps:List Str}{sp:Sp}{dvs:List V}{ds:List Value}{E:XK}{x m:Str}{p pos apos:Pos}{e o:Expr}{es:List Expr}{ta:TE}{t:TA}
structure Mk(K:aa)(C f:Addr):Prop where
 makes:PySem.W.makesIn K C=true
 init:gS K (.ref C) "__init__"=some (some (.ref f))
 fn:PySem.W.isFn K (.ref f)=true
 kp:bW K (.ref C)=true
end
structure tN(N P:List Str)(sc:Scope):Prop where
 kind:sc.kind=.function
 co:sc.isCoroutine=false
 gen:sc.isGenerator=false
 nd:N.Nodup
 pre:N.take P.length=P
 par:∀x∈P,sc.names.lookup x=some .local\/sc.names.lookup x=some .cell
 nofree:∀y∈sc.names,y.2≠.free
theorem rW{kindOf:Str->Option cQ}{x:Str}:∀{binds:List (Str×Value)}{m:Str->Option Value},(∀v,(x,v)∉binds)->bindL kindOf binds m x=m x
 | [],_,_=>rfl
 | (n,v)::r,m,h=>by
  unfold bindL;rw[rW fun w hw=>h w (aF _ hw)];split
  ·have :x≠n:=by rintro rfl;exact h v au
   simp[this]
  ·rfl
theorem rY{kindOf:Str->Option cQ}{x:Str}:∀{binds:List (Str×Value)}{m:Str->Option Value},(∀v,(x,v)∉binds)->bindC kindOf binds m x=m x
 | [],_,_=>rfl
 | (n,v)::r,m,h=>by
  unfold bindC;rw[rY fun w hw=>h w (aF _ hw)];split
  ·rfl
  ·have :x≠n:=by rintro rfl;exact h v au
   simp[this]
theorem rX{kindOf:Str->Option cQ}{x:Str}{v:Value}:∀{P:List Str}{vs:List Value}{i:Nat}{m:Str->Option Value},P.Nodup->P[i]? =some x->vs[i]? =some v->kindOf x=some .local->
  bindL kindOf (P.zip vs) m x=some v
 | [],_,_,_,_,h,_,_=>by simp at h
 |_::_,[],_,_,_,_,h,_=>by simp at h
 |p::P,w::vs,0,m,nd,h1,h2,hk=>by
  simp at h1 h2;subst h1;subst h2;show bindL kindOf ((p,w)::P.zip vs) m p=_;unfold bindL;rw[rW fun v hv=>(dv.mp nd).1 (r6 hv).1,if_pos hk];simp
 |p::P,w::vs,i+1,m,nd,h1,h2,hk=>by
  show bindL kindOf ((p,w)::P.zip vs) m x=_;unfold bindL;exact rX (i:=i) (dv.mp nd).2 (by simpa using h1) (by simpa using h2) hk
theorem rZ{kindOf:Str->Option cQ}{x:Str}{v:Value}:∀{P:List Str}{vs:List Value}{i:Nat}{m:Str->Option Value},P.Nodup->P[i]? =some x->vs[i]? =some v->kindOf x≠some .local->
  bindC kindOf (P.zip vs) m x=some v
 | [],_,_,_,_,h,_,_=>by simp at h
 |_::_,[],_,_,_,_,h,_=>by simp at h
 |p::P,w::vs,0,m,nd,h1,h2,hk=>by
  simp at h1 h2;subst h1;subst h2;show bindC kindOf ((p,w)::P.zip vs) m p=_;unfold bindC;rw[rY fun v hv=>(dv.mp nd).1 (r6 hv).1,if_neg hk];simp
 |p::P,w::vs,i+1,m,nd,h1,h2,hk=>by
  show bindC kindOf ((p,w)::P.zip vs) m x=_;unfold bindC;exact rZ (i:=i) (dv.mp nd).2 (by simpa using h1) (by simpa using h2) hk
noncomputable def start(N:List Str)(vs:List V):St:=vs.map some++bq (N.length-vs.length) none
noncomputable def tw(CX:CXT)(P:Program)(w:World)(K:aa)(mg:Str->Option Value)(base:Heap)(N:List Str)(qual:Str)(scope:Scope)(f:Addr)(cd:Value)(A:Around)(outer:List Env)(s:Shared)(H:Hp)(E:XK):Cx where
 prog:=P
 w:=w
 K:=K
 mg:=mg
 base:=base
 A:=A.deeper (envOfC qual scope s.heap.objs.size f cd)
 N:=N
 s₀:=s
 H₀:=H
 env:=envOfC qual scope s.heap.objs.size f cd
 outer:=outer
 stack:=envOfC qual scope s.heap.objs.size f cd::outer
 ex:=[]
 calm:=true
 fn:=fun _=>true
 pn:=[]
 xe:=fun e s'=>wpAny (model P w) (A.deeper (envOfC qual scope s.heap.objs.size f cd)) (leaving (envOfC qual scope s.heap.objs.size f cd) e) (fun _ s''=>CX outer H s E e s'') (fun e' s''=>CX outer H s E e' s'') s'
theorem vf{sc:Scope}{n:Nat}{x:Str}(h:sc.names.lookup x=some .cell):∃c,(bT n sc.names []).lookup x=some c:=by
 have q:=vy sc.names n [] (.inl h);exact fe.mp q
theorem yP{CX:CXT}{P:Program}{w:World}{K:aa}{mg:Str->Option Value}{base:Heap}{N ps:List Str}{qual:Str}{scope:Scope}{f:Addr}{cd:Value}{A:Around}{outer:List Env}{s s1:Shared}{H:Hp}{E:XK}{us:List Value}{vs:List V}
  (S:tN N ps scope)(hd:A.handled=none)(e0:Env0 P w K mg base A outer s H)(hl:vs.length=ps.length)(r:bC vs us)
  (x:InCallC s s.heap.objs.size (bindL (envOfC qual scope s.heap.objs.size f cd).kindOf (ps.zip us) fun _=>none) (bT (s.heap.objs.size+1) scope.names []) (bindC (envOfC qual scope s.heap.objs.size f cd).kindOf (ps.zip us) fun _=>none) s1):
  Inv (tw CX P w K mg base N qual scope f cd A outer s H E) [] (start N vs) H s1:=by
 have hpl:ps.length<=N.length:=by have :=congrArg gE S.pre;rw[aW]at this;omega
 obtain⟨h1,tk,rfl,hk⟩:=x.done;have noA:∀b:Addr,b∉(tw CX P w K mg base N qual scope f cd A outer s H E).ex:=fun b z=>absurd (show b∈([]:List Addr)from z) (by simp);refine⟨⟨e0.mod,S.kind,rfl,rfl,ar _,fun y z c h1 h2=>?_,fun y hy=>?_,fun y c _ h=>?_,fun _=>hd,Around.frames_deeper e0.frames,.inr ⟨rfl,rfl⟩,fun b z=>absurd z (noA b),e0.bs,e0.bsz,fun b _ _=>noA b,fun b z=>absurd z (noA b),e0.tp,e0.frf⟩,
  rfl,e0.bare,Un.kept hk,⟨_,x.toInCall.ns,fun i y v h1 h2 h3=>?_⟩,fun y c h=>⟨_,x.cell y c h⟩,e0.hok.fresh (ar _),fun y c h=>?_,fun p hp=>absurd (show p∈([]:List (Addr×Obj))from hp) (by simp),e0.hok.kept hk,?_⟩
 ·exact name_of_addr x.apart (bh h1) (bh h2)
 ·have hy:scope.names.lookup y=some .cell\/scope.names.lookup y=some .free:=hy
  rcases hy with hy|hy
  ·exact vf hy
  ·exact absurd rfl (S.nofree _ (bh hy))
 ·exact gj (x.above y c (bh h))
 ·have hi:i<vs.length:=by
   unfold start at h2;by_cases hi:i<vs.length
   ·exact hi
   ·rw[cA (by simpa using hi)]at h2
    rw[List.getElem?_replicate]at h2;split at h2<;>cases h2
  have ha:vs[i]? =some v:=by
   unfold start at h2;rw[eY (by simpa using hi),aZ]at h2;cases e:vs[i]? with
   |none=>rw[e]at h2;cases h2
   |some a=>rw[e]at h2;cases h2;rfl
  obtain⟨u,hu,rv⟩:=r.get ha;have hp:ps[i]? =some y:=by
   rw[<-S.pre,vJ (by omega)];exact h1
  have ndP:ps.Nodup:=by rw[<-S.pre];exact S.nd.sublist (oE _ _)
  refine⟨u,rv,?_⟩;rcases S.par y (bj hp)with k|k
  ·exact .inl ⟨k,rX ndP hp hu k⟩
  ·obtain⟨c,e⟩:=vf (n:=s.heap.objs.size+1) k
   refine .inr ⟨.inl k,c,e,?_⟩;have q:=x.cell y c e;rw[rZ ndP hp hu (by show scope.names.lookup y≠_;rw[k];decide)]at q;exact q
 ·exact e0.hok.fresh (gj (x.above y c (bh h)))
 ·unfold start
  show _=N.length;rw[aA,ae,d9];omega
theorem fn_of{CX:CXT}{P:Program}{w:World}{K:aa}{mg:Str->Option Value}{base:Heap}{k:Nat}{f:Addr}{name qual:Str}{params:Arguments}{body:List Stmt}{scope:Scope}{dV kV doc pm cdv ct oc:Value}{an od:Option Addr}
  {osl:Array (Option Value)}{N ps:List Str}{sp:Sp}(lk:K.lookup f=some ⟨oc,od,.func (aJ name qual params body scope dV kV doc pm an cdv ct),osl⟩)(hcd:dE K cdv qual=true)(S:tN N ps scope)
  (len:∀vs H Q E,sp vs H Q E->vs.length=ps.length)
  (hbody:∀(A:Around)(outer:List Env)(s:Shared)(H:Hp)(vs:List V)(Q:VK)(E:XK),iC k (A.deeper (envOfC qual scope s.heap.objs.size f cdv))->sp vs H Q E->
   ∃t,PSs (tw CX P w K mg base N qual scope f cdv A outer s H E) body t/\t {nx:=fun _ H'=>Q .non H',rt:=Q} (start N vs) H):
  gP P w K mg base CX (k+1) f (aJ name qual params body scope dV kV doc pm an cdv ct) ps sp:=by
 refine⟨len,fun A outer s H args us vs Q E hr e0 hb r hsp=>?_⟩;have hl:=len _ _ _ _ hsp;have KX:K.In s.heap:=e0.mod.kin.keeps fun b o e=>(e0.bs b o e).1;have lim:s.heap.NoLimit:=e0.mod.nolimit.keeps fun b o e=>(e0.bs b o e).1;have hkind:∀y∈ps.zip us,scope.names.lookup y.1=some .local\/(scope.names.lookup y.1=some .cell/\((bT (s.heap.objs.size+1) scope.names []).lookup y.1).isSome=true):=fun⟨n,v⟩ hy=>by
  rcases S.par n (r6 hy).1 with q|q
  ·exact .inl q
  ·exact .inr ⟨q,vy _ _ _ (.inl q)⟩
 refine codeAny_call_function hr.depth (KX _ _ lk) rfl S.co S.gen rfl (PySem.W.codeRec_of KX hcd) (hb _ _ _ _ ?_);refine wpAny_newFunctionEnv_cells S.kind hkind fun env he s1 x=>?_;subst he;refine⟨lim.keeps x.toInCall.keep,codeAny_func ?_⟩;obtain⟨t,ht,hq⟩:=hbody A outer s H vs Q E (hr.deeper _) hsp;have I:Inv (tw CX P w K mg base N qual scope f cdv A outer s H E) [] (start N vs) H s1:=yP S hr.hd e0 hl r x;refine da (ht [] s1 (start N vs) H _ I hq) (fun fl s' hs=>?_) fun e s' hs=>hs;have fin:∀{σ':St}{H':Hp}{v:V}{u:Value},Inv (tw CX P w K mg base N qual scope f cdv A outer s H E) [] σ' H' s'->RelV v u->Q v H'->CE outer P w H s Q u s':=
  fun{σ' H' v u} J rv q=>⟨v,H',J.os,J.bare,J.base,J.hok,rv,q⟩
 cases fl with
 |ret u=>
  obtain⟨v,σ',H',J,rv,q⟩:=hs;exact fin J rv q
 |next =>
  obtain⟨σ',H',J,q⟩:=hs;exact fin (v:=V.non) (u:=bG) J rfl q
 |brk=>
  obtain⟨_,_,_,q⟩:=hs;exact iD q
 |cont=>
  obtain⟨_,_,_,q⟩:=hs;exact iD q
section
variable {X:Cx}{x:Str}{p pos:Pos}{e:Expr}{es:List Expr}{t:TA}{id T:String}{r:List V->Hp->VK->Prop}
noncomputable def tCB(r:List V->Hp->VK->Prop)(t:TA):TE:=fun σ H Q=>t σ H fun vs H1=>r vs H1 Q
theorem A9(hc:eh X (.builtin id) r)(hg:Gl X x)(hm:X.mg x=none)(hv:cW x=some (.builtin id))(ha:PA X (e::es) t)(hn:x≠"__name__":=by decide) (hdb:(x==("__debug__":Str))=false:=by decide)
  (he:bu (e::es) X.env=(false,eval e X.env)::bu es X.env:=by rfl) (hpl:(backTo pos (bu es X.env)).any (·.1)=false:=by rfl):PE X (.Call (.Name x p) (e::es) [] pos) (tCB r t):=by
 intro pins s σ H Q I h;refine gi (gG I hg hm hv ?_ hn hdb);exact k9 (thn (ha pos pins s σ H _ I h) fun us s1 ⟨vs,H1,I1,r1,q1⟩=>hc pins s1 σ H1 vs us Q I1 r1 q1) he hpl
theorem yw(hc:eh X (.type T) r)(hg:Gl X x)(hm:X.mg x=none)(hv:cW x=some (.type T))(ha:PA X (e::es) t)(hn:x≠"__name__":=by decide) (hdb:(x==("__debug__":Str))=false:=by decide)
  (he:bu (e::es) X.env=(false,eval e X.env)::bu es X.env:=by rfl) (hpl:(backTo pos (bu es X.env)).any (·.1)=false:=by rfl):PE X (.Call (.Name x p) (e::es) [] pos) (tCB r t):=by
 intro pins s σ H Q I h;refine gi (gG I hg hm hv ?_ hn hdb);exact bM (thn (ha pos pins s σ H _ I h) fun us s1 ⟨vs,H1,I1,r1,q1⟩=>hc pins s1 σ H1 vs us Q I1 r1 q1) he hpl
end
end L2
namespace HT
open PySem PyProof.Rows
section
open PySem.SeqAt
open PySem.AutoSeq1 (wpAny_loadPart')
open PySem.MeetsSeq PySem.MeetsSeq2 PySem.MeetsSeq3
end
section
variable {prog:Program}{w:World}{A:Around}{E:Value->Shared->Prop}{s:Shared}
theorem cat_tup{t b:Addr}{vs ws:List Value}{Q:Value->Shared->Prop}(ht:IsTup s.heap t vs.toArray)(hb:IsTup s.heap b ws.toArray)(hv:vs≠[])
  (h1:ws=[]->Q (.ref t) s)(h2:ws≠[]->Q (.ref s.heap.objs.size) {s with heap:=s.heap.push {cls:=.type "tuple",data:=.seq (vs++ws).toArray}})
  (hsz:vs.length+ws.length<=sizeLine):wpAny (model prog w) A (cO .Add (.ref t) (.ref b)) Q E s:=by
 obtain⟨⟨cls,dd,data,sl⟩,ho,hc,n,hd⟩:=id ht;obtain⟨⟨cls2,dd2,data2,sl2⟩,ho2,hc2,n2,hd2⟩:=id hb;simp only at hc hd hc2 hd2;subst hc hd hc2 hd2;have e:vs.toArray++ws.toArray=(vs++ws).toArray:=by simp
 by_cases hw:ws=[]
 ·exact concat_meets ⟨_,ho,rfl⟩ ⟨_,ho2,rfl⟩ vv B9 js i6 (iP _ _)
   (tuple_addW1 t b vs.toArray ws.toArray n n2 dd dd2 sl sl2 (by simpa using hv) (by simp[hw])) ⟨ho,ho2,h1 hw⟩
 ·refine concat_meets ⟨_,ho,rfl⟩ ⟨_,ho2,rfl⟩ vv B9 js i6 (iP _ _)
   (tuple_addW2 t b vs.toArray ws.toArray n n2 dd dd2 sl sl2 (by simpa using hv) (by simpa using hw) (by rw[ax,ax];exact hsz)) ⟨ho,ho2,?_⟩
  rw[e];exact h2 hw
noncomputable def sIx(n d:Nat):Option Int->Nat
 |none=>d
 |some v=>if v<0 then(v+(n:Int)).toNat else min v.toNat n
theorem oY(n d:Nat):sIx n d none=d:=rfl
theorem sC(n d k:Nat):sIx n d (some (k:Int))=min k n:=by
 show(if(k:Int)<0 then((k:Int)+(n:Int)).toNat else min (k:Int).toNat n)=min k n;rw[if_neg (by omega),cE]
theorem Ar(n d:Nat)(hd:d<=n)(o:Option Int):sIx n d o<=n:=by
 cases o with
 |none=>exact hd
 |some v=>
  show(if v<0 then(v+(n:Int)).toNat else min v.toNat n)<=n;by_cases hv:v<0
  ·rw[if_pos hv];omega
  ·rw[if_neg hv];exact eU _ _
theorem clip_eq(v:Int)(n d:Nat):(if v<0 then max (v+(n:Int)) 0 else min v (n:Int))=((sIx n d (some v):Nat):Int):=by
 show(if v<0 then max (v+(n:Int)) 0 else min v (n:Int))=(((if v<0 then(v+(n:Int)).toNat else min v.toNat n):Nat):Int);by_cases hv:v<0
 ·simp only[if_pos hv];omega
 ·simp only[if_neg hv];omega
end
end HT
namespace L2
open PySem PySem.Spec PyProof.Rows
noncomputable abbrev TO:=St->Hp->(Option Int->Hp->Prop)->Prop
noncomputable def PO(X:Cx)(e:Option Expr)(t:TO):Prop:=
 ∀(pins:List (Addr×Obj))(s:Shared)(σ:St)(H:Hp)(Q:Option Int->Hp->Prop),Inv X pins σ H s->t σ H Q->
  wpAny (model X.prog X.w) X.A (evalPart e X.env) (fun u s'=>∃o H',Inv X pins σ H' s'/\IsPart u o/\Q o H') X.xe s
noncomputable def si:TO:=fun _ H Q=>Q none H
noncomputable def zW(t:TE):TO:=fun σ H Q=>t σ H fun x H1=>∃i,x=.int i/\Q (some i) H1
section
variable {X:Cx}{e:Expr}{te:TE}{lo hi:Option Expr}{tl th:TO}{pos p2:Pos}
theorem po_none:PO X none si:=by
 intro pins s σ H Q I h;rw[Ca];exact aj ⟨none,H,I,.none,h⟩
theorem po_some(h:PE X e te):PO X (some e) (zW te):=by
 intro pins s σ H Q I hw;rw[evalPart_some];refine thn (h pins s σ H _ I hw) fun u s1 ⟨x,H1,I1,r1,q1⟩=>?_;obtain⟨i,rfl,q⟩:=q1;obtain⟨t,rfl⟩:=r1;exact⟨some i,H1,I1,.int i t,q⟩
noncomputable def SlR(X:Cx)(r:V->Option Int->Option Int->Hp->VK->Prop):Prop:=
 ∀(pins:List (Addr×Obj))(s:Shared)(σ:St)(H:Hp)(x:V)(v vl vu:Value)(lo hi:Option Int)(sl:Addr)(Q:VK),Inv X pins σ H s->RelV x v->s.heap.IsSliceOf sl vl vu .none->IsPart vl lo->IsPart vu hi->r x lo hi H Q->
  ∃T id,zj (.type T) "__getitem__"=pure (some (.builtin id))/\s.TypeIs v T/\wpAny (model X.prog X.w) X.A (xV v (.ref sl)) (EP X pins σ Q) X.xe s
theorem SlR.or{r r':V->Option Int->Option Int->Hp->VK->Prop}(h:SlR X r)(h':SlR X r'):SlR X (fun x lo hi H Q=>r x lo hi H Q\/r' x lo hi H Q):=by
 intro pins s σ H x v vl vu lo hi sl Q I rx hs pl pu q;rcases q with q|q
 ·exact h pins s σ H x v vl vu lo hi sl Q I rx hs pl pu q
 ·exact h' pins s σ H x v vl vu lo hi sl Q I rx hs pl pu q
noncomputable def tSl(r:V->Option Int->Option Int->Hp->VK->Prop)(te:TE)(tl th:TO):TE:=fun σ H Q=>te σ H fun x H1=>tl σ H1 fun l H2=>th σ H2 fun u H3=>r x l u H3 Q
theorem AZ{r:V->Option Int->Option Int->Hp->VK->Prop}(hr:SlR X r)(he:PE X e te)(hl:PO X lo tl)(hu:PO X hi th):PE X (.Subscript e (.Slice lo hi none p2) pos) (tSl r te tl th):=by
 intro pins s σ H Q I h;refine zm (thn (he pins s σ H _ I h) fun v s1 ⟨x,H1,I1,r1,q1⟩=>?_);refine wpAny_Slice (thn (hl pins s1 σ H1 _ I1 q1) fun vl s2 ⟨l,H2,I2,pl,q2⟩=>thn (hu pins s2 σ H2 _ I2 q2) fun vu s3 ⟨u,H3,I3,pu,q3⟩=>?_);rw[Ca];refine aj ?_;have I4:Inv X pins σ H3 {s3 with heap:=s3.heap.push {cls:=.type "slice",data:=.fields #[vl,vu,.none]}}:=I3.kept (t':=s3.toks) fun b ob q=>ag _ q;obtain⟨T,id,hT,ht,hg⟩:=hr pins {s3 with heap:=s3.heap.push {cls:=.type "slice",data:=.fields #[vl,vu,.none]}} σ H3 x v vl vu l u s3.heap.objs.size Q I4 r1 (r9 ..) pl pu q3;show wpAny (model X.prog X.w) X.A (qq e (.Slice lo hi none p2) v (.ref s3.heap.objs.size)) (EP X pins σ Q) X.xe {s3 with heap:=s3.heap.push {cls:=.type "slice",data:=.fields #[vl,vu,.none]}};exact tail_any (ops:=[.ref s3.heap.objs.size,v]) ht hT hg (by with_unfolding_all rfl)
noncomputable def tz(xs:List V)(lo hi:Option Int):List V:=(xs.drop (HT.sIx xs.length 0 lo)).take (HT.sIx xs.length xs.length hi-HT.sIx xs.length 0 lo)
theorem vb(xs:List V)(lo hi:Option Int):(tz xs lo hi).length<=xs.length:=by
 unfold tz;rw[aW,qr];omega
noncomputable def rSlT(K:aa):V->Option Int->Option Int->Hp->VK->Prop:=fun x lo hi H Q=>∃a xs,x=.ref a/\SqT K H a xs/\
 ¬(HT.sIx xs.length 0 lo=0/\HT.sIx xs.length xs.length hi=xs.length)/\∀p,H p=none->Q (.ref p) (upd H p (.tup (tz xs lo hi)))
noncomputable def xl(K:aa):R2:=fun x y H Q=>∃a b xs ys,x=.ref a/\y=.ref b/\SqT K H a xs/\SqT K H b ys/\xs≠[]/\xs.length+ys.length<=sizeLine/\
 (ys=[]->Q (.ref a) H)/\(ys≠[]->∀p,H p=none->Q (.ref p) (upd H p (.tup (xs++ys))))
theorem bC.sV{xs:List V}{us:List Value}(r:bC xs us):us=[]↔xs=[]:=by
 cases r with
 |nil=>simp
 |cons _ _=>simp
theorem op_catT:OpR X (cO .Add) (xl X.K):=by
 intro pins s σ H x y v u Q I rx ry h;obtain⟨a,b,xs,ys,rfl,rfl,ha,hb,hx,hz,q1,q2⟩:=h;cases rx;cases ry;obtain⟨its,r1,p1,_⟩:=I.tuple ha;obtain⟨its2,r2,p2,_⟩:=I.tuple hb;refine HT.cat_tup p1 p2 (fun z=>hx (r1.sV.mp z)) (fun z=>⟨.ref a,H,I,rfl,q1 (r2.sV.mp z)⟩) (fun z=>?_) (by rw[<-r1.length,<-r2.length];exact hz);refine⟨.ref s.heap.objs.size,_,I.laid (t':=s.toks) (o:=.tup (xs++ys)) (fun b ob q=>ag _ q) (ar _) ?_,rfl,q2 (fun w=>z (r2.sV.mpr w)) _ (I.hok.fresh (ar _))⟩;exact⟨by rw[aA];exact hz,_,r1.append r2,IsTup.new _ _⟩
end
noncomputable def ixN(n:Nat)(i:Int):Option Nat:=if 0<=i then(if i<n then some i.toNat else none)else if -(n:Int)<=i then some (i+n).toNat else none
noncomputable def atI{α:Type}(xs:List α)(i:Int):Option α:=(ixN xs.length i).bind fun j=>xs[j]?
theorem xA{n:Nat}{i:Int}{j:Nat}(h:ixN n i=some j):seqIndex? i n=some j/\j<n∧-(n:Int)<=i/\i<n:=by
 unfold ixN at h;by_cases h0:0<=i
 ·rw[if_pos h0]at h
  by_cases h1:i<n
  ·rw[if_pos h1]at h
   have e:i.toNat=j:=be h;exact⟨by rw[seqIndex_of h0 h1,e],by omega,by omega,h1⟩
  ·rw[if_neg h1]at h;cases h
 ·rw[if_neg h0]at h
  by_cases h1: -(n:Int)<=i
  ·rw[if_pos h1]at h
   have e:(i+n).toNat=j:=be h;exact⟨by rw[seqIndex_neg (by omega) h1,e],by omega,h1,by omega⟩
  ·rw[if_neg h1]at h;cases h
theorem tK{α:Type}{xs:List α}{i:Int}{v:α}(h:atI xs i=some v):∃j,seqIndex? i xs.length=some j/\xs[j]? =some v/\j<xs.length∧-(xs.length:Int)<=i/\i<xs.length:=by
 unfold atI at h;cases e:ixN xs.length i with
 |none=>rw[e]at h;cases h
 |some j=>
  rw[e]at h;obtain⟨h1,h2,h3,h4⟩:=xA e;exact⟨j,h1,h,h2,h3,h4⟩
theorem fF{α:Type}{xs:List α}{j:Nat}{v:α}(h:xs[j]? =some v):atI xs (j:Int)=some v:=by
 have hj:j<xs.length:=(bw.mp h).1;have e:ixN xs.length (j:Int)=some j:=by
  unfold ixN;rw[if_pos (by omega),if_pos (by omega)];simp
 unfold atI;rw[e];exact h
noncomputable def xT(b:Expr):Prop:=∀o i,subscripted b false o i=operate [o,i] (xV o i)
noncomputable def IxR(X:Cx)(r:R2):Prop:=
 ∀(value slice:Expr)(pins:List (Addr×Obj))(s:Shared)(σ:St)(H:Hp)(x y:V)(v u:Value)(Q:VK),Inv X pins σ H s->RelV x v->RelV y u->r x y H Q->
  subscripted slice false v u=operate [v,u] (xV v u)->wpAny (model X.prog X.w) X.A (qq value slice v u) (EP X pins σ Q) X.xe s
noncomputable def MtR(X:Cx)(id:String)(r:V->List V->Hp->VK->Prop):Prop:=
 ∀(pins:List (Addr×Obj))(s:Shared)(σ:St)(H:Hp)(x:V)(xs:List V)(v:Value)(us:List Value)(Q:VK),Inv X pins σ H s->RelV x v->bC xs us->r x xs H Q->
  wpAny (model X.prog X.w) X.A (call (.builtin id) (v::us)) (EP X pins σ Q) X.xe s
section
variable {X:Cx}{a b:Expr}{ta tb:TE}{pos:Pos}
theorem IxR.or{r r':R2}(h:IxR X r)(h':IxR X r'):IxR X (fun x y H Q=>r x y H Q\/r' x y H Q):=by
 intro value slice pins s σ H x y v u Q I rx ry q hs;rcases q with q|q
 ·exact h value slice pins s σ H x y v u Q I rx ry q hs
 ·exact h' value slice pins s σ H x y v u Q I rx ry q hs
theorem MtR.or{id:String}{r r':V->List V->Hp->VK->Prop}(h:MtR X id r)(h':MtR X id r'):MtR X id (fun x xs H Q=>r x xs H Q\/r' x xs H Q):=by
 intro pins s σ H x xs v us Q I rx rs q;rcases q with q|q
 ·exact h pins s σ H x xs v us Q I rx rs q
 ·exact h' pins s σ H x xs v us Q I rx rs q
theorem pe_ix{r:R2}(hr:IxR X r)(ha:PE X a ta)(hb:PE X b tb)(hs:xT b):PE X (.Subscript a b pos) (tOp r ta tb):=by
 intro pins s σ H Q I h;exact zm (binT ha hb I h fun v u s2 x y H2 I2 rx ry q=>hr a b pins s2 σ H2 x y v u Q I2 rx ry q (hs _ _))
noncomputable def rIxL(K:aa):R2:=fun x y H Q=>∃p xs i v,x=.ref p/\y=.int i/\SqL K H p xs/\atI xs i=some v/\Q v H
noncomputable def rIxT(K:aa):R2:=fun x y H Q=>∃p xs i v,x=.ref p/\y=.int i/\SqT K H p xs/\atI xs i=some v/\Q v H
noncomputable def rIxS:R2:=fun x y H Q=>∃z i c,x=.str z/\y=.int i/\z.length<=sizeLine/\atI z.cps.toList i=some c/\Q (.str ⟨#[c]⟩) H
theorem ix_list:IxR X (rIxL X.K):=by
 intro value slice pins s σ H x y v u Q I rx ry h hs;obtain⟨p,xs,i,z,rfl,rfl,hq,he,q⟩:=h;cases rx;obtain⟨t,rfl⟩:=ry;obtain⟨its,r,pl,hz⟩:=I.list hq;obtain⟨j,h1,h2,h3,h4,h5⟩:=tK he;obtain⟨w,ew,rw'⟩:=r.get h2;have hl:=r.length;have hn:=kL;have fin:EP X pins σ Q w s:=⟨z,H,I,rw',q⟩;by_cases h0:0<=i
 ·have hj:i.toNat=j:=by
   rw[seqIndex_of h0 h5]at h1;exact be h1
  exact item_listR pl.isList h0 (by omega) (by rw[hj];simpa using ew) fin hs
 ·have hj:(i+(its.toArray.size:Int)).toNat=j:=by
   rw[seqIndex_neg (by omega) h4]at h1;rw[ax,<-hl];exact be h1
  exact subscriptTail_builtinR (x:=w) pl.isList.typeIs tR.lookup
   (wpAny_getItem_list_neg (Q:=fun r s'=>r=w/\EP X pins σ Q r s') pl.isList (by omega) (by rw[ax]<;>omega) (by omega) (by rw[hj];simpa using ew) ⟨rfl,fin⟩) hs
theorem ix_tup:IxR X (rIxT X.K):=by
 intro value slice pins s σ H x y v u Q I rx ry h hs;obtain⟨p,xs,i,z,rfl,rfl,hq,he,q⟩:=h;cases rx;obtain⟨t,rfl⟩:=ry;obtain⟨its,r,pl,hz⟩:=I.tuple hq;obtain⟨j,h1,h2,h3,h4,h5⟩:=tK he;obtain⟨w,ew,rw'⟩:=r.get h2;have hl:=r.length;have hn:=kL;have fin:EP X pins σ Q w s:=⟨z,H,I,rw',q⟩;exact subscriptTail_builtinR (x:=w) pl.typeIs slot_tuple_getitem.lookup
  (getItem_tuple (j:=j) (Q:=fun r s'=>r=w/\EP X pins σ Q r s') pl (by omega) (by omega) (by rw[ax,<-hl];exact h1) (by simpa using ew) ⟨rfl,fin⟩) hs
theorem ix_str:IxR X rIxS:=by
 intro value slice pins s σ H x y v u Q I rx ry h hs;obtain⟨z,i,c,rfl,rfl,hz,he,q⟩:=h;obtain⟨t,rfl⟩:=rx;obtain⟨t',rfl⟩:=ry;obtain⟨j,h1,h2,h3,h4,h5⟩:=tK he;have hl:z.cps.toList.length=z.length:=by simp[vx]
 rw[hl]at h1 h4 h5;have hn:=kL;exact tail_any (typeIs_str s z t) slot_str_getitem.lookup (getItem_str (c:=c) (by
  have e1:decide (i< -(2^63:Int))=false:=decide_eq_false (by omega);have e2:decide (i≥ 2^63)=false:=decide_eq_false (by omega);rw[e1,e2,vL]) (by rw[h1];simpa using h2) ⟨.str ⟨#[c]⟩,H,I.tok _,⟨_,rfl⟩,q⟩) hs
noncomputable def rIx(K:aa):R2:=fun x y H Q=>rIxL K x y H Q\/rIxT K x y H Q\/rIxS x y H Q
theorem ix_seq:IxR X (rIx X.K):=ix_list.or (ix_tup.or ix_str)
theorem wq(its:List Value)(n j:Nat)(u:Value):bS (·.setIfInBounds j u) {cls:=.type "list",data:=.seq its.toArray n}={cls:=.type "list",data:=.seq (its.set j u).toArray n}:=by
 simp[bS]
theorem Inv.lst{pins:List (Addr×Obj)}{σ:St}{H:Hp}{s:Shared}{p:Addr}{xs:List V}(I:Inv X pins σ H s)(h:H p=some (.lst xs)):
  ∃(its:List Value)(n:Nat),bC xs its/\s.heap.get? p=some {cls:=.type "list",data:=.seq its.toArray n}/\xs.length<=sizeLine:=by
 obtain⟨z,its,n,r,e⟩:=I.hok p _ h;exact⟨its,n,r,e,z⟩
theorem Inv.lstUpd{pins:List (Addr×Obj)}{σ:St}{H:Hp}{s:Shared}{p:Addr}{xs ys:List V}{its its':List Value}{n n':Nat}{f:Obj->Obj}(I:Inv X pins σ H s)(h:H p=some (.lst xs))
  (ho:s.heap.get? p=some {cls:=.type "list",data:=.seq its.toArray n}) (hf:f {cls:=.type "list",data:=.seq its.toArray n}={cls:=.type "list",data:=.seq its'.toArray n'}) (r:bC ys its') (hz:ys.length<=sizeLine) (t:Nat):
  Inv X pins σ (upd H p (.lst ys)) {s with heap:=s.heap.update p f,toks:=t}:=by
 have e:(s.heap.update p f).get? p=some {cls:=.type "list",data:=.seq its'.toArray n'}:=by
  rw[cH f ho (by rw[hf]<;>rfl),hf]
 refine I.write (x:=p) (e:=p) (by rw[h];trivial) (.inl rfl) (fun b u hb q=>(bz _ _ (cR hb)).trans q) ⟨_,e⟩ ?_;exact⟨hz,its',n',r,e⟩
noncomputable def rSetL:V->V->V->Hp->(Hp->Prop)->Prop:=fun o i v H Q=>∃p xs k j,o=.ref p/\i=.int k/\H p=some (.lst xs)/\ixN xs.length k=some j/\Q (upd H p (.lst (xs.set j v)))
theorem set_list:PSet X rSetL:=by
 intro pins s σ H o i v ov iv u Q I ro ri rv h;obtain⟨p,xs,k,j,rfl,rfl,hp,hj,q⟩:=h;cases ro;obtain⟨t,rfl⟩:=ri;obtain⟨its,n,r,ho,hz⟩:=I.lst hp;obtain⟨h1,h2,h3,h4⟩:=xA hj;have hl:=r.length;have hn:=kL;have I':Inv X pins σ (upd H p (.lst (xs.set j v))) {s with heap:=s.heap.update p (bS (·.setIfInBounds j u))}:=
  I.lstUpd hp ho (wq its n j u) (r.set rv j) (by rw[List.length_set];exact hz) s.toks
 by_cases h0:0<=k
 ·have hk:k.toNat=j:=by
   rw[seqIndex_of h0 h4]at h1;exact be h1
  exact PySem.W.ki_setAt ho h0 (by omega) (by rw[ax,<-hl];exact h4) (by rw[hk];exact⟨_,I',q⟩)
 ·have hk:(k+(its.toArray.size:Int)).toNat=j:=by
   rw[seqIndex_neg (by omega) h3]at h1;rw[ax,<-hl];exact be h1
  exact PySem.W.ki_setBack ho (by omega) (by rw[ax,<-hl];exact h3) (by omega) (by rw[hk];exact⟨_,I',q⟩)
theorem sv(lo hi:Option Int)(n:Nat):(fg lo hi none n).1=((HT.sIx n 0 lo:Nat):Int)/\(fg lo hi none n).2.1=((HT.sIx n n hi:Nat):Int)/\(fg lo hi none n).2.2=1:=by
 refine⟨?_,?_,rfl⟩
 ·cases lo with
  |none=>simp[fg,HT.sIx]
  |some i=>
   simp only[fg,HT.sIx,oD,show(1:Int)>0 by decide,if_true];by_cases h:i<0
   ·simp only[h,if_true]<;>omega
   ·simp only[h,if_false]<;>omega
 ·cases hi with
  |none=>simp[fg,HT.sIx]
  |some i=>
   simp only[fg,HT.sIx,oD,show(1:Int)>0 by decide,if_true];by_cases h:i<0
   ·simp only[h,if_true]<;>omega
   ·simp only[h,if_false]<;>omega
theorem qx(its:List Value)(lo hi:Option Int):slicePick its.toArray lo hi none=((its.drop (HT.sIx its.length 0 lo)).take (HT.sIx its.length its.length hi-HT.sIx its.length 0 lo)).toArray:=by
 obtain⟨h1,h2,h3⟩:=sv lo hi its.toArray.size;unfold slicePick;rw[h1,h2,h3];simp only[sliceRange_one,pick_run,ax]<;>rfl
noncomputable def rSlL(K:aa):V->Option Int->Option Int->Hp->VK->Prop:=fun x lo hi H Q=>∃a xs,x=.ref a/\SqL K H a xs/\∀p,H p=none->Q (.ref p) (upd H p (.lst (tz xs lo hi)))
theorem sl_list:SlR X (rSlL X.K):=by
 intro pins s σ H x v vl vu lo hi sl Q I rx hs pl pu h;obtain⟨a,xs,rfl,hx,q⟩:=h;cases rx;obtain⟨its,r,ht,hz⟩:=I.list hx;have hlen:=r.length;refine⟨"list",_,tR.lookup,ht.isList.typeIs,?_⟩;refine B8 ht.isList hs pl pu .none (by simp) ?_ (by rw[ax]<;>omega);rw[qx,<-hlen];refine⟨.ref s.heap.objs.size,_,I.laid (t':=s.toks) (o:=.lst (tz xs lo hi)) (fun b ob q=>ag _ q) (ar _) ?_,rfl,q _ (I.hok.fresh (ar _))⟩;exact⟨aP (vb xs lo hi) hz,_,0,(r.drop (HT.sIx xs.length 0 lo)).take (HT.sIx xs.length xs.length hi-HT.sIx xs.length 0 lo),aC _ rfl⟩
noncomputable def lL:V->Bool
 |.non=>true
 |.bl _=>true
 |.int _=>true
 |.str _=>true
 |_=>false
noncomputable def eqV:V->V->Bool
 |.non,.non=>true
 |.bl a,.bl b=>a==b
 |.bl a,.int b=>(if a then 1 else 0)==b
 |.int a,.bl b=>a==(if b then 1 else 0)
 |.int a,.int b=>a==b
 |.str a,.str b=>a==b
 |_,_=>false
theorem d7{A:Around}{s:Shared}{y x:V}{u v:Value}(ry:RelV y u)(rx:RelV x v)(fy:lL y=true)(fx:lL x=true):SeqAt.EqAt A s u v (eqV y x):=by
 cases y with
 |non=>
  cases ry;cases x with
  |non=>cases rx;exact SeqAt.EqAt.same _
  |bl b=>cases rx;exact SeqAt.EqAt.none_bool b
  |int b=>obtain⟨t,rfl⟩:=rx;exact SeqAt.EqAt.none_int b t
  |str b=>obtain⟨t,rfl⟩:=rx;exact SeqAt.EqAt.none_str b t
  |_=>exact absurd (show false=true from fx) aQ
 |bl a=>
  cases ry;cases x with
  |non=>cases rx;exact SeqAt.EqAt.bool_none a
  |bl b=>cases rx;exact SeqAt.EqAt.bool_bool a b
  |int b=>obtain⟨t,rfl⟩:=rx;exact SeqAt.EqAt.bool_int a b t
  |str b=>obtain⟨t,rfl⟩:=rx;exact SeqAt.EqAt.bool_str a b t
  |_=>exact absurd (show false=true from fx) aQ
 |int a=>
  obtain⟨t',rfl⟩:=ry;cases x with
  |non=>cases rx;exact SeqAt.EqAt.int_none a t'
  |bl b=>cases rx;exact SeqAt.EqAt.int_bool a t' b
  |int b=>obtain⟨t,rfl⟩:=rx;exact SeqAt.EqAt.int_int a t' b t
  |str b=>obtain⟨t,rfl⟩:=rx;exact vE a t' b t
  |_=>exact absurd (show false=true from fx) aQ
 |str a=>
  obtain⟨t',rfl⟩:=ry;cases x with
  |non=>cases rx;exact SeqAt.EqAt.str_none a t'
  |bl b=>cases rx;exact SeqAt.EqAt.str_bool a t' b
  |int b=>obtain⟨t,rfl⟩:=rx;exact vD a t' b t
  |str b=>obtain⟨t,rfl⟩:=rx;exact SeqAt.EqAt.str_str a t' b t
  |_=>exact absurd (show false=true from fx) aQ
 |_=>exact absurd (show false=true from fy) aQ
noncomputable def eqU(x:V)(u:Value):Bool:=match u with
 |.none=>eqV .non x
 |.bool b=>eqV (.bl b) x
 |.int i _=>eqV (.int i) x
 |.str z _=>eqV (.str z) x
 |_=>false
theorem BJ{x y:V}{u:Value}(r:RelV y u)(f:lL y=true):eqU x u=eqV y x:=by
 cases y with
 |non=>cases r;rfl
 |bl b=>cases r;rfl
 |int i=>obtain⟨t,rfl⟩:=r;rfl
 |str z=>obtain⟨t,rfl⟩:=r;rfl
 |_=>exact absurd (show false=true from f) aQ
theorem me{x:V}:∀{xs:List V}{us:List Value},bC xs us->xs.all lL=true->us.any (eqU x)=xs.any fun y=>eqV y x
 |_,_,.nil,_=>rfl
 |y::xs,u::us,.cons r t,f=>by
  rw[mY,aN]at f;rw[jj,jj,BJ r f.1,me t f.2]
theorem jA{A:Around}{s:Shared}{x:V}{v:Value}(rx:RelV x v)(fx:lL x=true):∀{xs:List V}{us:List Value},bC xs us->xs.all lL=true->∀u∈us,SeqAt.EqAt A s u v (eqU x u)
 |_,_,.nil,_=>fun u hu=>by cases hu
 |y::xs,u::us,.cons r t,f=>fun u' hu=>by
  rw[mY,aN]at f;rcases aI.mp hu with rfl|hu
  ·rw[BJ r f.1];exact d7 r rx f.1 fx
  ·exact jA rx fx t f.2 u' hu
noncomputable def inV(x:V)(xs:List V):Bool:=xs.any fun y=>eqV y x
noncomputable def rIn(K:aa)(neg:Bool):R2:=fun x y H Q=>∃p xs,y=.ref p/\(SqL K H p xs\/SqT K H p xs)/\lL x=true/\xs.all lL=true/\Q (.bl (if neg then !inV x xs else inV x xs)) H
theorem yF:OpR X (b9 .In) (rIn X.K false):=by
 intro pins s σ H x y v u Q I rx ry h;obtain⟨p,xs,rfl,hq,fx,fs,q⟩:=h;cases ry;rcases hq with hq|hq
 ·obtain⟨its,r,pl,hz⟩:=I.list hq
  refine SeqAt.in_listAt (eqU x) pl.isList (fun w hw=>jA rx fx r fs w (by simpa using hw)) ⟨.bl _,H,I,rfl,?_⟩;rw[show its.toArray.any (eqU x)=its.any (eqU x) by simp,me r fs];exact q
 ·obtain⟨its,r,pl,hz⟩:=I.tuple hq
  refine SeqAt.in_tupleAt (eqU x) pl (fun w hw=>jA rx fx r fs w (by simpa using hw)) ⟨.bl _,H,I,rfl,?_⟩;rw[show its.toArray.any (eqU x)=its.any (eqU x) by simp,me r fs];exact q
theorem sR:OpR X (b9 .NotIn) (rIn X.K true):=by
 intro pins s σ H x y v u Q I rx ry h;obtain⟨p,xs,rfl,hq,fx,fs,q⟩:=h;cases ry;rcases hq with hq|hq
 ·obtain⟨its,r,pl,hz⟩:=I.list hq
  refine SeqAt.notIn_listAt (eqU x) pl.isList (fun w hw=>jA rx fx r fs w (by simpa using hw)) ⟨.bl _,H,I,rfl,?_⟩;rw[show its.toArray.any (eqU x)=its.any (eqU x) by simp,me r fs];exact q
 ·obtain⟨its,r,pl,hz⟩:=I.tuple hq
  refine SeqAt.notIn_tupleAt (eqU x) pl (fun w hw=>jA rx fx r fs w (by simpa using hw)) ⟨.bl _,H,I,rfl,?_⟩;rw[show its.toArray.any (eqU x)=its.any (eqU x) by simp,me r fs];exact q
theorem sQ:OpR X (b9 .NotIn) (fun x y H Q=>∃i j,x=.str i/\y=.str j/\Q (.bl (!(!(eQ j i 0 j.length 1).isEmpty))) H):=by
 intro pins s σ H x y v u Q I rx ry h;obtain⟨i,j,rfl,rfl,q⟩:=h;obtain⟨t,rfl⟩:=rx;obtain⟨t',rfl⟩:=ry;exact notIn_str ⟨.bl _,H,I,rfl,q⟩
theorem tF:eh X (.builtin "len") (fun xs H Q=>∃p ys,xs=[.ref p]/\(SqL X.K H p ys\/SqT X.K H p ys)/\Q (.int ys.length) H):=by
 intro pins s σ H xs us Q I r h;obtain⟨p,ys,rfl,hq,q⟩:=h;obtain⟨u,rfl,rx⟩:=vals1 r;cases rx;have hn:=kL;rcases hq with hq|hq
 ·obtain⟨its,r',pl,hz⟩:=I.list hq
  have hlen:=r'.length;exact Calls.call_len_list pl.isList (by simp only[ax]<;>omega) ⟨.int ys.length,H,I.tok _,⟨s.toks+1,by rw[ax,hlen]⟩,q⟩
 ·obtain⟨its,r',pl,hz⟩:=I.tuple hq
  have hlen:=r'.length;exact len_tuple pl (by simp only[ax]<;>omega) ⟨.int ys.length,H,I.tok _,⟨s.toks+1,by rw[ax,hlen]⟩,q⟩
theorem tE:eh X (.builtin "len") (fun xs H Q=>∃z,xs=[.str z]/\z.length<=sizeLine/\Q (.int z.length) H):=by
 intro pins s σ H xs us Q I r h;obtain⟨z,rfl,hz,q⟩:=h;obtain⟨u,rfl,t,rfl⟩:=vals1 r;have hn:=kL;exact len_str (by omega) ⟨.int z.length,H,I.tok _,⟨_,rfl⟩,q⟩
theorem eh.or{f:Value}{r r':List V->Hp->VK->Prop}(h:eh X f r)(h':eh X f r'):eh X f (fun xs H Q=>r xs H Q\/r' xs H Q):=by
 intro pins s σ H xs us Q I rs q;rcases q with q|q
 ·exact h pins s σ H xs us Q I rs q
 ·exact h' pins s σ H xs us Q I rs q
theorem tD:eh X (.type "list") (fun xs H Q=>∃p ys,xs=[.ref p]/\(SqL X.K H p ys\/SqT X.K H p ys)/\∀l,H l=none->Q (.ref l) (upd H l (.lst ys))):=by
 intro pins s σ H xs us Q I r h;obtain⟨p,ys,rfl,hq,q⟩:=h;obtain⟨u,rfl,rx⟩:=vals1 r;cases rx;have fin:∀(its:List Value),bC ys its->ys.length<=sizeLine->∀(h':Heap)(c':Nat),(∀b o',s.heap.get? b=some o'->h'.get? b=some o')->
   h'.get? s.heap.objs.size=some {cls:=.type "list",dict:=none,data:=.seq its.toArray c',slots:= #[]}->EP X pins σ Q (.ref s.heap.objs.size) {s with heap:=h'}:=fun its r' hz h' c' kp e=>
  ⟨.ref s.heap.objs.size,_,I.laid (t':=s.toks) kp (ar _) (show cF X.prog X.w _ h' _ (.lst ys)from⟨hz,its,c',r',e⟩),rfl,q _ (I.hok.fresh (ar _))⟩
 rcases hq with hq|hq
 ·obtain⟨its,r',pl,hz⟩:=I.list hq
  have hlen:=r'.length;obtain⟨o,ho,hc,n,hd⟩:=pl.isList;exact call_list_seq p (.inl rfl) ho hc hd (fun h' c' kp e=>fin its r' hz h' c' kp e) (by simp only[ax]<;>omega)
 ·obtain⟨its,r',pl,hz⟩:=I.tuple hq
  have hlen:=r'.length;obtain⟨o,ho,hc,n,hd⟩:=pl;exact call_list_seq p (.inr rfl) ho hc hd (fun h' c' kp e=>fin its r' hz h' c' kp e) (by simp only[ax]<;>omega)
theorem qH:eh X (.type "tuple") (fun xs H Q=>∃p ys,xs=[.ref p]/\((SqL X.K H p ys/\∀l,H l=none->Q (.ref l) (upd H l (.tup ys)))\/(SqT X.K H p ys/\Q (.ref p) H))):=by
 intro pins s σ H xs us Q I r h;obtain⟨p,ys,rfl,h⟩:=h;obtain⟨u,rfl,rx⟩:=vals1 r;cases rx;rcases h with⟨hq,q⟩ |⟨hq,q⟩
 ·obtain⟨its,r',pl,hz⟩:=I.list hq
  have hlen:=r'.length;refine call_tuple_list pl.isList (fun h' kp=>?_) (by simp only[ax]<;>omega);have I1:Inv X pins σ H {s with heap:=h'}:=I.kept (t':=s.toks) kp;have I2:Inv X pins σ (upd H h'.objs.size (.tup ys)) {s with heap:=h'.push {cls:=.type "tuple",data:=.seq its.toArray}}:=
   I1.laid (t':=s.toks) (fun b o e=>ag _ e) (ar _) (show cF X.prog X.w _ _ _ (.tup ys)from⟨hz,its,r',IsTup.new _ _⟩)
  exact⟨.ref h'.objs.size,_,I2,rfl,q _ (I1.hok.fresh (ar _))⟩
 ·obtain⟨its,r',pl,hz⟩:=I.tuple hq
  exact call_tuple_same pl ⟨.ref p,H,I,rfl,q⟩
noncomputable def tyV(K:aa)(T:String)(x:V)(H:Hp):Prop:=match x with
 |.str _=>T="str"
 |.int _=>T="int"
 |.ref p=>(T="list"/\∃xs,SqL K H p xs)\/(T="tuple"/\∃o,K.lookup p=some o/\o.cls=.type "tuple"/\o.dict=none)\/
   (T="dict"/\((∃kvs,H p=some (.dK kvs))\/∃kvs,H p=some (.dT kvs)))\/(T="set"/\∃S n,H p=some (.set S n))
 |_=>False
theorem zO{pins:List (Addr×Obj)}{σ:St}{H:Hp}{s:Shared}{T:String}{x:V}{v:Value}(I:Inv X pins σ H s)(r:RelV x v)(ty:tyV X.K T x H):
  s.TypeIs v T/\∀a,v=.ref a->∃ob,s.heap.get? a=some ob/\ob.dict=none:=by
 cases x with
 |str z=>
  obtain⟨t,rfl⟩:=r;cases(show T="str" from ty);exact⟨typeIs_str s z t,fun _ e=>nomatch e⟩
 |int i=>
  obtain⟨t,rfl⟩:=r;cases(show T="int" from ty);exact⟨typeIs_int s i t,fun _ e=>nomatch e⟩
 |ref p=>
  cases r;rcases ty with⟨rfl,xs,hq⟩ |⟨rfl,o,hk,hc,hd⟩ |⟨rfl,hk⟩ |⟨rfl,S,n,hk⟩
  ·obtain⟨its,_,pl,_⟩:=I.list hq
   refine⟨pl.isList.typeIs,fun a e=>?_⟩;cases e;obtain⟨o,n,e,c,hd,_⟩:=pl;exact⟨o,e,hd⟩
  ·refine⟨⟨o,I.kIn p o hk,hc⟩,fun a e=>?_⟩
   cases e;exact⟨o,I.kIn _ o hk,hd⟩
  ·have z:∃o,s.heap.get? p=some o/\o.ExactDict:=by
    rcases hk with⟨kvs,hk⟩ |⟨kvs,hk⟩
    ·obtain⟨_,_,_,_,o,_,_,e,ex,_⟩:=I.hok p _ hk
     exact⟨o,e,ex⟩
    ·obtain⟨_,_,_,_,o,_,_,e,ex,_⟩:=I.hok p _ hk
     exact⟨o,e,ex⟩
   obtain⟨o,e,ex⟩:=z;refine⟨⟨o,e,ex.1⟩,fun a e2=>?_⟩;cases e2;exact⟨o,e,ex.2.1⟩
  ·obtain⟨o,_,_,_,e,ex,_⟩:=I.hok p _ hk
   refine⟨⟨o,e,ex.1⟩,fun a e2=>?_⟩;cases e2;exact⟨o,e,ex.2.1⟩
 |_=>exact iD ty
noncomputable def tBM0(K:aa)(T:String)(r:V->List V->Hp->VK->Prop)(to:TE):TE:=fun σ H Q=>to σ H fun x H1=>tyV K T x H1/\r x [] H1 Q
noncomputable def tBM(K:aa)(T:String)(r:V->List V->Hp->VK->Prop)(to:TE)(t:TA):TE:=fun σ H Q=>to σ H fun x H1=>tyV K T x H1/\t σ H1 fun xs H2=>r x xs H2 Q
variable {o e:Expr}{es:List Expr}{to:TE}{t:TA}{name:Str}{apos cpos:Pos}{T id:String}{r:V->List V->Hp->VK->Prop}
theorem pe_bm0(pa:PlainAttrs T)(slot:Slot T name id)(hty:typeOf (.builtin id)=pure (.type "method_descriptor"))(hm:MtR X id r)(ho:PE X o to)
  (hbase:hJ o name X.env (eval o X.env)=eval o X.env:=by rfl) (hline:(apos.endLine==cpos.line)=true:=by rfl):PE X (.Call (.Attribute o name apos) [] [] cpos) (tBM0 X.K T r to):=by
 intro pins s σ H Q I h;refine wpAny_Call_method0_late hbase hline (thn (ho pins s σ H _ I h) fun v s1 ⟨x,H1,I1,r1,ty,q1⟩=>?_);obtain⟨h1,h2⟩:=zO I1 r1 ty;exact⟨T,id,pa,slot,hty,h1,h2,dX rfl (zA (hm pins s1 σ H1 x [] v [] Q I1 r1 .nil q1))⟩
theorem pe_bm(pa:PlainAttrs T)(slot:Slot T name id)(hty:typeOf (.builtin id)=pure (.type "method_descriptor"))(hm:MtR X id r)(ho:PE X o to)(ha:PA X (e::es) t)
  (hbase:hJ o name X.env (eval o X.env)=eval o X.env:=by rfl)
  (hfew:((backTo cpos (bu (e::es) X.env)).all (fun x=> !x.1)&&(backToKw cpos (keywordEach [] X.env)).all (fun x=>x.1.isSome)
   &&decide ((e::es).length+([]:List Keyword).length+(if([]:List Keyword).isEmpty then 0 else 1)<30))=true:=by rfl)
  (hline:(apos.endLine==cpos.line)=true:=by rfl) (hs:bu (e::es) X.env=(false,eval e X.env)::bu es X.env:=by rfl) (hplain:(backTo cpos (bu es X.env)).any (·.1)=false:=by rfl):
  PE X (.Call (.Attribute o name apos) (e::es) [] cpos) (tBM X.K T r to t):=by
 intro pins s σ H Q I h;refine wpAny_Call_method_late hbase hfew hline rfl (thn (ho pins s σ H _ I h) fun v s1 ⟨x,H1,I1,r1,ty,q1⟩=>?_);obtain⟨h1,h2⟩:=zO I1 r1 ty;refine⟨T,id,pa,slot,hty,h1,h2,?_⟩;have hA:=ha cpos pins s1 σ H1 _ I1 q1;rw[hs]at hA⊢;refine dX (by show(false||(backTo cpos (bu es X.env)).any (·.1))=false;rw[hplain]<;>rfl) (k8 ?_);exact thn hA fun us s2 ⟨vs,H2,I2,r2,q2⟩=>hm pins s2 σ H2 x vs v us Q I2 r1 r2 q2
end
noncomputable def MtM(X:Cx)(id:String)(r:V->List V->Hp->VK->Prop):Prop:=
 ∀(pins:List (Addr×Obj))(s:Shared)(σ:St)(H:Hp)(x:V)(xs:List V)(v:Value)(us:List Value)(Q:VK),Inv X pins σ H s->RelV x v->bC xs us->r x xs H Q->
  wpAny (model X.prog X.w) X.A (call (.builtin id) (v::us)) (EP X pins σ Q) X.xe s
theorem bC.one{x:V}{us:List Value}(h:bC [x] us):∃u,us=[u]/\RelV x u:=by
 cases h with
 |cons r k=>cases k with
  |nil=>exact⟨_,rfl,r⟩
theorem bC.two{x y:V}{us:List Value}(h:bC [x,y] us):∃u v,us=[u,v]/\RelV x u/\RelV y v:=by
 cases h with
 |cons r k=>
  obtain⟨v,e,q⟩:=bC.one k;exact⟨_,v,by rw[e],r,q⟩
theorem bC.zero:∀{us:List Value},bC [] us->us=[]
 |_,.nil=>rfl
theorem bC.dropLast{xs:List V}{us:List Value}(h:bC xs us):bC xs.dropLast us.dropLast:=by
 induction h with
 |nil=>exact .nil
 |cons r t ih=>
  cases t with
  |nil=>exact .nil
  |cons q t'=>exact .cons r ih
theorem bC.eraseIdx:∀{xs:List V}{us:List Value}(i:Nat),bC xs us->bC (xs.eraseIdx i) (us.eraseIdx i)
 |_,_,_,.nil=>.nil
 |_,_,0,.cons _ t=>t
 |_,_,i+1,.cons r t=>.cons r (bC.eraseIdx i t)
theorem bC.reverse{xs:List V}{us:List Value}(h:bC xs us):bC xs.reverse us.reverse:=by
 induction h with
 |nil=>exact .nil
 |cons r t ih=>rw[List.reverse_cons,List.reverse_cons];exact bC.append ih (.cons r .nil)
theorem bC.rep{xs:List V}{us:List Value}(h:bC xs us):∀k:Nat,bC (bq k xs).flatten (bq k us).flatten
 | 0=>.nil
 |k+1=>by
  rw[dI,dI,i7,i7];exact bC.append h (bC.rep h k)
theorem wH{α:Type}(l:List α):l.eraseIdx (l.length-1)=l.dropLast:=by
 induction l with
 |nil=>rfl
 |cons a r ih=>
  cases r with
  |nil=>rfl
  |cons b r=>
   have e:(a::b::r).length-1=((b::r).length-1)+1:=by
    have h1:(a::b::r).length=r.length+2:=rfl;have h2:(b::r).length=r.length+1:=rfl;omega
   rw[e,List.eraseIdx_cons_succ,ih];all_goals rfl
theorem rl{α:Type}:∀(l:List α)(i:Nat),(l.eraseIdx i).length<=l.length
 | [],_=>ar _
 |_::_,0=>eL _
 |_::r,i+1=>qM (rl r i)
theorem foldl_rep(its:List Value):∀(k:Nat)(acc:List Value),
  List.foldl (fun x1 x2=>x1++x2) acc.toArray (bq k its.toArray)=(acc++(bq k its).flatten).toArray
 | 0,acc=>by simp
 |k+1,acc=>by
  have e:acc.toArray++its.toArray=(acc++its).toArray:=by simp
  have e2:(acc++its)++(bq k its).flatten=acc++(bq (k+1) its).flatten:=by
   rw[dI,i7,i8]
  rw[<-e2,<-foldl_rep its k (acc++its),<-e,dI,ki]
section
variable {X:Cx}{pins:List (Addr×Obj)}{σ:St}{H:Hp}{s:Shared}{l b:Addr}{xs ys zs:List V}
theorem Inv.lset{its its':List Value}{n:Nat}{f:Array Value->Array Value}{t':Nat}(I:Inv X pins σ H s)(hH:H l=some (.lst xs))
  (e:s.heap.get? l=some {cls:=.type "list",data:=.seq its.toArray n}) (hf:f its.toArray=its'.toArray) (hv:bC ys its') (hz:ys.length<=sizeLine):
  Inv X pins σ (upd H l (.lst ys)) {s with heap:=s.heap.update l (bS f),toks:=t'}:=by
 have q:=zq e f;rw[hf]at q;refine I.write (x:=l) (e:=l) (by rw[hH];exact trivial) (.inl rfl) (fun b' u hb hu=>(bz s.heap (bS f) (cR hb)).trans hu) ⟨_,q⟩ ?_;exact⟨hz,its',_,hv,q⟩
theorem Inv.lnew{its:List Value}{t':Nat}(I:Inv X pins σ H s)(hv:bC ys its)(hz:ys.length<=sizeLine):
  Inv X pins σ (upd H s.heap.objs.size (.lst ys)) {s with heap:=s.heap.push {cls:=.type "list",data:=.seq its.toArray},toks:=t'}:=
 I.laid (fun _ _ q=>ag _ q) (ar _) ⟨hz,its,0,hv,aC _ rfl⟩
theorem Inv.fresh(I:Inv X pins σ H s):H s.heap.objs.size=none:=I.hok.fresh (ar _)
theorem Inv.sY(I:Inv X pins σ H s)(hH:H l=some (.lst xs)):xs.length<=sizeLine/\∃(its:List Value)(n:Nat),bC xs its/\xs.length=its.length/\s.heap.get? l=some {cls:=.type "list",data:=.seq its.toArray n}:=by
 obtain⟨z,its,n,r,e⟩:=I.hok l _ hH;exact⟨z,its,n,r,r.length,e⟩
theorem uL{n:Nat}(h:n<=sizeLine):ez n=false:=by
 unfold ez;exact decide_eq_false (by omega)
end
section
variable {X:Cx}
noncomputable def xn:V->List V->Hp->VK->Prop:=fun x vs H Q=>∃l xs y,x=.ref l/\vs=[y]/\H l=some (.lst xs)/\xs.length<sizeLine/\Q .non (upd H l (.lst (xs++[y])))
theorem yJ:MtM X "list.append" xn:=by
 intro pins s σ H x vs v us Q I rx rv h;obtain⟨l,xs,y,rfl,rfl,hH,hz,q⟩:=h;cases rx;obtain⟨u,rfl,ru⟩:=rv.one;obtain⟨z,its,n,r,hl,e⟩:=I.sY hH;refine jq F.slot_list_append ⟨_,e,rfl⟩ F.entry_list_append (F.args_list_append_2 _ _) (PySem.list_append l its.toArray n u (by rw[ax];omega)) ⟨e,?_⟩;refine⟨.non,_,I.lset (its':=its++[u]) hH e (by simp) (r.append (.cons ru .nil)) ?_,rfl,q⟩;rw[aA,bJ];omega
noncomputable def xk:V->List V->Hp->VK->Prop:=fun x vs H Q=>∃l b xs zs,x=.ref l/\vs=[.ref b]/\H l=some (.lst xs)/\H b=some (.lst zs)/\xs.length+zs.length<=sizeLine/\Q .non (upd H l (.lst (xs++zs)))
theorem yI:MtM X "list.extend" xk:=by
 intro pins s σ H x vs v us Q I rx rv h;obtain⟨l,b,xs,zs,rfl,rfl,hH,hB,hz,q⟩:=h;cases rx;obtain⟨u,rfl,ru⟩:=rv.one;cases ru;obtain⟨z,its,n,r,hl,e⟩:=I.sY hH;obtain⟨z2,its2,n2,r2,hl2,e2⟩:=I.sY hB;have hsz:its.toArray.size+its2.toArray.size<=sizeLine:=by rw[ax,ax];omega
 have hlong:¬(!its.toArray.isEmpty&&ez (its.toArray.size+its2.toArray.size))=true:=by
  rw[uL hsz,dk];exact aQ
 refine jq F.slot_list_extend ⟨_,e,rfl⟩ F.entry_list_extend (F.args_list_extend_2 _ _)
  (AutoSeq1.list_extend_list_list_0 l its.toArray n b its2.toArray n2 hlong (by rw[ax];omega) (by omega)) ⟨e,e2,?_⟩
 refine⟨.non,_,I.lset (its':=its++its2) hH e (by simp) (r.append r2) ?_,rfl,q⟩;rw[aA];omega
noncomputable def rPop:V->List V->Hp->VK->Prop:=fun x vs H Q=>∃l xs y,x=.ref l/\vs=[]/\H l=some (.lst xs)/\xs[xs.length-1]? =some y/\Q y (upd H l (.lst xs.dropLast))
theorem mt_pop:MtM X "list.pop" rPop:=by
 intro pins s σ H x vs v us Q I rx rv h;obtain⟨l,xs,y,rfl,rfl,hH,hy,q⟩:=h;cases rx;have hus:=rv.zero;subst hus;obtain⟨z,its,n,r,hl,e⟩:=I.sY hH;obtain⟨u,hu,ru⟩:=r.get hy;have hy':its.toArray[its.toArray.size-1]? =some u:=by
  show its.toArray[its.length-1]? =some u;rw[<-km,<-hl];exact hu
 refine jq F.slot_list_pop ⟨_,e,rfl⟩ F.entry_list_pop (F.args_list_pop_1 _) (MeetsSeq.list_pop_last l its.toArray n u hy' (by rw[ax];omega)) ⟨e,?_⟩;refine⟨y,_,I.lset (its':=its.dropLast) hH e ?_ r.dropLast ?_,ru,q⟩
 ·show its.toArray.eraseIdxIfInBounds (its.toArray.size-1)=its.dropLast.toArray
  rw[ax,qm,wH]
 ·rw[List.length_dropLast]
  omega
noncomputable def AJ:V->List V->Hp->VK->Prop:=fun x vs H Q=>∃l xs i k y,x=.ref l/\vs=[.int i]/\H l=some (.lst xs)∧-(2^63)<=i/\i<2^63/\seqIndex? i xs.length=some k/\xs[k]? =some y/\Q y (upd H l (.lst (xs.eraseIdx k)))
theorem Bn:MtM X "list.pop" AJ:=by
 intro pins s σ H x vs v us Q I rx rv h;obtain⟨l,xs,i,k,y,rfl,rfl,hH,h1,h2,hk,hy,q⟩:=h;cases rx;obtain⟨u,rfl,ru⟩:=rv.one;obtain⟨t,rfl⟩:=ru;obtain⟨z,its,n,r,hl,e⟩:=I.sY hH;obtain⟨w,hw,rw'⟩:=r.get hy;refine jq F.slot_list_pop ⟨_,e,rfl⟩ F.entry_list_pop (F.args_list_pop_2 _ _)
  (MeetsSeq.list_pop_at l its.toArray n i t k w (fitsIndex_both h1 h2) (by rw[ax,<-hl];exact hk) (by rw[<-km];exact hw) (by rw[ax];omega)) ⟨e,?_⟩
 refine⟨y,_,I.lset (its':=its.eraseIdx k) hH e ?_ (r.eraseIdx k) ?_,rw',q⟩
 ·show its.toArray.eraseIdxIfInBounds k=(its.eraseIdx k).toArray
  rw[qm]
 ·have :=rl xs k
  omega
noncomputable def rReverse:V->List V->Hp->VK->Prop:=fun x vs H Q=>∃l xs,x=.ref l/\vs=[]/\H l=some (.lst xs)/\Q .non (upd H l (.lst xs.reverse))
noncomputable def rClear:V->List V->Hp->VK->Prop:=fun x vs H Q=>∃l xs,x=.ref l/\vs=[]/\H l=some (.lst xs)/\Q .non (upd H l (.lst []))
noncomputable def rCat:R2:=fun x y H Q=>∃l b xs zs,x=.ref l/\y=.ref b/\H l=some (.lst xs)/\H b=some (.lst zs)/\xs.length+zs.length<=sizeLine/\∀p,H p=none->Q (.ref p) (upd H p (.lst (xs++zs)))
theorem op_cat:OpR X (cO .Add) rCat:=by
 intro pins s σ H x y v u Q I rx ry h;obtain⟨l,b,xs,zs,rfl,rfl,hH,hB,hz,q⟩:=h;cases rx;cases ry;obtain⟨z,its,n,r,hl,e⟩:=I.sY hH;obtain⟨z2,its2,n2,r2,hl2,e2⟩:=I.sY hB;refine PySem.P.add_list e e2 ?_ (by rw[ax,ax];omega);have ea:its.toArray++its2.toArray=(its++its2).toArray:=by simp
 rw[ea];exact⟨.ref _,_,I.lnew (t':=s.toks) (r.append r2) (by rw[aA];omega),rfl,q _ I.fresh⟩
noncomputable def rRep:R2:=fun x y H Q=>∃l k xs,x=.ref l/\y=.int k/\H l=some (.lst xs)∧-(2^63)<=k/\k<2^63/\xs.length*k.toNat<=sizeLine/\
 ∀p,H p=none->Q (.ref p) (upd H p (.lst (bq k.toNat xs).flatten))
theorem len_rep{α:Type}(xs:List α)(k:Nat):(bq k xs).flatten.length=k*xs.length:=by
 induction k with
 |zero=>simp
 |succ k ih=>rw[dI,i7,aA,ih,Nat.succ_mul,Nat.add_comm]
theorem op_rep:OpR X (cO .Mult) rRep:=by
 intro pins s σ H x y v u Q I rx ry h;obtain⟨l,k,xs,rfl,rfl,hH,h1,h2,hz,q⟩:=h;cases rx;obtain⟨t,rfl⟩:=ry;obtain⟨z,its,n,r,hl,e⟩:=I.sY hH;have hlen:its.toArray.size*k.toNat<=sizeLine:=by rw[ax,<-hl];exact hz
 have hcap:¬its.toArray.size*k.toNat>(2^63-1)/8:=by
  have :(sizeLine:Nat)<=(2^63-1)/8:=by decide
  omega
 have hfit:¬(!Builtin.List.listFitsIndex k)=true:=by
  rw[fitsIndex_both h1 h2];exact aQ
 have hlong:¬ez (its.toArray.size*k.toNat)=true:=by
  rw[uL hlen];exact aQ
 have hnew:List.foldl (fun x1 x2=>x1++x2) #[] (bq (if its.toArray.isEmpty=true then 0 else k.toNat) its.toArray)=(bq k.toNat its).flatten.toArray:=by
  have f0:∀m:Nat,List.foldl (fun x1 x2=>x1++x2) #[] (bq m its.toArray)=(bq m its).flatten.toArray:=fun m=>by
   have :=foldl_rep its m []
   rw[r8]at this;exact this
  rw[f0];cases its with
  |nil=>simp
  |cons a r'=>rw[if_neg (by simp)]
 refine wpAny_binaryOp_repeat_ref (T:="list") (U:="int") (by decide) ⟨_,e,rfl⟩ (fun s'=>typeIs_int s' k t) noFill_list_mul F.fills_int_mul F.slot_int_rmul repeat_list F.slot_int_index.lookup
  (jq F.slot_int_rmul (typeIs_int s k t) F.entry_int_rmul (F.args_int_rmul_2 _ _) (int___rmul___int_list k t l its.toArray n)
   ⟨e,rfl,⟨_,e,rfl⟩,jq F.slot_list_mul ⟨_,e,rfl⟩ F.entry_list_mul (F.args_list_mul_2 _ _) (AutoListH.list___mul___list_int_3 l its.toArray n k t hfit hcap hlong) ⟨e,?_⟩⟩)
 rw[hnew];exact⟨.ref _,_,I.lnew (t':=s.toks) (r.rep k.toNat) (by rw[len_rep,Nat.mul_comm];exact hz),rfl,q _ I.fresh⟩
end
section
variable {κ:Type}[DecidableEq κ]
noncomputable def jk(kvs:List (κ×V))(k:κ):Option V:=(kvs.find? fun kv=>decide (kv.1=k)).map (·.2)
noncomputable def putK(kvs:List (κ×V))(k:κ)(v:V):List (κ×V):=
 if(kvs.any fun kv=>decide (kv.1=k))=true then kvs.map (fun kv=>if kv.1=k then(kv.1,v)else kv)else kvs++[(k,v)]
theorem oK{p:κ×V}{r:List (κ×V)}{k:κ}(e:p.1=k):jk (p::r) k=some p.2:=by simp[jk,cq,e]
theorem oM{p:κ×V}{r:List (κ×V)}{k:κ}(e:¬p.1=k):jk (p::r) k=jk r k:=by simp[jk,cq,e]
theorem ui(k:κ):∀kvs:List (κ×V),(kvs.any fun kv=>decide (kv.1=k))=(jk kvs k).isSome
 | []=>rfl
 |p::r=>by
  rw[jj];by_cases e:p.1=k
  ·simp only[oK e,decide_eq_true e,Bool.true_or,zD]
  ·rw[oM e,decide_eq_false e,Bool.false_or];exact ui k r
theorem jB(kvs:List (κ×V))(k:κ)(v:V):(putK kvs k v).length<=kvs.length+1:=by
 unfold putK;split
 ·rw[ae];omega
 ·rw[aA,bg,dw];omega
theorem mf.iL{o:Option V}{u:Option Value}(r:mf o u):o.isSome=u.isSome:=by
 cases o with
 |none=>cases u with
  |none=>rfl
  |some _=>exact(show False from r).elim
 |some _=>cases u with
  |none=>exact(show False from r).elim
  |some _=>rfl
theorem mf.getD{o:Option V}{u:Option Value}{d:V}{d':Value}(r:mf o u)(rd:RelV d d'):RelV (o.getD d) (u.getD d'):=by
 cases o with
 |none=>cases u with
  |none=>exact rd
  |some _=>exact(show False from r).elim
 |some _=>cases u with
  |none=>exact(show False from r).elim
  |some _=>exact r
theorem KV.val{kvs:List (κ×V)}{vs:List (κ×Value)}(r:KV kvs vs)(k:κ):mf (jk kvs k) (tQ vs k):=by
 unfold KV at r
 induction r with
 |nil=>exact True.intro
 | @cons p q ps qs h t ih=>
  obtain⟨h1,h2⟩:=h;by_cases e:p.1=k
  ·have e':q.1=k:=h1.symm.trans e
   have b:tQ (q::qs) k=some q.2:=by simp[tQ,cq,e']
   rw[oK e,b];exact h2
  ·have e':¬q.1=k:=fun z=>e (h1.trans z)
   have b:tQ (q::qs) k=tQ qs k:=by simp[tQ,cq,e']
   rw[oM e,b];exact ih
theorem KV.any{kvs:List (κ×V)}{vs:List (κ×Value)}(r:KV kvs vs)(k:κ):(kvs.any fun kv=>decide (kv.1=k))=vs.any fun kv=>decide (kv.1=k):=by
 unfold KV at r
 induction r with
 |nil=>rfl
 |cons h t ih=>rw[jj,jj,ih,h.1]
theorem KV.sG{kvs:List (κ×V)}{vs:List (κ×Value)}(r:KV kvs vs)(k:κ){y:V}{u:Value}(ry:RelV y u):
  KV (kvs.map fun kv=>if kv.1=k then(kv.1,y)else kv) (vs.map fun kv=>if kv.1=k then(kv.1,u)else kv):=by
 unfold KV at r⊢
 induction r with
 |nil=>exact .nil
 | @cons p q ps qs h t ih=>
  rw[aY,aY];refine .cons ?_ ih;obtain⟨h1,h2⟩:=h;by_cases e:p.1=k
  ·rw[if_pos e,if_pos (h1.symm.trans e)];exact⟨h1,ry⟩
  ·rw[if_neg e,if_neg (fun z=>e (h1.trans z))];exact⟨h1,h2⟩
theorem KV.put{kvs:List (κ×V)}{vs:List (κ×Value)}(r:KV kvs vs)(k:κ){y:V}{u:Value}(ry:RelV y u):KV (putK kvs k y) (stored vs k u):=by
 unfold putK stored;rw[r.any k];by_cases e:(vs.any fun kv=>decide (kv.1=k))=true
 ·rw[if_pos e,if_pos e];exact r.sG k ry
 ·rw[if_neg e,if_neg e];exact Paired.snoc r ⟨rfl,ry⟩
theorem KV.keys{kvs:List (κ×V)}{vs:List (κ×Value)}(r:KV kvs vs):kvs.map (·.1)=vs.map (·.1):=by
 unfold KV at r
 induction r with
 |nil=>rfl
 |cons h t ih=>rw[aY,aY,ih,h.1]
theorem KV.length{kvs:List (κ×V)}{vs:List (κ×Value)}(r:KV kvs vs):kvs.length=vs.length:=mq r
end
theorem jC{P:Program}{w:World}{k:Key}{u:Value}(r:RelV (kV k) u):(bo P w).is k u=true:=by
 cases k with
 |inl i=>obtain⟨t,e⟩:=(show ∃t,u=vC i t from r);subst e;exact uQ P w i t
 |inr x=>obtain⟨t,e⟩:=(show ∃t,u=qh x t from r);subst e;exact m9 P w x t
theorem rq{P:Program}{w:World}:∀{ks:List Key}{us:List Value},bC (ks.map kV) us->ItemsAre (bo P w) ks us
 | [],_,r=>by rw[oH]at r;cases r;exact .nil
 |k::ks,_,r=>by
  rw[aY]at r;cases r with
  |cons h t=>exact .cons (jC h) (rq t)
noncomputable abbrev KT(H:Hp):List (List Key×V)->List (List Key×Addr×Value)->Prop:=Paired fun p q=>p.1=q.1/\H q.2.1=some (.tup (p.1.map kV))/\RelV p.2 q.2.2
theorem KT.val{H:Hp}{kvs:List (List Key×V)}{xs:List (List Key×Addr×Value)}(r:KT H kvs xs)(k:List Key):mf (jk kvs k) ((atKey xs k).map (·.2)):=by
 induction r with
 |nil=>exact True.intro
 | @cons p q ps qs h t ih=>
  obtain⟨h1,_,h2⟩:=h;by_cases e:p.1=k
  ·have e':q.1=k:=h1.symm.trans e
   have b:atKey (q::qs) k=some q.2:=by simp[atKey,cq,e']
   rw[oK e,b];exact h2
  ·have e':¬q.1=k:=fun z=>e (h1.trans z)
   have b:atKey (q::qs) k=atKey qs k:=by simp[atKey,cq,e']
   rw[oM e,b];exact ih
theorem KT.sG{H:Hp}{kvs:List (List Key×V)}{xs:List (List Key×Addr×Value)}(r:KT H kvs xs)(k:List Key){y:V}{u:Value}(ry:RelV y u):
  KT H (kvs.map fun kv=>if kv.1=k then(kv.1,y)else kv) (xs.map (putAt k u)):=by
 induction r with
 |nil=>exact .nil
 | @cons p q ps qs h t ih=>
  rw[aY,aY];refine .cons ?_ ih;obtain⟨h1,h2,h3⟩:=h;unfold putAt;by_cases e:p.1=k
  ·rw[if_pos e,if_pos (h1.symm.trans e)];exact⟨h1,h2,ry⟩
  ·rw[if_neg e,if_neg (fun z=>e (h1.trans z))];exact⟨h1,h2,h3⟩
theorem KT.put{H:Hp}{kvs:List (List Key×V)}{xs:List (List Key×Addr×Value)}(r:KT H kvs xs)(k:List Key){b:Addr}{y:V}{u:Value}(hb:H b=some (.tup (k.map kV)))(ry:RelV y u):
  KT H (putK kvs k y) (storedH xs k b u):=by
 have e:(kvs.any fun kv=>decide (kv.1=k))=(atKey xs k).isSome:=by
  rw[ui,(r.val k).iL,nQ]
 unfold putK storedH;rw[e];by_cases q:(atKey xs k).isSome=true
 ·rw[if_pos q,if_pos q];exact r.sG k ry
 ·rw[if_neg q,if_neg q];exact Paired.snoc r ⟨rfl,hb,ry⟩
theorem KT.keeps{H H':Hp}{kvs:List (List Key×V)}{xs:List (List Key×Addr×Value)}(r:KT H kvs xs)(ht:∀b ys,H b=some (.tup ys)->H' b=some (.tup ys)):KT H' kvs xs:=
 Paired.lG r fun _ _ z=>⟨z.1,ht _ _ z.2.1,z.2.2⟩
section
variable {P:Program}{w:World}{H:Hp}{h:Heap}{a:Addr}
theorem rd_of{u:HO}(ok:HOk P w H h)(e:Rd H a u):cF P w H h a u:=e.ok ok
theorem jG{kvs:List (Key×V)}(ok:HOk P w H h)(e:Rd H a (.dK kvs)):kvs.length<=sizeLine/\(a==cT)=false/\∃vs,KV kvs vs/\h.DictOf (bo P w) a vs:=
 show cF P w H h a (.dK kvs)from rd_of ok e
theorem BL{kvs:List (Key×V)}(ok:HOk P w H h)(e:H a=some (.dK kvs)):kvs.length<=sizeLine/\(a==cT)=false/\∃vs,KV kvs vs/\h.DictOf (bo P w) a vs:=jG ok (.inl e)
theorem kM{ks:List Key}(ok:HOk P w H h)(e:H a=some (.tup (ks.map kV))):(kZ (bo P w)).is h ks a:=by
 obtain⟨_,its,r,o,h1,h2,n,h3⟩:=(show cF P w H h a (.tup (ks.map kV))from ok a _ e);exact⟨o,its.toArray,n,h1,h2,h3,by simpa using rq r⟩
theorem ni{kvs:List (List Key×V)}(ok:HOk P w H h)(e:Rd H a (.dT kvs)):kvs.length<=sizeLine/\(a==cT)=false/\
  ∃xs,KT H kvs xs/\h.DictOfH (kZ (bo P w)) a xs:=by
 obtain⟨z,y,xs,r,o,es,ep,h1,h2,h3,h4,h5⟩:=(show cF P w H h a (.dT kvs)from rd_of ok e);refine⟨z,y,xs,r,o,es,ep,h1,h2,h3,h4,fun x hx=>?_,h5⟩;have all:∀{l:List (List Key×V)}{m:List (List Key×Addr×Value)},KT H l m->∀x∈m,(kZ (bo P w)).is h x.1 x.2.1:=by
  intro l m q
  induction q with
  |nil=>intro x hx;exact nomatch hx
  | @cons p q ps qs hq t ih=>
   intro x hx;rcases aI.mp hx with e|hx
   ·subst e
    exact kM ok (by rw[<-hq.1];exact hq.2.1)
   ·exact ih x hx
 exact all r x hx
theorem dt_of{kvs:List (List Key×V)}(ok:HOk P w H h)(e:H a=some (.dT kvs)):kvs.length<=sizeLine/\(a==cT)=false/\
  ∃xs,KT H kvs xs/\h.DictOfH (kZ (bo P w)) a xs:=ni ok (.inl e)
end
noncomputable def kc(H:Hp)(a:Addr)(y:V)(r:Option V):Prop:=
 (∃kvs k,Rd H a (.dK kvs)/\y=kV k/\r=jk kvs k)\/∃kvs k b,Rd H a (.dT kvs)/\y=.ref b/\H b=some (.tup (k.map kV))/\r=jk kvs k
noncomputable def tO(H:Hp)(a:Addr)(y v:V)(H':Hp):Prop:=
 (∃kvs k,H a=some (.dK kvs)/\y=kV k/\kvs.length<sizeLine/\H'=upd H a (.dK (putK kvs k v)))\/
 ∃kvs k b,H a=some (.dT kvs)/\y=.ref b/\H b=some (.tup (k.map kV))/\kvs.length<sizeLine/\H'=upd H a (.dT (putK kvs k v))
theorem tO.k{H:Hp}{a:Addr}{kvs:List (Key×V)}{k:Key}{v:V}(e:H a=some (.dK kvs))(hl:kvs.length<sizeLine):tO H a (kV k) v (upd H a (.dK (putK kvs k v))):=.inl ⟨kvs,k,e,rfl,hl,rfl⟩
section
variable {X:Cx}{pins:List (Addr×Obj)}{σ:St}{H:Hp}{s:Shared}{a:Addr}{y v:V}{u r:Value}{o:Option V}{A:Around}{E:Value->Shared->Prop}
theorem Inv.big(I:Inv X pins σ H s):cT<s.heap.objs.size:=by
 have h:bL<s.heap.objs.size:=(I.mod.glob.keeps I.bk).lt;exact eV (by decide) h
theorem yT{Q:Value->Shared->Prop}(hu:A.units+1<cLine)(I:Inv X pins σ H s)(g:kc H a y (some v))(ry:RelV y u)(h:∀w' s',Inv X pins σ H s'->RelV v w'->Q w' s'):
  wpAny (model X.prog X.w) A (xV (.ref a) u) Q E s:=by
 rcases g with⟨kvs,k,e,ey,l⟩ |⟨kvs,k,b,e,ey,eb,l⟩
 ·subst ey
  obtain⟨z,hd,vs,rel,dd⟩:=jG I.hok e;obtain⟨w',hw,rw'⟩:=mf.some_of (v:=v) (o:=tQ vs k) (by rw[l];exact rel.val k);exact wpAny_getItem_of (jC ry) dd.mapOf hw (h w' _ (I.tok _) rw')
 ·subst ey
  cases(show u=bA b from ry);obtain⟨z,hd,xs,rel,dd⟩:=ni I.hok e;obtain⟨w',hw,rw'⟩:=mf.some_of (v:=v) (o:=(atKey xs k).map (·.2)) (by rw[l];exact rel.val k);obtain⟨p,hp,hp2⟩:=fN.mp hw;refine wpAny_getItem_heap (ed hu) (kM I.hok eb) dd hp ?_;rw[hp2];exact h w' _ (I.tok _) rw'
theorem d_in{Q:Value->Shared->Prop}(hu:A.units+1<cLine)(I:Inv X pins σ H s)(g:kc H a y o)(ry:RelV y u)(h:∀s',Inv X pins σ H s'->Q (.bool o.isSome) s'):
  wpAny (model X.prog X.w) A (b9 .In u (.ref a)) Q E s:=by
 rcases g with⟨kvs,k,e,ey,l⟩ |⟨kvs,k,b,e,ey,eb,l⟩
 ·subst ey
  obtain⟨z,hd,vs,rel,dd⟩:=jG I.hok e;refine wpAny_in_of (jC ry) hd dd.mapOf ?_;rw[<-(rel.val k).iL,<-l];exact h _ (I.tok _)
 ·subst ey
  cases(show u=bA b from ry);obtain⟨z,hd,xs,rel,dd⟩:=ni I.hok e;refine wpAny_in_heap (ed hu) (kM I.hok eb) hd dd ?_;have q:=(rel.val k).iL;rw[nQ]at q;rw[<-q,<-l];exact h _ (I.tok _)
theorem d_notIn{Q:Value->Shared->Prop}(hu:A.units+1<cLine)(I:Inv X pins σ H s)(g:kc H a y o)(ry:RelV y u)(h:∀s',Inv X pins σ H s'->Q (.bool (!o.isSome)) s'):
  wpAny (model X.prog X.w) A (b9 .NotIn u (.ref a)) Q E s:=by
 rcases g with⟨kvs,k,e,ey,l⟩ |⟨kvs,k,b,e,ey,eb,l⟩
 ·subst ey
  obtain⟨z,hd,vs,rel,dd⟩:=jG I.hok e;refine wpAny_notIn_of (jC ry) hd dd.mapOf ?_;rw[<-(rel.val k).iL,<-l];exact h _ (I.tok _)
 ·subst ey
  cases(show u=bA b from ry);obtain⟨z,hd,xs,rel,dd⟩:=ni I.hok e;refine wpAny_notIn_heap (ed hu) (kM I.hok eb) hd dd ?_;have q:=(rel.val k).iL;rw[nQ]at q;rw[<-q,<-l];exact h _ (I.tok _)
theorem tq{h':Heap}{t':Nat}{ob:HO}(I:Inv X pins σ H s)(mu:Mut (H a))(hs:dA a s.heap h')(he:∃q,h'.get? a=some q)(new:cF X.prog X.w (upd H a ob) h' a ob):
  Inv X pins σ (upd H a ob) {s with heap:=h',toks:=t'}:=
 I.write (x:=a) (e:=a) mu (.inl rfl) (fun b q hb z=>(hs.2 b hb).trans z) he new
theorem BN{P:Program}{w:World}{H':Hp}{h':Heap}{kvs:List (Key×V)}{vs:List (Key×Value)}(z:kvs.length<=sizeLine)(hd:(a==cT)=false)(rel:KV kvs vs)(dd:h'.DictOf (bo P w) a vs):
  cF P w H' h' a (.dK kvs):=⟨z,hd,vs,rel,dd⟩
theorem yS{H':Hp}{Q:Unit->Shared->Prop}(hu:A.units+1<cLine)(I:Inv X pins σ H s)(g:tO H a y v H')(ry:RelV y u)(rv:RelV v r)(h:∀s',Inv X pins σ H' s'->Q () s'):
  wpAny (model X.prog X.w) A (setItem (.ref a) u r) Q E s:=by
 rcases g with⟨kvs,k,e,ey,l,eH⟩ |⟨kvs,k,b,e,ey,eb,l,eH⟩
 ·subst ey eH
  obtain⟨z,hd,vs,rel,dd⟩:=BL I.hok e;have hz:vs.length<=sizeLine:=by rw[<-rel.length];exact z
  have hl:(putK kvs k v).length<=sizeLine:=by have :=jB kvs k v;omega
  refine wpAny_setItem_pairs (hsz:=hz) (jC ry) dd fun h' dd' hs=>h _ ?_;have he:∃q,h'.get? a=some q:=let⟨q,_,_,hq,_⟩:=dd';⟨q,hq⟩;exact tq I (by rw[e];exact True.intro) hs he (BN hl hd (rel.put k rv) dd')
 ·subst ey eH
  cases(show u=bA b from ry);obtain⟨z,hd,xs,rel,dd⟩:=dt_of I.hok e;have hz:xs.length<=sizeLine:=by rw[<-mq rel];exact z
  have hl:(putK kvs k v).length<=sizeLine:=by have :=jB kvs k v;omega
  refine wpAny_setItem_heap (hsz:=hz) (ed hu) (kM I.hok eb) dd fun h' dd' hs=>h _ ?_;obtain⟨q,es,ep,hq,h2,h3,h4,_,h5⟩:=dd';refine tq I (by rw[e];exact True.intro) hs ⟨q,hq⟩ ⟨hl,hd,_,(rel.put k eb rv).keeps fun c ys ec=>?_,q,es,ep,hq,h2,h3,h4,h5⟩;rw[aH (gc ec e (fun z=>nomatch z))];exact ec
end
section
variable {X:Cx}{pins:List (Addr×Obj)}{σ:St}{H:Hp}{s:Shared}{a:Addr}{kvs:List (Key×V)}{k:Key}{u:Value}{A:Around}{E:Value->Shared->Prop}
theorem d_len{Q:Value->Shared->Prop}(I:Inv X pins σ H s)(e:Rd H a (.dK kvs))(h:∀t s',Inv X pins σ H s'->Q (.int kvs.length t) s'):wpAny (model X.prog X.w) A (call (.builtin "len") [.ref a]) Q E s:=by
 obtain⟨z,hd,vs,rel,dd⟩:=jG I.hok e;refine call_len_dict hd dd (by rw[<-rel.length];rw[oi]at z;omega) ?_;rw[<-rel.length];exact h _ _ (I.tok _)
end
noncomputable def NoSl(i:Expr):Prop:=∀ov iv,subscripted i false ov iv=operate [ov,iv] (xV ov iv)
theorem subD_of{prog:Program}{w:World}{A:Around}{E:Value->Shared->Prop}{s:Shared}{env:Env}{value slice:Expr}{pos:Pos}{T id:String}{Q:Value->Shared->Prop}
  (hl:zj (.type T) "__getitem__"=pure (some (.builtin id)))(hs:NoSl slice)
  (h:wpAny (model prog w) A (eval value env) (fun o s₁=>wpAny (model prog w) A (eval slice env) (fun i s₂=>s₂.TypeIs o T/\wpAny (model prog w) A (xV o i) Q E s₂) E s₁) E s):
  wpAny (model prog w) A (eval (.Subscript value slice pos) env) Q E s:=by
 refine zm (da h (fun o s₁ h₁=>da h₁ (fun i s₂ h₂=>?_) fun _ _ x=>x) fun _ _ x=>x);obtain⟨hT,h₂⟩:=h₂;unfold qq;refine af ?_;rw[getitemInPython_of_ne hT.not_modules];refine af (mr hT hl ?_);have fin:wpAny (model prog w) A (subscripted slice false o i) (fun r s₃=>wpAny (model prog w) A (letTemporaryGo value o r>>=fun _=>pure r) Q E s₃) E s₂:=by
  rw[hs o i];exact wpAny_operating (da h₂ (fun r s₃ h₃=>af (wpAny_letTemporaryGo (aj h₃))) fun _ _ x=>x)
 first
  |exact aj (af fin)
  |exact af (aj (af fin))
  |exact af fin
theorem u9{X:Cx}{pins:List (Addr×Obj)}{σ:St}{H:Hp}{s:Shared}{a:Addr}{y:V}{o:Option V}(I:Inv X pins σ H s)(g:kc H a y o):s.TypeIs (.ref a) "dict":=by
 rcases g with⟨kvs,k,e,_,_⟩ |⟨kvs,k,b,e,_,_,_⟩
 ·obtain⟨_,_,vs,_,dd⟩:=jG I.hok e
  exact dd.typeIs
 ·obtain⟨_,_,xs,_,dd⟩:=ni I.hok e
  exact dd.typeIs
noncomputable def z7(td ty:TE):TE:=fun σ H Q=>td σ H fun x H1=>ty σ H1 fun y H2=>∃a v,x=.ref a/\kc H2 a y (some v)/\Q v H2
noncomputable def tDIn(ty td:TE):TE:=fun σ H Q=>ty σ H fun y H1=>td σ H1 fun x H2=>∃a o,x=.ref a/\kc H2 a y o/\Q (.bl o.isSome) H2
noncomputable def ow(ty td:TE):TE:=fun σ H Q=>ty σ H fun y H1=>td σ H1 fun x H2=>∃a o,x=.ref a/\kc H2 a y o/\Q (.bl (!o.isSome)) H2
noncomputable def AF(td ty tv:TE):TS:=fun D σ H=>tv σ H fun v H1=>td σ H1 fun x H2=>ty σ H2 fun y H3=>∃a H4,x=.ref a/\tO H3 a y v H4/\D.nx σ H4
section
variable {X:Cx}{o i e value:Expr}{pos pos' tpos:Pos}{td ty tv:TE}
theorem pe_dget(hu:X.A.units+1<cLine)(ho:PE X o td)(hi:PE X i ty)(hs:NoSl i):PE X (.Subscript o i pos) (z7 td ty):=by
 intro pins s σ H Q I h;refine subD_of PySem.F.slot_dict_getitem.lookup hs (thn (ho pins s σ H _ I h) fun u s1 ⟨x,H1,I1,rx,q1⟩=>thn (hi pins s1 σ H1 _ I1 q1) fun iv s2 ⟨y,H2,I2,ry,a,v,ex,g,q2⟩=>?_);subst ex;obtain rfl:u=bA a:=rx;exact⟨u9 I2 g,yT hu I2 g ry fun w' s3 I3 rw'=>⟨v,H2,I3,rw',q2⟩⟩
theorem Bb(hu:X.A.units+1<cLine)(hi:PE X i ty)(ho:PE X o td):PC X .In i o (tDIn ty td):=by
 intro pins s σ H Q I h;refine thn (hi pins s σ H _ I h) fun iv s1 ⟨y,H1,I1,ry,q1⟩=>thn (ho pins s1 σ H1 _ I1 q1) fun u s2 ⟨x,H2,I2,rx,a,ov,ex,g,q2⟩=>?_;subst ex;obtain rfl:u=bA a:=rx;exact d_in hu I2 g ry fun s3 I3=>⟨.bl ov.isSome,H2,I3,rfl,q2⟩
theorem qZ(hu:X.A.units+1<cLine)(hi:PE X i ty)(ho:PE X o td):PC X .NotIn i o (ow ty td):=by
 intro pins s σ H Q I h;refine thn (hi pins s σ H _ I h) fun iv s1 ⟨y,H1,I1,ry,q1⟩=>thn (ho pins s1 σ H1 _ I1 q1) fun u s2 ⟨x,H2,I2,rx,a,ov,ex,g,q2⟩=>?_;subst ex;obtain rfl:u=bA a:=rx;exact d_notIn hu I2 g ry fun s3 I3=>⟨.bl (!ov.isSome),H2,I3,rfl,q2⟩
theorem ps_dput(hu:X.A.units+1<cLine)(ho:PE X o td)(hi:PE X i ty)(hv:PE X value tv)(hs:k6 value (some (.Subscript o i pos')) pos.line X.env=pure false):
  PS X (.Assign [.Subscript o i pos'] value pos) (AF td ty tv):=by
 intro pins s σ H D I h;refine wpAny_Assign_Subscript (thn (hv pins s σ H _ I h) fun r s1 ⟨v,H1,I1,rv,q1⟩=>thn (ho pins s1 σ H1 _ I1 q1) fun u s2 ⟨x,H2,I2,rx,q2⟩=>thn (hi pins s2 σ H2 _ I2 q2) fun iv s3 ⟨y,H3,I3,ry,a,H4,ex,g,q3⟩=>?_) hs;subst ex;obtain rfl:u=bA a:=rx;exact yS hu I3 g ry rv fun s4 I4=>⟨σ,H4,I4,q3⟩
end
theorem u7{P:Program}{w:World}{H:Hp}(h:Heap)(hb:cT<h.objs.size):cF P w H (h.push {cls:=.type "dict",data:=.dict #[]}) h.objs.size (.dK []):=
 ⟨aL _,beq_eq_false_iff_ne.mpr (cR (aD hb)),[],.nil,x5 h⟩
noncomputable def z0:TE:=fun _ H Q=>∀p,H p=none->Q (.ref p) (upd H p (.dK []))
noncomputable def tDNewT:TE:=fun _ H Q=>∀p,H p=none->Q (.ref p) (upd H p (.dT []))
section
variable {X:Cx}{pos:Pos}
theorem A3:PE X (.Dict [] [] pos) z0:=fun pins s σ H Q I h=>
 wpAny_Dict_empty ⟨.ref s.heap.objs.size,_,I.laid (a:=s.heap.objs.size) (o:=.dK []) (t':=s.toks) (fun _ _ q=>ag _ q) (ar _) (u7 s.heap I.big),rfl,h _ (I.hok.fresh (ar _))⟩
end
noncomputable def sh:List (TE×TE)->St->Hp->(List (V×V)->Hp->Prop)->Prop
 | [],_,H,Q=>Q [] H
 | (tk,tv)::r,σ,H,Q=>tk σ H fun x H1=>tv σ H1 fun y H2=>sh r σ H2 fun ps H3=>Q ((x,y)::ps) H3
noncomputable abbrev VV:List (V×V)->List (Value×Value)->Prop:=Paired fun p q=>RelV p.1 q.1/\RelV p.2 q.2
noncomputable def PPs(X:Cx)(pos:Pos)(keys:List (Option Expr))(values:List Expr)(trs:List (TE×TE)):Prop:=
 ∀(pins:List (Addr×Obj))(s:Shared)(σ:St)(H:Hp)(Q:List (V×V)->Hp->Prop),Inv X pins σ H s->sh trs σ H Q->
  wpAny (model X.prog X.w) X.A (evalPairs (pairTrees keys values X.env pos)) (fun vs s'=>∃ps H',Inv X pins σ H' s'/\VV ps vs/\Q ps H') X.xe s
theorem pps_nil{X:Cx}{pos:Pos}:PPs X pos [] [] []:=fun pins s σ H Q I h=>pairTrees_nil_walk ⟨[],H,I,.nil,h⟩
theorem AV{X:Cx}{pos:Pos}{k v:Expr}{ks:List (Option Expr)}{vs:List Expr}{tk tv:TE}{trs:List (TE×TE)}(hk:PE X k tk)(hv:PE X v tv)(hr:PPs X pos ks vs trs):
  PPs X pos (some k::ks) (v::vs) ((tk,tv)::trs):=fun pins s σ H Q I h=>
 pairTrees_cons_walk (thn (hk pins s σ H _ I h) fun u s1 ⟨x,H1,I1,rx,q1⟩=>thn (hv pins s1 σ H1 _ I1 q1) fun w2 s2 ⟨y,H2,I2,ry,q2⟩=>
  thn (hr pins s2 σ H2 _ I2 q2) fun ws s3 ⟨ps,H3,I3,rel,q3⟩=>⟨(x,y)::ps,H3,I3,.cons ⟨rx,ry⟩ rel,q3⟩)
noncomputable def pw(kvs more:List (Key×V)):List (Key×V):=more.foldl (fun acc kv=>putK acc kv.1 kv.2) kvs
theorem KV.merge:∀{more:List (Key×V)}{rs:List (Key×Value)}{kvs:List (Key×V)}{vs:List (Key×Value)},KV more rs->KV kvs vs->KV (pw kvs more) (merged vs rs):=by
 intro more rs kvs vs r;unfold KV at r
 induction r generalizing kvs vs with
 |nil=>intro q;exact q
 | @cons p q ps qs h t ih=>
  intro r0;have e:KV (putK kvs p.1 p.2) (stored vs q.1 q.2):=by
   have :=r0.put p.1 h.2
   rw[<-h.1];exact this
  exact ih e
theorem ko:∀(more kvs:List (Key×V)),(pw kvs more).length<=kvs.length+more.length
 | [],kvs=>by show kvs.length<=kvs.length+0;omega
 |p::r,kvs=>by
  have h1:=ko r (putK kvs p.1 p.2);have h2:=jB kvs p.1 p.2;show(pw (putK kvs p.1 p.2) r).length<=_;rw[bg];omega
theorem pT{P:Program}{w:World}:∀{kvs:List (Key×V)}{ws:List (Value×Value)},VV (kvs.map fun kv=>(kV kv.1,kv.2)) ws->∃rs,Carries (bo P w) ws rs/\KV kvs rs
 | [],_,r=>by rw[oH]at r;cases r;exact⟨[],True.intro,.nil⟩
 |p::kvs,_,r=>by
  rw[aY]at r;cases r with
  | @cons a b as bs h t=>
   obtain⟨rs,c,q⟩:=pT (P:=P) (w:=w) t;obtain⟨b1,b2⟩:=b;exact⟨(p.1,b2)::rs,⟨jC h.1,rfl,c⟩,.cons ⟨rfl,h.2⟩ q⟩
noncomputable def tDisp(trs:List (TE×TE)):TE:=fun σ H Q=>∀p,H p=none->sh trs σ (upd H p (.dK [])) fun ps H2=>H2 p=some (.dK [])/\∃kvs:List (Key×V),ps=kvs.map (fun kv=>(kV kv.1,kv.2))/\kvs.length<=15/\Q (.ref p) (upd H2 p (.dK (pw [] kvs)))
theorem pe_disp{X:Cx}{pos:Pos}{keys:List (Option Expr)}{values:List Expr}{trs:List (TE×TE)}(h:PPs X pos keys values trs)(hall:keys.all (·.isSome)=true)(hl:keys.length=values.length)(h0:keys≠[])
  (h15:keys.length<=15):PE X (.Dict keys values pos) (tDisp trs):=by
 intro pins s σ H Q I q;have hn:=I.hok.fresh (ar s.heap.objs.size);have I1:=I.laid (a:=s.heap.objs.size) (o:=.dK []) (h':=s.heap.push {cls:=.type "dict",data:=.dict #[]}) (t':=s.toks) (fun _ _ q=>ag _ q) (ar _) (u7 s.heap I.big);refine wpAny_Dict_walk (knd:=bo X.prog X.w) hall hl h0 h15 (thn (h pins _ σ _ _ I1 (q _ hn)) fun ws s2 ⟨ps,H2,I2,rel,e,kvs,ep,lk,q2⟩=>?_);subst ep;obtain⟨rs,c,rk⟩:=pT (P:=X.prog) (w:=X.w) rel;obtain⟨z,hd,vs0,r0,dd⟩:=BL I2.hok e;cases r0;refine⟨rs,c,dd,fun h' dd' hs=>⟨.ref s.heap.objs.size,_,?_,rfl,q2⟩⟩;have hz:(pw [] kvs).length<=sizeLine:=by
  have h1:=ko kvs [];rw[dw]at h1;rw[oi];omega
 have he:∃q,h'.get? s.heap.objs.size=some q:=let⟨q,_,_,hq,_⟩:=dd';⟨q,hq⟩;exact tq I2 (by rw[e];exact True.intro) hs he (BN hz hd (rk.merge .nil) dd')
structure M1(X:Cx)(o:Expr)(m:Str)(apos:Pos)(e:Expr)(cpos:Pos):Prop where
 base:hJ o m X.env (eval o X.env)=eval o X.env
 few:((backTo cpos (bu [e] X.env)).all (fun x=> !x.1)&&(backToKw cpos (keywordEach [] X.env)).all (fun x=>x.1.isSome)
  &&decide (([e]:List Expr).length+([]:List Keyword).length+(if([]:List Keyword).isEmpty then 0 else 1)<30))=true
 line:(apos.endLine==cpos.line)=true
 trees:backTo cpos (bu [e] X.env)=[(false,eval e X.env)]
structure M2(X:Cx)(o:Expr)(m:Str)(apos:Pos)(e f:Expr)(cpos:Pos):Prop where
 base:hJ o m X.env (eval o X.env)=eval o X.env
 few:((backTo cpos (bu [e,f] X.env)).all (fun x=> !x.1)&&(backToKw cpos (keywordEach [] X.env)).all (fun x=>x.1.isSome)
  &&decide (([e,f]:List Expr).length+([]:List Keyword).length+(if([]:List Keyword).isEmpty then 0 else 1)<30))=true
 line:(apos.endLine==cpos.line)=true
 trees:backTo cpos (bu [e,f] X.env)=[(false,eval e X.env),(false,eval f X.env)]
noncomputable def IsD(H:Hp)(a:Addr):Prop:=(∃kvs,Rd H a (.dK kvs))\/∃kvs,Rd H a (.dT kvs)
theorem By{X:Cx}{pins:List (Addr×Obj)}{σ:St}{H:Hp}{s:Shared}{a:Addr}(I:Inv X pins σ H s)(d:IsD H a):
  s.TypeIs (.ref a) "dict"/\(∀b,bA a=.ref b->∃ob,s.heap.get? b=some ob/\ob.dict=none)/\(a==cT)=false:=by
 rcases d with⟨kvs,e⟩ |⟨kvs,e⟩
 ·obtain⟨_,hd,vs,_,dd⟩:=jG I.hok e
  refine⟨dd.typeIs,fun b q=>?_,hd⟩;cases q;obtain⟨ob,_,_,h1,h2,_⟩:=dd;exact⟨ob,h1,h2.2.1⟩
 ·obtain⟨_,hd,xs,_,dd⟩:=ni I.hok e
  refine⟨dd.typeIs,fun b q=>?_,hd⟩;cases q;obtain⟨ob,_,_,h1,h2,_⟩:=dd;exact⟨ob,h1,h2.2.1⟩
section
variable {X:Cx}{pins:List (Addr×Obj)}{σ:St}{H:Hp}{s:Shared}{a:Addr}{y d:V}{u r:Value}{o:Option V}{A:Around}{E:Value->Shared->Prop}
theorem d_get1{Q:Value->Shared->Prop}(hu:A.units+1<cLine)(I:Inv X pins σ H s)(g:kc H a y o)(ry:RelV y u)(h:∀w' s',Inv X pins σ H s'->RelV (o.getD .non) w'->Q w' s'):
  wpAny (model X.prog X.w) A (call (.builtin "dict.get") [.ref a,u]) Q E s:=by
 rcases g with⟨kvs,k,e,ey,l⟩ |⟨kvs,k,b,e,ey,eb,l⟩
 ·subst ey
  obtain⟨z,hd,vs,rel,dd⟩:=jG I.hok e;refine mj dc dd.typeIs fJ (ub _ _) (meets_dict_get (bo X.prog X.w) a (jC ry) hd) ⟨_,dd.mapOf,h _ _ (I.tok _) ?_⟩;rw[l];exact(rel.val k).getD rfl
 ·subst ey
  cases(show u=bA b from ry);obtain⟨z,hd,xs,rel,dd⟩:=ni I.hok e;refine mj dc dd.typeIs fJ (ub _ _) (meetsH_dict_get (kZ (bo X.prog X.w)) a b hd) ⟨ed hu,k,xs,kM I.hok eb,dd,h _ _ (I.tok _) ?_⟩;rw[l];exact(rel.val k).getD rfl
theorem d_get2{Q:Value->Shared->Prop}(hu:A.units+1<cLine)(I:Inv X pins σ H s)(g:kc H a y o)(ry:RelV y u)(rd:RelV d r)(h:∀w' s',Inv X pins σ H s'->RelV (o.getD d) w'->Q w' s'):
  wpAny (model X.prog X.w) A (call (.builtin "dict.get") [.ref a,u,r]) Q E s:=by
 rcases g with⟨kvs,k,e,ey,l⟩ |⟨kvs,k,b,e,ey,eb,l⟩
 ·subst ey
  obtain⟨z,hd,vs,rel,dd⟩:=jG I.hok e;refine mj dc dd.typeIs fJ (ua _ _ _) (meets_dict_get_default (bo X.prog X.w) a (jC ry) hd r) ⟨_,dd.mapOf,h _ _ (I.tok _) ?_⟩;rw[l];exact(rel.val k).getD rd
 ·subst ey
  cases(show u=bA b from ry);obtain⟨z,hd,xs,rel,dd⟩:=ni I.hok e;refine mj dc dd.typeIs fJ (ua _ _ _) (meetsH_dict_get_default (kZ (bo X.prog X.w)) a b hd r) ⟨ed hu,k,xs,kM I.hok eb,dd,h _ _ (I.tok _) ?_⟩;rw[l];exact(rel.val k).getD rd
end
noncomputable def vS(td ty:TE):TE:=fun σ H Q=>td σ H fun x H1=>∃a,x=.ref a/\IsD H1 a/\ty σ H1 fun y H2=>∃o,kc H2 a y o/\Q (o.getD .non) H2
noncomputable def vR(td ty tx:TE):TE:=fun σ H Q=>td σ H fun x H1=>∃a,x=.ref a/\IsD H1 a/\ty σ H1 fun y H2=>tx σ H2 fun z H3=>∃o,kc H3 a y o/\Q (o.getD z) H3
section
variable {X:Cx}{o e f:Expr}{apos cpos:Pos}{td ty tx:TE}
theorem A5(hu:X.A.units+1<cLine)(ho:PE X o td)(he:PE X e ty)(m:M1 X o "get" apos e cpos):PE X (.Call (.Attribute o "get" apos) [e] [] cpos) (vS td ty):=by
 intro pins s σ H Q I h;refine wpAny_Call_method m.base m.few m.line i5 dc vH (thn (ho pins s σ H _ I h) fun u s1 ⟨x,H1,I1,rx,a,ex,d,q1⟩=>?_);subst ex;obtain rfl:u=bA a:=rx;obtain⟨t1,t2,_⟩:=By I1 d;refine⟨t1,t2,?_⟩;rw[m.trees];refine dX rfl (k8 (dW (thn (he pins s1 σ H1 _ I1 q1) fun iv s2 ⟨y,H2,I2,ry,ov,g,q2⟩=>ou ?_)));exact d_get1 hu I2 g ry fun w' s3 I3 rw'=>⟨_,H2,I3,rw',q2⟩
theorem A4(hu:X.A.units+1<cLine)(ho:PE X o td)(he:PE X e ty)(hf:PE X f tx)(m:M2 X o "get" apos e f cpos):PE X (.Call (.Attribute o "get" apos) [e,f] [] cpos) (vR td ty tx):=by
 intro pins s σ H Q I h;refine wpAny_Call_method m.base m.few m.line i5 dc vH (thn (ho pins s σ H _ I h) fun u s1 ⟨x,H1,I1,rx,a,ex,d,q1⟩=>?_);subst ex;obtain rfl:u=bA a:=rx;obtain⟨t1,t2,_⟩:=By I1 d;refine⟨t1,t2,?_⟩;rw[m.trees];refine dX rfl (k8 (dW (thn (he pins s1 σ H1 _ I1 q1) fun iv s2 ⟨y,H2,I2,ry,q2⟩=>
  dW (thn (hf pins s2 σ H2 _ I2 q2) fun fv s3 ⟨z,H3,I3,rz,ov,g,q3⟩=>ou ?_))))
 exact d_get2 hu I3 g ry rz fun w' s4 I4 rw'=>⟨_,H3,I4,rw',q3⟩
end
end L2
namespace Att
open PySem PySem.W PySem.Calls PyProof.Rows
theorem nZ{P:Params}{h:Heap}:∀(ns:List Int)(vs:List Value),WellAll P h vs (ns.map WData.int)->IntsAre vs ns:=by
 intro ns
 induction ns with
 |nil=>
  intro vs w;rw[oH]at w;cases w;exact .nil
 |cons n ns ih=>
  intro vs w;rw[aY]at w;cases w with
  |cons a b=>
   cases a;exact .cons _ _ (ih _ b)
theorem yk{l:OpenLaw}{n:Nat}(hn:l.most=some n){P:Params}{h:Heap}{args:List WData}{vals:List Value}
  (hpre:l.row.toRowW.claim.pre args=true)(hwl:WellAll P h vals args):
  ∃a vs ns,vals=[bA a]/\args=[WData.list (ns.map WData.int)]/\h.get? a=some {cls:=.type "list",data:=.seq vs.toArray}/\IntsAre vs ns/\ns.length<=n:=by
 have hsh:WShape.hasAll [] args [.list .int]=true:=(pre_splitW hpre).1;have hc:l.pre.holds [] {args:=args}=true:=(pre_splitW hpre).2;obtain⟨d,r,rfl,h1,h2⟩:=hasAllW_cons hsh;obtain rfl:=hasAllW_nil h2;obtain⟨xs,rfl,h3⟩:=hasW_list h1;obtain⟨ns,rfl⟩:=items_int h3;have hlen:ns.length<=n:=by
  unfold OpenLaw.pre at hc;have h4:(WTm.not (.lt (.lit (.int (n:Int))) (.len (.arg 0)))).holds [] {args:=[.list (ns.map .int)]}=true:=by
   have h4:=(holds_andW hc).1;rw[hn]at h4;exact h4
  have h5:=condW_of h4 (w_not (w_lt w_lit (w_len_list (w_arg rfl))));rw[ae]at h5;refine eW fun q=>?_;have q':(n:Int)<((ns.length:Nat):Int):=by omega
  first
   | (rw[decide_eq_true q']at h5;exact absurd h5 (by decide))
   | (simp at h5;omega)
 cases hwl with
 |cons w1 w2=>
  cases w2;cases w1 with
  |list ho hall=>exact⟨_,_,ns,rfl,rfl,ho,nZ ns _ hall,hlen⟩
theorem yq(l:OpenLaw)(args:List WData):l.row.toRowW.claim.post args (.bool true) args=true:=
 postW_of (r:=l.row.toRowW) (X:=(true==true))
  (show WShape.has [] (.bool true) .bool=true by first |rfl|decide|simp[WShape.has,WShape.arms,WShape.armsAll])
  (show(WTm.eq .res (.lit (.bool true))).value [] {args:=args,res:=some (.bool true),after:=args}=some (.bool (true==true))from w_eq_bool (w_res rfl) w_lit) rfl
theorem vk{l:OpenLaw}{n:Nat}{q:Program}{loose:List Str}{XP:(Str->Option Value)->Heap->Prop}{YP:World->Heap->Prop}{d:DefRec}
  (hn:l.most=some n)(hdf:d.params.defaults=[])
  (call:∀(w:World)(s₀ s₁:Shared)(mg mb:Str->Option Value)(fa:Addr)(o:Obj)(pm cd doc:Value)(a:Addr)(vs:List Value)(ns:List Int),
   Ground q loose [] XP w s₀ mg mb s₁.heap->YP w s₁.heap->
   s₁.heap.get? fa=some o->o.data=.func (docDef d.name d.params d.body d.scope pm cd doc)->s₁.heap.CodeRec cd d.name->mg d.name=some (.ref fa)->
   s₁.heap.get? a=some {cls:=.type "list",data:=.seq vs.toArray}->IntsAre vs ns->ns.length<=n->s₁.gens= #[]->
   i3 (model l.prog w) xW (.call (.ref fa) ⟨[.ref a],[]⟩) (fun r s'=>r=.ok (.ret (.bool true))/\OldK s₁.heap s'.heap/\s'.os=s₁.os/\j7 s'.gens) s₁):
  WalkO q loose XP YP l.row.toRowW d [] (fun f vs=>PySem.call f vs):=by
 intro w s₀ s₁ mg mb G Y fa o pm cd doc dV kV ho hd hcd hD hmg hg args vals as hpre hlay hrd hwl hlo;obtain rfl:dV=.none:=Dflts.none hD hdf;obtain rfl:kV=.none:=Dflts.noKw hD;obtain⟨a,vs,ns,rfl,rfl,hobj,hints,hlen⟩:=yk hn hpre hwl;refine enter_call (i0 (call w s₀ s₁ mg mb fa o pm cd doc a vs ns G Y ho (fd_plain hd) hcd hmg hobj hints hlen hg) fun r s' hq=>?_);obtain⟨rfl,h2,h3,h4⟩:=hq;exact⟨.inl ⟨.bool true,.bool true,[],rfl,fun _=>rfl,.bool true,yq l _,fun _=>⟨kl,fun _ hm=>(nomatch hm)⟩⟩,h2,h3,h4⟩
end Att
namespace L2
open PySem PySem.Spec PyProof.Rows
theorem qQ:∀{vs:List Value}{ns:List Int},IntsAre vs ns->bC (ns.map V.int) vs
 |_,_,.nil=>.nil
 |_,_,.cons n t h=>.cons ⟨t,rfl⟩ (qQ h)
noncomputable def bB(s:Stmt):Arguments:=match s with
 |.FunctionDef _ a _ _ _ _ _ _ _ _=>a
 |_=>{posonlyargs:=[],args:=[],vararg:=none,kwonlyargs:=[],kw_defaults:=[],kwarg:=none,defaults:=[]}
noncomputable def bp(s:Stmt):List Stmt:=match s with
 |.FunctionDef _ _ b _ _ _ _ _ _ _=>b
 |_=>[]
noncomputable def aO(s:Stmt):Scope:=match s with
 |.FunctionDef _ _ _ _ _ _ sc _ _ _=>sc
 |_=>{kind:=.function,names:=[],isGenerator:=false,isCoroutine:=false}
noncomputable abbrev CX0:CXT:=fun _ _ _ _ _ _=>False
noncomputable abbrev E0:XK:=fun _ _ _=>False
structure Fun(K:aa)(x qual:Str)(st:Stmt)(f:Addr)(fd:fj):Prop where
 ex:∃(oc:Value)(od:Option Addr)(kV doc pm:Value)(an:Option Addr)(cdv ct:Value)(osl:Array (Option Value)),
  fd=aJ x qual (bB st) (bp st) (aO st) .none kV doc pm an cdv ct/\K.lookup f=some ⟨oc,od,.func fd,osl⟩/\dE K cdv qual=true
 kp:bW K (.ref f)=true
section
variable {P:Program}{w:World}{K:aa}{mg:Str->Option Value}{base:Heap}
theorem Fun.binds{x qual:Str}{st:Stmt}{f:Addr}{fd:fj}{ps:List Str}(F:Fun K x qual st f fd)
  (h:∀(kV doc pm:Value)(an:Option Addr)(cdv ct:Value)(us:List Value),us.length=ps.length->bindArgs (aJ x qual (bB st) (bp st) (aO st) .none kV doc pm an cdv ct) ⟨us,[]⟩=pure (ps.zip us)):Binds K fd ps []:=by
 obtain⟨oc,od,kV,doc,pm,an,cdv,ct,osl,rfl,lk,hcd⟩:=F.ex;exact .all (h kV doc pm an cdv ct)
theorem BF{x qual:Str}{st:Stmt}{f:Addr}{oc:Value}{od an:Option Addr}{osl:Array (Option Value)}{kV doc pm cdv ct:Value}(l:K.lookup f=some ⟨oc,od,.func (aJ x qual (bB st) (bp st) (aO st) .none kV doc pm an cdv ct),osl⟩)
  (c:dE K cdv qual=true)(k:bW K (.ref f)=true):Fun K x qual st f (aJ x qual (bB st) (bp st) (aO st) .none kV doc pm an cdv ct):=⟨⟨oc,od,kV,doc,pm,an,cdv,ct,osl,rfl,l,c⟩,k⟩
end
noncomputable def aU(H H':Hp):Prop:=∀b o,H b=some o->H' b=some o
theorem aU.refl(H:Hp):aU H H:=fun _ _ h=>h
theorem aU.trans{H H1 H2:Hp}(a:aU H H1)(b:aU H1 H2):aU H H2:=fun c o h=>b c o (a c o h)
theorem aU.free{H H':Hp}(e:aU H H'){l:Addr}(h:H' l=Option.none):H l=Option.none:=by
 cases q:H l with
 |none=>rfl
 |some o=>
  rw[e l o q]at h;cases h
theorem aU.seq{K:aa}{H H':Hp}{a:Addr}{xs:List V}(e:aU H H')(h:SqL K H a xs):SqL K H' a xs:=by
 rcases h with(h|⟨o,h⟩) |h
 ·exact .inl (.inl (e _ _ h))
 ·exact .inl (.inr ⟨o,e _ _ h⟩)
 ·exact .inr h
noncomputable def dH(cells:List (Str×Addr)):List (Str×cQ)->List (Str×Addr)->List (Str×Addr)
 | [],acc=>acc
 | (n,k)::r,acc=>dH cells r (if k=.free then(n,(cells.lookup n).getD 0)::acc else acc)
theorem kS{env:Env}{f:Str×cQ->List (Str×Addr)->Sem (ForInStep (List (Str×Addr)))}
  (hf:∀n k a c,k=.free->env.cells.lookup n=some c->f (n,k) a=pure (.yield ((n,c)::a)))(hg:∀n k a,k≠.free->f (n,k) a=pure (.yield a)):
  ∀(names:List (Str×cQ))(acc:List (Str×Addr)),(∀y∈names,y.2=.free->∃c,env.cells.lookup y.1=some c)->forIn names acc f=(pure (dH env.cells names acc):Sem _)
 | [],acc,_=>rfl
 | (n,k)::r,acc,h=>by
  rw[List.forIn_cons];by_cases e:k=.free
  ·obtain⟨c,hc⟩:=h (n,k) au e
   rw[hf n k acc c e hc];show forIn r ((n,c)::acc) f=_;rw[kS hf hg r _ fun y hy=>h y (aF _ hy)];simp[dH,e,hc]
  ·rw[hg n k acc e]
   show forIn r acc f=_;rw[kS hf hg r _ fun y hy=>h y (aF _ hy)];simp[dH,e]
theorem qG{scope:Scope}{env:Env}(h:∀y∈scope.names,y.2=.free->∃c,env.cells.lookup y.1=some c):closureFor scope env=pure (dH env.cells scope.names []):=by
 have q:=kS (env:=env) (f:=fun x cs=>match x with | (name,kind)=>if(kind==bI)=true then(do let a<-cellOf env name;pure (eP ((name,a)::cs)))else pure (eP cs))
  (fun n k a c e hc=>by
   subst e;simp only[cellOf,hc];rfl) (fun n k a e=>by
   have e':(k==bI)=false:=by simpa using e
   simp only[e',bH,if_false]) scope.names [] h
 unfold closureFor;show(forIn scope.names [] _>>=fun r=>pure r)=_;exact(congrArg (·>>=fun r=>pure r) q).trans rfl
theorem hX{cells:List (Str×Addr)}:∀(names:List (Str×cQ))(acc:List (Str×Addr))(x:Str)(c:Addr),(dH cells names acc).lookup x=some c->
  ((x,bI)∈names/\c=(cells.lookup x).getD 0)\/acc.lookup x=some c
 | [],acc,x,c,h=>.inr h
 | (n,k)::r,acc,x,c,h=>by
  rcases hX r _ x c h with⟨q,e⟩ |q
  ·exact .inl ⟨aF _ q,e⟩
  ·by_cases e:k=.free
   ·rw[if_pos e,bf]at q
    cases hx:x==n with
    |true=>
     rw[hx]at q;have en:x=n:=by simpa using hx
     subst en;subst e;exact .inl ⟨au,(be q).symm⟩
    |false=>
     rw[hx]at q;exact .inr q
   ·rw[if_neg e]at q
    exact .inr q
theorem pO{cells:List (Str×Addr)}:∀(names:List (Str×cQ))(acc:List (Str×Addr))(x:Str),(acc.lookup x).isSome=true->((dH cells names acc).lookup x).isSome=true
 | [],acc,x,h=>h
 | (n,k)::r,acc,x,h=>by
  refine pO r _ x ?_;split
  ·rw[bf]
   cases x==n<;>simp_all
  ·exact h
theorem kT{cells:List (Str×Addr)}:∀(names:List (Str×cQ))(acc:List (Str×Addr))(x:Str),(x,bI)∈names->((dH cells names acc).lookup x).isSome=true
 | [],acc,x,h=>by simp at h
 | (n,k)::r,acc,x,h=>by
  rcases aI.mp h with q|q
  ·cases q
   refine pO r _ n ?_;simp[bf]
  ·exact kT r _ x q
theorem dU:∀(names:List (Str×cQ))(n:Nat)(acc:List (Str×Addr)),bT n names acc=bT n names []++acc
 | [],_,_=>rfl
 | (x,k)::r,n,acc=>by
  unfold bT;split
  ·rw[dU r (n+1) ((x,n)::acc),dU r (n+1) [(x,n)],i8]
   rfl
  ·exact dU r n acc
theorem ij:∀(names:List (Str×cQ))(n:Nat)(acc:List (Str×Addr))(x:Str),(acc.lookup x).isSome=true->((bT n names acc).lookup x).isSome=true
 | [],_,_,_,h=>h
 | (y,k)::r,n,acc,x,h=>by
  unfold bT;split
  ·refine ij r _ _ x ?_
   rw[bf];cases x==y<;>simp_all
  ·exact ij r _ _ x h
theorem fY:∀(names:List (Str×cQ))(n:Nat)(acc:List (Str×Addr))(x:Str),(x,b8)∈names->((bT n names acc).lookup x).isSome=true
 | [],_,_,_,h=>nomatch h
 | (y,k)::r,n,acc,x,h=>by
  unfold bT;rcases aI.mp h with q|q
  ·cases q
   rw[if_pos (by rfl)];refine ij r _ _ _ ?_;simp[bf]
  ·split
   ·exact fY r _ _ x q
   ·exact fY r _ _ x q
theorem hZ:∀(names:List (Str×cQ))(n:Nat)(acc:List (Str×Addr))(x:Str)(c:Addr),(x,c)∈bT n names acc->(x,b8)∈names\/(x,c)∈acc
 | [],_,_,_,_,h=>.inr h
 | (y,k)::r,n,acc,x,c,h=>by
  unfold bT at h;split at h
  ·rename_i hk
   rcases hZ r _ _ x c h with q|q
   ·exact .inl (aF _ q)
   ·rcases aI.mp q with e|e
    ·cases e
     have :k=.cell:=by simpa using hk
     subst this;exact .inl au
    ·exact .inr e
  ·rcases hZ r _ _ x c h with q|q
   ·exact .inl (aF _ q)
   ·exact .inr q
theorem wI{M:Model}{A:Around}{E:Value->Shared->Prop}{s:Shared}{scope:Scope}{globals:Addr}{cl:List (Str×Addr)}{qual:Str}{func:Option Addr}{code:Value}{outer:Env}{builtins:Addr}{Q:Env->Shared->Prop}
  (h:Q (newEnv scope s.heap.objs.size globals (bT (s.heap.objs.size+1) scope.names cl) qual func code (some outer) builtins) {s with heap:=pushCells (s.heap.push {cls:=.type "dict",data:=.dict #[]}) scope.names}):
  wpAny M A (newFunctionEnv scope globals cl [] qual func code (some outer) builtins) Q E s:=by
 simp only[newFunctionEnv,zD,if_true];refine af (wpAny_alloc ?_);refine af (wpAny_layCells _ (fun name kind cells=>by cases hkc:kind==b8<;>simp[hkc]) _ _ _ _ ?_);rw[show({s with heap:=s.heap.push {cls:=.type "dict",data:=.dict #[]}}:Shared).heap.objs.size=s.heap.objs.size+1 from cB ..];rw[ud];exact af (aj (aj h))
structure jY(X:Cx)(N':List Str)(sc:Scope):Prop where
 kind:sc.kind=.function
 cellk:∀y∈sc.names,y.2=.cell->sc.names.lookup y.1=some .cell
 own:∀y∈sc.names,y.2=.local->sc.names.lookup y.1=some .local
 free:∀y∈sc.names,y.2=.free->X.env.kindOf y.1=some .cell\/X.env.kindOf y.1=some .free
noncomputable def cJ(X:Cx)(N':List Str)(sc:Scope)(C:Addr)(s₀:Shared)(H₀:Hp)(fp:List Addr):Cx:=
 {X with N:=N',s₀:=s₀,H₀:=H₀,env:=compEnvC sc (bT (C+1) sc.names (dH X.env.cells sc.names [])) C X.env,outer:=X.stack,stack:=X.stack,ex:=fp,fn:=fun x=>sc.names.any fun y=>decide (y.1=x)&&decide (y.2=.cell),pn:=[],xe:=fun _ _=>False}
theorem jw{env:Env}:∀{names:List (Str×cQ)}{x:Str}{k:cQ},
  (names.map fun(n,k)=>if(k==bI&&env.scope.kind== .function&&env.kindOf n==some .cell)then(n,b8)else(n,k)).lookup x=some k->
  names.lookup x=some k\/(names.lookup x=some .free/\k=.cell)
 | [],_,_,h=>by simp at h
 | (n,k)::r,x,k',h=>by
  have ih:= @jw env r x k';rw[aY]at h;change gD x ((if(k==bI&&env.scope.kind== .function&&env.kindOf n==some .cell)=true then(n,b8)else(n,k))::_)=_ at h;cases hx:x==n with
  |true=>
   by_cases hc:(k==bI&&env.scope.kind== .function&&env.kindOf n==some .cell)=true
   ·rw[if_pos hc]at h
    simp only[bf,hx]at h⊢;have :k=.free:=by
     have :=hc
     simp only[aN]at this;simpa using this.1.1
    subst this;exact .inr ⟨rfl,(be h).symm⟩
   ·rw[if_neg hc]at h
    simp only[bf,hx]at h⊢;exact .inl h
  |false=>
   have e:gD x (r.map fun(n,k)=>if(k==bI&&env.scope.kind== .function&&env.kindOf n==some .cell)then(n,b8)else(n,k))=some k':=by
    split at h<;>simpa only[bf,hx]using h
   simp only[bf,hx];exact ih e
theorem eA{env:Env}:∀{names:List (Str×cQ)}{x:Str},names.lookup x=some .free->
  (names.map fun(n,k)=>if(k==bI&&env.scope.kind== .function&&env.kindOf n==some .cell)then(n,b8)else(n,k)).lookup x=some .free\/
  (names.map fun(n,k)=>if(k==bI&&env.scope.kind== .function&&env.kindOf n==some .cell)then(n,b8)else(n,k)).lookup x=some .cell
 | [],_,h=>by simp at h
 | (n,k)::r,x,h=>by
  have ih:= @eA env r x;rw[aY];change gD x ((if(k==bI&&env.scope.kind== .function&&env.kindOf n==some .cell)=true then(n,b8)else(n,k))::_)=_\/gD x ((if(k==bI&&env.scope.kind== .function&&env.kindOf n==some .cell)=true then(n,b8)else(n,k))::_)=_;cases hx:x==n with
  |true=>
   simp only[bf,hx]at h;cases h;by_cases hc:(bI==bI&&env.scope.kind== .function&&env.kindOf n==some .cell)=true
   ·rw[if_pos hc];right;simp only[bf,hx]
   ·rw[if_neg hc];left;simp only[bf,hx]
  |false=>
   simp only[bf,hx]at h;split <;>simpa only[bf,hx]using ih h
theorem dZ{env:Env}:∀{names:List (Str×cQ)}{x:Str}{k:Option cQ},names.lookup x=k->k≠some .free->
  (names.map fun(n,k)=>if(k==bI&&env.scope.kind== .function&&env.kindOf n==some .cell)then(n,b8)else(n,k)).lookup x=k
 | [],_,_,h,_=>by simpa using h
 | (n,k)::r,x,k',h,hf=>by
  have ih:= @dZ env r x k';rw[aY];change gD x ((if(k==bI&&env.scope.kind== .function&&env.kindOf n==some .cell)=true then(n,b8)else(n,k))::_)=_;cases hx:x==n with
  |true=>
   simp only[bf,hx]at h;have hk:k≠.free:=fun e=>hf (by rw[<-h,e]);have hb:(k==bI)=false:=by simpa using hk
   rw[if_neg (by rw[hb];simp)];simp only[bf,hx];exact h
  |false=>
   simp only[bf,hx]at h;split <;>simpa only[bf,hx]using ih h hf
theorem rp{sc:Scope}{cl:List (Str×Addr)}{C:Addr}{env:Env}{x:Str}{k:cQ}(h:(compEnvC sc cl C env).kindOf x=some k):sc.names.lookup x=some k\/(sc.names.lookup x=some .free/\k=.cell):=jw (env:=env) h
theorem wQ{prog:Program}{w:World}{A:Around}{R:Result->Shared->Prop}{s:Shared}{elt target iter:Expr}{ifs:List Expr}{scope:Scope}{pos:Pos}{it acc:Value}{env:Env}(I:Nat->Shared->Prop)
  (turn:∀n s,I n s->wpAny (model prog w) A (pyNext it) (fun r s₁=>match r with
   |none=>R (.ok .next) s₁
   |some v=>wpAny (model prog w) A (mz target it v) (fun _ s₁'=>wpAny (model prog w) A (assign target env v) (fun _ s₂=>
     wpAny (model prog w) A (forIn ifs true fun c r=>if r=true then do let ok<-isTrue c env (eval c env);pure (eP ok)else pure (eP r)) (fun ok s₃=>
      if ok=true then wpAny (model prog w) A (eval elt env) (fun x s₄=>
       wpAny (model prog w) A (call (.builtin "list.append") [acc,x]) (fun _ s₅=>∃m,m<n/\I m s₅) (fun _ _=>False) s₄) (fun _ _=>False) s₃
      else ∃m,m<n/\I m s₃) (fun _ _=>False) s₂) (fun _ _=>False) s₁') (fun _ _=>False) s₁) (fun _ _=>False) s)
  (n:Nat) (h:I n s):
  i3 (model prog w) A (.compLoop (.ListComp elt [⟨target,iter,ifs,0⟩] scope pos) 0 it acc env) R s:=by
 refine codeAny_loop rfl I (fun n s hI=>?_) n h;show wpAny _ A ((compTurn (.ListComp elt [⟨target,iter,ifs,0⟩] scope pos) 0 it acc env).onRaise (fun x=>do jg x env;theTreesLotGoes x)) _ _ s;refine wpAny_noted ?_;rw[compTurn_list];refine af (hG (af (da (turn n s hI) (fun r s₁ h₁=>?_) fun _ _ h'=>h'.elim)));cases r with
 |none=>exact aj h₁
 |some v=>
  refine af (da h₁ (fun _ s₁' h₁'=>?_) fun _ _ h'=>h'.elim);refine af (da h₁' (fun _ s₂ h₂=>af (da h₂ (fun ok s₃ h₃=>?_) fun _ _ h'=>h'.elim)) fun _ _ h'=>h'.elim);cases ok with
  |false=>exact aj ⟨rfl,h₃⟩
  |true=>
   exact af (af (da h₃ (fun x s₄ h₄=>af (da h₄ (fun _ s₅ h₅=>aj (aj ⟨rfl,h₅⟩)) fun _ _ h'=>h'.elim)) fun _ _ h'=>h'.elim))
noncomputable def PTs(X:Cx)(ifs:List Expr)(t:TT):Prop:=
 ∀(pins:List (Addr×Obj))(s:Shared)(σ:St)(H:Hp)(Q:Bool->Hp->Prop),Inv X pins σ H s->t σ H Q->
  wpAny (model X.prog X.w) X.A (forIn ifs true fun c r=>if r=true then do let ok<-isTrue c X.env (eval c X.env);pure (eP ok)else pure (eP r)) (TP X pins σ Q) X.xe s
noncomputable def yb:TT:=fun _ H Q=>Q true H
theorem pts_nil{X:Cx}:PTs X [] yb:=by
 intro pins s σ H Q I h;rw[ud];exact aj ⟨H,I,h⟩
theorem pts_one{X:Cx}{c:Expr}{t:TT}(h:PT X c t):PTs X [c] t:=by
 intro pins s σ H Q I hw;rw[List.forIn_cons];simp only[if_true];refine af (af (thn (h pins s σ H Q I hw) fun b s1 q=>?_));refine aj ?_;show wpAny _ _ (forIn ([]:List Expr) b _) _ _ s1;rw[ud];exact aj q
noncomputable def oR(wi:TI)(g:TG)(tc:TT)(te:TE)(mk:St->St):TE:=fun σ H Q=>wi σ H fun J H1=>∃W:Nat->Nat->St->List V->Hp->Prop,(∃m,W 0 m (mk σ) [] H1)/\
 ∀i m τ acc H2,W i m τ acc H2->(J.stop i H2/\∀l,H2 l=none->Q (.ref l) (upd H2 l (.lst acc)))\/(J.go i H2/\∃N:St->List V->Hp->Prop,(∀τ' acc' H',N τ' acc' H'->∃m',m'<m/\W (i+1) m' τ' acc' H')/\
  ∀x H3,J.yld i H2 x H3->g x τ H3 fun τ4 H4=>tc τ4 H4 fun b H5=>if b=true then te τ4 H5 fun v H6=>acc.length<sizeLine/\N τ4 (acc++[v]) H6 else N τ4 acc H5)
theorem Inv.track{X:Cx}{pins:List (Addr×Obj)}{σ:St}{H:Hp}{s:Shared}{a:Addr}{o:HO}(I:Inv X pins σ H s)(hf:kY X pins H a)(new:cF X.prog X.w (upd H a o) s.heap a o):Inv X pins σ (upd H a o) s:=by
 obtain⟨h0,h1,h2,h3,h4,h5⟩:=hf;have :=I.step (g':=s.gens) (d':=s.drawn) (t':=s.toks) (h':=s.heap) (H':=upd H a o) (ch:=[a]) (fun b hb=>by
   have e:b=a:=by simpa using hb
   subst e;exact⟨h3,h1,h4,h5⟩)
  (fun b ob _ _ _ q _=>q) (fun b ob _ _ _ q _=>⟨ob.slots,q⟩) (fun b ob hb q n=>by rw[aH (fun z=>hb (by simp[z]))];exact n) (fun b ob _ q=>⟨ob,q⟩)
  (fun b xs q=>by rw[aH (bb q h0)];exact q) (fun b ob u q=>by rw[aH (bb q h0)];exact q) (fun b ps q=>⟨#[],by rw[aH (bb q h0),q];simp⟩)
  (fun m hm=>hm) (fun b u q=>by
   by_cases hb:b=a
   ·subst hb;rw[av]at q;cases q;exact new
   ·rw[aH hb]at q
    exact(I.hok b u q).j8 (fun c v _ e=>e) (fun c e=>by rw[aH (bb e h0)];exact e) fun c xs e=>by rw[aH (bb e h0)];exact e) I.bare
 exact this
theorem w6{X:Cx}{pins:List (Addr×Obj)}{σ:St}{H:Hp}{s:Shared}{a:Addr}{its:List Value}{n:Nat}{u:Value}{Q:Value->Shared->Prop}{E:Value->Shared->Prop}(I:Inv X pins σ H s)(hf:kY X pins H a)
  (e:s.heap.get? a=some {cls:=.type "list",data:=.seq its.toArray n}) (hz:its.length<sizeLine)
  (h:∀h' n',Inv X pins σ H {s with heap:=h'}->h'.get? a=some {cls:=.type "list",data:=.seq (its++[u]).toArray n'}->(∀b o,b≠a->s.heap.get? b=some o->h'.get? b=some o)->Q .none {s with heap:=h'}):
  wpAny (model X.prog X.w) X.A (call (.builtin "list.append") [.ref a,u]) Q E s:=by
 refine jq F.slot_list_append ⟨_,e,rfl⟩ F.entry_list_append (F.args_list_append_2 _ _) (PySem.list_append a its.toArray n u (by rw[ax];omega)) ⟨e,?_⟩;have q:=zq e (·.push u);have eq:its.toArray.push u=(its++[u]).toArray:=by simp
 rw[eq]at q;have k:∀b o,b≠a->s.heap.get? b=some o->(s.heap.update a (bS (·.push u))).get? b=some o:=fun b o hb z=>(bz s.heap _ (cR hb)).trans z;obtain⟨h0,h1,h2,h3,h4,h5⟩:=hf;exact h _ _ (I.turned (t':=s.toks) k h0 h1 h3 h4 h5) q k
section
variable {X:Cx}{N':List Str}{sc:Scope}{elt tg iter:Expr}{ifs:List Expr}{pos:Pos}{wi:TI}{g:TG}{tc:TT}{te:TE}{mk:St->St}
noncomputable def MkOk(X:Cx)(N':List Str)(sc:Scope)(mk:St->St):Prop:=
 ∀σ:St,σ.length=X.N.length->(mk σ).length=N'.length/\∀(i:Nat)(x:Str)(v:V),N'[i]? =some x->(mk σ)[i]? =some (some v)->sc.names.lookup x=some .free/\∃j:Nat,X.N[j]? =some x/\σ[j]? =some (some v)
theorem rH{pins:List (Addr×Obj)}{σ:St}{H:Hp}{s:Shared}{Q:VK}{use:Option (Value->Sem Unit)}{QQ:Value->Shared->Prop}(S:jY X N' sc)(hm:MkOk X N' sc mk)(hc:X.calm=true)
  (hi:PI X tg iter wi)
  (hb:∀C s₀ H₀ fp,(cJ X N' sc C s₀ H₀ fp).Ok->PG (cJ X N' sc C s₀ H₀ fp) tg g/\PTs (cJ X N' sc C s₀ H₀ fp) ifs tc/\PE (cJ X N' sc C s₀ H₀ fp) elt te)
  (hs:∀x,gz iter X.env x=pure x)(I:Inv X pins σ H s)(h:oR wi g tc te mk σ H Q)
  (fin:∀(l C:Addr)(H':Hp)(s':Shared)(m:Str->Option Value),Inv X pins σ H' s'->s'.heap.Ns C m->kY X pins H' C->(∃o,s'.heap.get? C=some o/\∀v,o.data≠.cell v)->Q (.ref l) H'->compPost (model X.prog X.w) X.A X.xe use QQ (.ref l) C (.ok .next) s'):
  wpAny (model X.prog X.w) X.A (comprehension (.ListComp elt [⟨tg,iter,ifs,0⟩] sc pos) sc X.env (firstIterPos [⟨tg,iter,ifs,0⟩] pos) (newList []) false (eval iter X.env) use) QQ X.xe s:=by
 have hcells:∀y∈sc.names,y.2=.free->∃c,X.env.cells.lookup y.1=some c:=fun y hy hf=>I.ok.has _ (S.free y hy hf);refine wpAny_comprehension_free (use:=use) rfl hs (qG hcells) S.kind S.own ?_;refine thn (hi pins s σ H _ I h) fun v s1 h1=>thn h1 fun itv s2 h2=>?_;obtain⟨it,fp,tn,J,H2,e,I2,T,st2,f2,W,⟨m0,w0⟩,turn⟩:=h2;subst e
 --the list
 refine cj ?_;have hl0:H2 s2.heap.objs.size=none:=I2.fresh;have fD:kY X pins H2 s2.heap.objs.size:=I2.n8 (ar _) hl0;have eD3:(s2.heap.push {cls:=.type "list",dict:=none,data:=.seq ([]:List Value).toArray}).get? s2.heap.objs.size=some {cls:=.type "list",data:=.seq ([]:List Value).toArray 0}:=aC _ rfl;have I3:Inv X pins σ H2 {s2 with heap:=s2.heap.push {cls:=.type "list",dict:=none,data:=.seq ([]:List Value).toArray}}:=I2.kept (t':=s2.toks) fun b o e=>ag _ e
 --the block's frame
 refine wI ?_;dsimp only;have szL:(s2.heap.push {cls:=.type "list",dict:=none,data:=.seq ([]:List Value).toArray}).objs.size=s2.heap.objs.size+1:=cB ..;have hDC:s2.heap.objs.size≠(s2.heap.push {cls:=.type "list",dict:=none,data:=.seq ([]:List Value).toArray}).objs.size:=by rw[szL];exact aD (di _)
 have k23:∀b o,s2.heap.get? b=some o->(s2.heap.push {cls:=.type "list",dict:=none,data:=.seq ([]:List Value).toArray}).get? b=some o:=fun b o e=>ag _ e;generalize hH3:s2.heap.push {cls:=.type "list",dict:=none,data:=.seq ([]:List Value).toArray}=P3 at I3 szL eD3 hDC k23⊢;generalize hD:s2.heap.objs.size=D0 at *;have hns4:(pushCells (P3.push {cls:=.type "dict",data:=.dict #[]}) sc.names).Ns P3.objs.size (fun _=>none):=(Heap.Ns.new P3 (.type "dict")).keeps (pushCells_keeps _ _);have keep4:∀b o,P3.get? b=some o->(pushCells (P3.push {cls:=.type "dict",data:=.dict #[]}) sc.names).get? b=some o:=fun b o e=>pushCells_keeps _ _ b o (ag _ e);have own4:=cellsFrom_ok sc.names (P3.push {cls:=.type "dict",data:=.dict #[]}) (P3.objs.size+1) [] ⟨fun _ _ hm=>(nomatch hm),kl⟩ (by rw[cB];exact ar _);rw[cB]at own4;generalize pushCells (P3.push {cls:=.type "dict",data:=.dict #[]}) sc.names=h4 at hns4 keep4 own4⊢
 --the context
 have fpl:∀b∈fp,b<D0:=fun b hb=>by
  obtain⟨o,e,_⟩:=T.obj _ _ st2 b hb;rw[<-hD];exact aw e
 have hCb:D0<P3.objs.size:=by rw[szL];exact di _
 have clo:∀x c,(dH X.env.cells sc.names []).lookup x=some c->X.env.cells.lookup x=some c/\(x,bI)∈sc.names:=fun x c e=>by
  rcases hX _ _ x c e with⟨q,e'⟩ |q
  ·obtain⟨c',hc'⟩:=hcells _ q rfl
   have hc'':X.env.cells.lookup x=some c':=hc';rw[hc'']at e'⊢;exact⟨by rw[e'];rfl,q⟩
  ·simp at q
 have clt:∀x c,(dH X.env.cells sc.names []).lookup x=some c->c<P3.objs.size:=fun x c e=>by
  obtain⟨v,o,ho,_⟩:=I3.cell x c (clo x c e).1;exact aw ho
 have cel:∀x c,(bT (P3.objs.size+1) sc.names (dH X.env.cells sc.names [])).lookup x=some c->((x,c)∈bT (P3.objs.size+1) sc.names []/\P3.objs.size+1<=c/\h4.IsCell c none)\/(dH X.env.cells sc.names []).lookup x=some c:=fun x c e=>by
  rw[dU,nR]at e;cases ho:(bT (P3.objs.size+1) sc.names []).lookup x with
  |none=>
   rw[ho]at e;exact .inr e
  |some c'=>
   rw[ho]at e;cases e;have m:=bh ho;exact .inl ⟨m,(own4.empty x c m).2,(own4.empty x c m).1⟩
 have celf:∀x,sc.names.lookup x=some .free->(bT (P3.objs.size+1) sc.names (dH X.env.cells sc.names [])).lookup x=(dH X.env.cells sc.names []).lookup x:=fun x hf=>by
  rw[dU,nR];cases ho:(bT (P3.objs.size+1) sc.names []).lookup x with
  |none=>rfl
  |some c'=>
   rcases hZ _ _ _ _ _ (bh ho)with q|q
   ·have :=S.cellk _ q rfl
    rw[hf]at this;cases this
   ·cases q
 have f3:∀b∈D0::fp,kY X pins H2 b/\b<P3.objs.size:=fun b hb=>by
  rcases aI.mp hb with z|z
  ·rw[z];exact⟨fD,hCb⟩
  ·exact⟨f2 b z,eV (fpl b z) hCb⟩
 have ok:(cJ X N' sc P3.objs.size {s2 with heap:=P3} H2 (D0::fp)).Ok:=by
  refine⟨I.ok.mod,S.kind,I.ok.glob,I.ok.blt,ar _,fun x y c h1 h2=>?_,fun x hx=>?_,fun x c z=>?_,fun z=>I.ok.hd z,I.ok.frames,.inl rfl,fun b hb=>⟨?_,fun x c e=>?_⟩,I3.bs,aP I.ok.bsz I3.sz,fun b o e hb=>?_,fun b hb z=>?_,I3.stack,I3.sj⟩
  ·rcases cel x c h1 with⟨m1,l1,_⟩ |q1<;>rcases cel y c h2 with⟨m2,l2,_⟩ |q2
   ·exact PySem.name_of_addr own4.apart m1 m2
   ·exact absurd l1 (Nat.not_le.mpr (bF (clt y c q2)))
   ·exact absurd l2 (Nat.not_le.mpr (bF (clt x c q1)))
   ·exact I.ok.inj x y c (clo x c q1).1 (clo y c q2).1
  ·have q:sc.names.lookup x=some .free\/sc.names.lookup x=some .cell:=by
    rcases hx with hx|hx
    ·rcases rp hx with q|q
     ·exact .inr q
     ·exact .inl q.1
    ·rcases rp hx with q|q
     ·exact .inl q
     ·exact .inl q.1
   rcases q with q|q
   ·have h1:=fe.mp (kT (cells:=X.env.cells) _ [] _ (bh q))
    show ∃c,(bT (P3.objs.size+1) sc.names (dH X.env.cells sc.names [])).lookup x=some c;rw[celf x q];exact h1
   ·exact fe.mp (fY _ _ _ _ (bh q))
  ·have z:(sc.names.any fun y=>decide (y.1=x)&&decide (y.2=b8))=true:=z
   obtain⟨y,hy,e⟩:=eO.mp z;rw[aN,decide_eq_true_eq,decide_eq_true_eq]at e;intro hc;rcases cel x c hc with⟨_,l1,_⟩ |q1
   ·show P3.objs.size<=c
    omega
   ·have hk:=S.cellk y hy e.2
    rw[e.1]at hk;rcases hX _ _ x c q1 with⟨q,_⟩ |q
    ·have h2:(bT (P3.objs.size+1) sc.names []).lookup x≠none:=fun h=>by
      have :=fY sc.names (P3.objs.size+1) [] x (bh hk)
      rw[h]at this;cases this
     have hc':(bT (P3.objs.size+1) sc.names (dH X.env.cells sc.names [])).lookup x=some c:=hc;rw[dU,nR]at hc';cases ho:(bT (P3.objs.size+1) sc.names []).lookup x with
     |none=>exact absurd ho h2
     |some c'=>
      rw[ho]at hc';cases hc';have :=(own4.empty x c (bh ho)).2;show P3.objs.size<=c;omega
    ·cases q
  ·exact aD (f3 b hb).2
  ·rcases cel x c e with⟨_,l1,_⟩ |q1
   ·have :=(f3 b hb).2
    exact fun z=>by subst z;omega
   ·exact(f3 b hb).1.2.2.2.2.1 x c (clo x c q1).1
  ·rcases(f3 b hb).1.2.2.2.1 with z|z
   ·exact I.ok.noex b o e z
   ·exact absurd (aT (aw e) (aP I.ok.bsz z)) (df _)
  ·rcases aI.mp (I2.vU b z)with q|q
   ·exact(f3 b hb).1.2.1 q
   ·exact(f3 b hb).1.2.2.1 q
 obtain⟨pg,pt,pe⟩:=hb _ _ _ _ ok;have I4:Inv (cJ X N' sc P3.objs.size {s2 with heap:=P3} H2 (D0::fp)) [] (mk σ) H2 {s2 with heap:=h4}:=by
  obtain⟨ml,hmk⟩:=hm σ I.len;have locC:∀x c v,X.env.cells.lookup x=some c->P3.IsCell c v->h4.IsCell c v:=fun x c v e ⟨o,ho,hd⟩=>⟨o,keep4 c o ho,hd⟩;refine⟨ok,rfl,I2.bare,Un.kept keep4,⟨_,hns4,fun i x v e1 e2 e3=>?_⟩,fun x c e=>?_,I3.hok.fresh (ar _),fun x c e=>?_,fun p hp=>absurd (show p∈([]:List (Addr×Obj))from hp) (by simp),I3.hok.kept keep4,ml⟩
  ·obtain⟨hf,j,hj,hv⟩:=hmk i x v e1 e2
   obtain⟨m,hn,hl⟩:=I3.loc;have kx:=S.free (x,.free) (bh hf) rfl;obtain⟨u,r,l⟩:=hl j x v hj hv (by
    rcases kx with q|q
    ·exact .inr (.inl q)
    ·exact .inr (.inr q))
   refine⟨u,r,.inr ⟨?_,?_⟩⟩
   ·rcases eA (env:=X.env) hf with q|q
    ·exact .inr q
    ·exact .inl q
   ·rcases l with⟨q,_⟩ |⟨_,c,hc1,hc2⟩
    ·have kx':X.env.kindOf x=some .cell\/X.env.kindOf x=some .free:=kx
     rw[q]at kx';rcases kx' with z|z<;>cases z
    ·obtain⟨c',q⟩:=fe.mp (kT (cells:=X.env.cells) _ [] _ (bh hf))
     have :=(clo x c' q).1
     rw[hc1]at this;cases this;exact⟨c,by show(bT (P3.objs.size+1) sc.names (dH X.env.cells sc.names [])).lookup x=some c;rw[celf x hf];exact q,locC x c _ hc1 hc2⟩
  ·rcases cel x c e with⟨_,_,hv⟩ |q1
   ·exact⟨none,hv⟩
   ·obtain⟨v,hv⟩:=I3.cell x c (clo x c q1).1
    exact⟨v,locC x c v (clo x c q1).1 hv⟩
  ·rcases cel x c e with⟨_,l1,_⟩ |q1
   ·exact I3.hok.fresh (by show P3.objs.size<=c;omega)
   ·exact I3.freeC x c (clo x c q1).1
 have st4:tn 0 h4:=T.keep _ _ _ st2 fun b hb o e=>keep4 b o (k23 b o e);have f4:∀{H':Hp}{b:Addr},b∈D0::fp->H' b=none->kY (cJ X N' sc P3.objs.size {s2 with heap:=P3} H2 (D0::fp)) [] H' b:=fun{H' b} hb hn=>
  ⟨hn,(ok.exf b hb).1,ok.exfs b hb,.inl hb,(ok.exf b hb).2,fun p hp=>absurd (show p∈([]:List (Addr×Obj))from hp) (by simp)⟩
 have ofp:∀{b:Addr},b∈fp->b∈D0::fp:=fun hb=>aF _ hb;have nD:∀b∈fp,b≠D0:=fun b hb=>aD (fpl b hb)
 --the loop
 have loop:i3 (model X.prog X.w) X.A (.compLoop (.ListComp elt [⟨tg,iter,ifs,0⟩] sc pos) 0 (.ref it) (.ref D0) (compEnvC sc (bT (P3.objs.size+1) sc.names (dH X.env.cells sc.names [])) P3.objs.size X.env))
   (compPost (model X.prog X.w) X.A X.xe use QQ (.ref D0) P3.objs.size) {s2 with heap:=h4}:=by
  refine wQ (fun n s'=>∃i τ acc H' its k,Inv (cJ X N' sc P3.objs.size {s2 with heap:=P3} H2 (D0::fp)) [] τ H' s'/\tn i s'.heap/\(∀b∈D0::fp,H' b=none)/\bC acc its/\acc.length<=sizeLine/\
    s'.heap.get? D0=some {cls:=.type "list",data:=.seq its.toArray k}/\W i n τ acc H') ?_ m0
   ⟨0,mk σ,[],_,[],0,I4,st4,fun b hb=>(f3 b hb).1.1,.nil,aL _,keep4 _ _ eD3,w0⟩
  rintro n s5 ⟨i,τ,acc,H5,its,kk,I5,st5,fr5,va5,hz5,e5,w5⟩;have I5p:Inv (cJ X N' sc P3.objs.size {s2 with heap:=P3} H2 (D0::fp)) ([]++gm [D0] s5.heap) τ H5 s5:=by
   refine I5.pinned (fun b hb=>?_) (fun b hb=>?_)
   ·have z:b=D0:=by simpa using hb
    rw[z];exact f4 au (fr5 D0 au)
   ·have z:b=D0:=by simpa using hb
    rw[z];exact⟨_,e5,fun v z=>by cases z⟩
  obtain q|⟨go,NN,hN,step⟩:=turn i n τ acc H5 w5
  ·obtain⟨stop,q⟩:=q
   refine thn (T.done (cJ X N' sc P3.objs.size {s2 with heap:=P3} H2 (D0::fp)) rfl rfl rfl hc i _ s5 τ H5 (fun _ _=>False) I5p (fun b hb=>?_) st5 stop) fun r s6 ⟨hr,I6p⟩=>?_
   ·obtain⟨g0,g1,g2,g3,g4,_⟩:=f4 (ofp hb) (fr5 b (ofp hb))
    refine⟨g0,g1,g2,g3,g4,fun p hp=>?_⟩;have hp':p∈gm [D0] s5.heap:=by simpa[cJ]using hp
    obtain⟨z,_⟩:=mH hp';have z':p.1=D0:=by simpa using z
    rw[z'];exact(nD b hb).symm
   subst hr;have I6:=I6p.fm;have e6:s6.heap.get? D0=some {cls:=.type "list",data:=.seq its.toArray kk}:=(I6p.pin (D0,_) (aS _ (aS _ (fR (by simp) e5)))).1
   --back in the context around
   have un:Un (frs X.stack) fp H2 H5 s2.heap s6.heap:=by
    have u:=I6.base;have nb:∀b o,s2.heap.get? b=some o->b∉fp->b∉D0::fp:=fun b o e hb z=>by
     rcases aI.mp z with z|z
     ·exact absurd (aw e) (by rw[z,hD];exact df _)
     ·exact hb z
    exact⟨fun b o e n hb hx=>u.keep b o (k23 b o e) n hb (nb b o e hx),fun b o e n hb hx=>u.slot b o (k23 b o e) n hb (nb b o e hx),fun b o e n hx=>u.free b o (k23 b o e) n (nb b o e hx),fun b o e hx=>u.there b o (k23 b o e) (nb b o e hx),u.tups,u.frzs,u.tbls⟩
   have I7:Inv X pins σ H5 s6:=by
    obtain⟨hh,g6,d6,t6,os6⟩:=s6;have eo:os6=s2.os:=I6.os;subst eo;exact I2.call (h':=hh) (g':=g6) (d':=d6) (t':=t6) (ch:=fp) un I6.hok I6.bare fun b hb=>⟨(f2 b hb).2.2.2.1,(f2 b hb).2.1,(f2 b hb).2.2.2.2.1,(f2 b hb).2.2.2.2.2⟩
   have fD5:kY X pins H5 D0:=⟨fr5 D0 au,fD.2⟩;have I8:=I7.track (o:=.lst acc) fD5 (show cF X.prog X.w _ s6.heap D0 (.lst acc)from⟨hz5,its,kk,va5,e6⟩);obtain⟨m,hn,_⟩:=id I6.loc;refine fin _ P3.objs.size _ s6 m I8 hn (I2.n8 (by rw[hD];exact gj hCb) (by rw[aH (cR hDC)];exact I6.free)) ?_ (q D0 (fr5 D0 au));obtain⟨o,es,ep,ho,hd,_⟩:=hn;exact⟨o,ho,fun v z=>by rw[hd]at z;cases z⟩
  ·skip
   have fpi:∀{H':Hp}{b:Addr},b∈fp->H' b=none->kY (cJ X N' sc P3.objs.size {s2 with heap:=P3} H2 (D0::fp)) ([]++gm [D0] s5.heap) H' b:=fun{H' b} hb hn=>by
    obtain⟨g0,g1,g2,g3,g4,_⟩:=f4 (H':=H') (ofp hb) hn;refine⟨g0,g1,g2,g3,g4,fun p hp=>?_⟩;have hp':p∈gm [D0] s5.heap:=by simpa[cJ]using hp
    obtain⟨z,_⟩:=mH hp';have z':p.1=D0:=by simpa using z
    rw[z'];exact(nD b hb).symm
   refine thn (T.item (cJ X N' sc P3.objs.size {s2 with heap:=P3} H2 (D0::fp)) rfl rfl rfl hc i _ s5 τ H5 (fun _ _=>False) I5p (fun b hb=>fpi hb (fr5 b (ofp hb))) st5 go) fun r s6 ⟨u,hr,h6⟩=>?_;subst hr;refine thn h6 fun _ s7 ⟨x,H7,I7,r7,y7,st7,fr7⟩=>?_;have I7':=I7.pinned (fun b hb=>fpi hb (fr7 b hb)) (T.obj _ _ st7);refine thn (pg _ s7 τ H7 x u _ I7' r7 (step x H7 y7)) fun _ s8 ⟨τ8,H8,I8,q8⟩=>?_;refine thn (pt _ s8 τ8 H8 _ I8 q8) fun b s9 ⟨H9,I9,q9⟩=>?_;have pinD:∀{τ':St}{H':Hp}{s':Shared},Inv (cJ X N' sc P3.objs.size {s2 with heap:=P3} H2 (D0::fp)) ([]++gm [D0] s5.heap++gm fp s7.heap) τ' H' s'->s'.heap.get? D0=some {cls:=.type "list",data:=.seq its.toArray kk}/\H' D0=none:=fun{τ' H' s'} J=>by
    have :=J.pin (D0,_) (aS _ (lg _ (aS _ (fR (by simp) e5))))
    exact⟨this.1,this.2.1⟩
   have pinF:∀{τ':St}{H':Hp}{s':Shared},Inv (cJ X N' sc P3.objs.size {s2 with heap:=P3} H2 (D0::fp)) ([]++gm [D0] s5.heap++gm fp s7.heap) τ' H' s'->(∀b∈fp,∀o,s7.heap.get? b=some o->s'.heap.get? b=some o)/\(∀b∈fp,H' b=none):=fun{τ' H' s'} J=>by
    refine⟨fun b hb o e=>(J.pin (b,o) (aS _ (aS _ (fR hb e)))).1,fun b hb=>?_⟩;obtain⟨o,e,d⟩:=T.obj _ _ st7 b hb;exact(J.pin (b,o) (aS _ (aS _ (fR hb e)))).2.1
   cases b with
   |false=>
    rw[if_neg (by decide)]at q9⊢;obtain⟨m',hm',w7⟩:=hN τ8 acc H9 q9;obtain⟨d1,d2⟩:=pinD I9;obtain⟨p1,p2⟩:=pinF I9;refine⟨m',hm',i+1,τ8,acc,H9,its,kk,I9.fm.fm,T.keep _ _ _ st7 p1,fun b hb=>?_,va5,hz5,d1,w7⟩;rcases aI.mp hb with z|z
    ·rw[z];exact d2
    ·exact p2 b z
   |true=>
    rw[if_pos rfl]at q9⊢;refine thn (pe _ s9 τ8 H9 _ I9 q9) fun y s10 ⟨z,H10,I10,r10,q10⟩=>?_;obtain⟨hz10,n10⟩:=q10;obtain⟨m',hm',w7⟩:=hN τ8 _ H10 n10;obtain⟨d1,d2⟩:=pinD I10;obtain⟨p1,p2⟩:=pinF I10;have hlen:its.length=acc.length:=va5.length.symm;refine w6 (X:=cJ X N' sc P3.objs.size {s2 with heap:=P3} H2 (D0::fp)) I10.fm.fm (f4 au d2) d1 (by omega) fun h' n' I11 e11 k11=>?_;refine⟨m',hm',i+1,τ8,acc++[z],H10,its++[y],n',I11,T.keep _ _ _ st7 fun b hb o e=>k11 b o (nD b hb) (p1 b hb o e),fun b hb=>?_,va5.append (.cons r10 .nil),?_,e11,w7⟩
    ·rcases aI.mp hb with w|w
     ·rw[w];exact d2
     ·exact p2 b w
    ·rw[aA,bJ];omega
 exact codeAny_compStart_list loop (T.self _ 0 _ _ _ st4 loop)
theorem pe_comp(S:jY X N' sc)(hm:MkOk X N' sc mk)(hc:X.calm=true)(hi:PI X tg iter wi)
  (hb:∀C s₀ H₀ fp,(cJ X N' sc C s₀ H₀ fp).Ok->PG (cJ X N' sc C s₀ H₀ fp) tg g/\PTs (cJ X N' sc C s₀ H₀ fp) ifs tc/\PE (cJ X N' sc C s₀ H₀ fp) elt te)
  (hs:∀x,gz iter X.env x=pure x:=by intro _;rfl):PE X (.ListComp elt [⟨tg,iter,ifs,0⟩] sc pos) (oR wi g tc te mk):=by
 intro pins s σ H Q I h;rw[eval_ListComp];refine rH (use:=none) S hm hc hi hb hs I h fun l C H' s' m I' hn hC hCo q=>⟨m,hn,fun h'' hs''=>?_⟩;have I'':Inv X pins σ H' {s' with heap:=h'',toks:=s'.toks}:=I'.turned (fun b o hb e=>hs''.extBut b o hb e) hC.1 hC.2.1 hC.2.2.2.1 hC.2.2.2.2.1 hC.2.2.2.2.2;exact⟨.ref l,H',I'',rfl,q⟩
theorem v7{i:Nat}{x:Str}{pos' spos:Pos}(S:jY X N' sc)(hm:MkOk X N' sc mk)(hc:X.calm=true)(hi:PI X tg iter wi)
  (hb:∀C s₀ H₀ fp,(cJ X N' sc C s₀ H₀ fp).Ok->PG (cJ X N' sc C s₀ H₀ fp) tg g/\PTs (cJ X N' sc C s₀ H₀ fp) ifs tc/\PE (cJ X N' sc C s₀ H₀ fp) elt te)
  (hN:X.N.Nodup)(hx:X.N[i]? =some x)(hl:X.env.scope.names.lookup x=some .local)
  (hsw:k6 (.ListComp elt [⟨tg,iter,ifs,0⟩] sc pos) (some (.Name x pos')) spos.line X.env=pure true)
  (hs:∀x,gz iter X.env x=pure x:=by intro _;rfl):PS X (.Assign [.Name x pos'] (.ListComp elt [⟨tg,iter,ifs,0⟩] sc pos) spos) (yc (oR wi g tc te mk) (lK i)):=by
 intro pins s σ H D I h;rw[exec_Assign_Name_used _ _ _ _ hsw];refine af (hG (af ?_));show wpAny _ X.A (do let _<-comprehension (.ListComp elt [⟨tg,iter,ifs,0⟩] sc pos) sc X.env (firstIterPos [⟨tg,iter,ifs,0⟩] pos) (newList []) false (eval iter X.env) (some (assign (.Name x pos') X.env))) _ _ s;refine af (thn (rH (use:=some (assign (.Name x pos') X.env)) (QQ:=fun _ s'=>SP X pins D .next s') S hm hc hi hb hs I h fun l C H' s' m I' hn hC hCo q=>?_) fun _ s' hq=>aj (aj hq));obtain⟨oC,eC,dC⟩:=id hCo;have I1:Inv X (pins++[(C,oC)]) σ H' s':=I'.sM fun p hp=>(ai.mp hp).elim (fun z=>I'.pin p (aS _ z)) fun z=>by
  have e:p=(C,oC):=by simpa using z
  subst e;exact⟨eC,hC.1,hC.2.1,hC.2.2.1,dC⟩
 show wpAny _ X.A (assign (.Name x pos') X.env (.ref l)) _ _ s';refine thn (xr (i:=i) hN hx (.inl hl) (.inr hl) (pins++[(C,oC)]) s' σ H' (.ref l) (.ref l) D.nx I1 rfl q) fun _ s2 ⟨σ2,H2,I2,q2⟩=>?_;obtain⟨eC2,nC2,_,_,_⟩:=I2.pin (C,oC) (aS _ (aS _ (by simp)));have hn2:s2.heap.Ns C m:=by
  obtain⟨o,es,ep,ho,r⟩:=hn;have :o=oC:=by rw[eC]at ho;exact(be ho).symm
  subst this;exact⟨o,es,ep,eC2,r⟩
 refine⟨m,hn2,fun h'' hs''=>?_⟩;have I3:Inv X pins σ2 H2 {s2 with heap:=h'',toks:=s2.toks}:=I2.fm.turned (fun b o hb e=>hs''.extBut b o hb e) nC2 hC.2.1 hC.2.2.2.1 hC.2.2.2.2.1 hC.2.2.2.2.2;exact⟨σ2,H2,I3,q2⟩
end
section
variable {X:Cx}
theorem vg:eh X (.builtin "isinstance") (fun xs H Q=>∃x T t b,xs=[x,.ty T]/\jn X.K H x t/\fI X.K t (.type T)=some b/\Q (.bl b) H):=by
 intro pins s σ H xs us Q I rv h;obtain⟨x,T,t,b,rfl,ty,e,q⟩:=h;obtain⟨u,c,rfl,ru,rc⟩:=rv.two;cases rc;exact rA I ru ty e fun tk=>⟨.bl b,H,I.tok tk,rfl,q⟩
theorem tG:eh X (.builtin "isinstance") (fun xs H Q=>∃x C t b,xs=[x,.ref C]/\jn X.K H x t/\fI X.K t (.ref C)=some b/\Q (.bl b) H):=by
 intro pins s σ H xs us Q I rv h;obtain⟨x,T,t,b,rfl,ty,e,q⟩:=h;obtain⟨u,c,rfl,ru,rc⟩:=rv.two;cases rc;exact rA I ru ty e fun tk=>⟨.bl b,H,I.tok tk,rfl,q⟩
theorem zS{prog:Program}{w:World}{A:Around}{its:List Value}{bs:List Bool}(r:bC (bs.map V.bl) its):TruthOf prog w A (fun i v=>its.toArray[i]? =some v) (fun i=>bs.getD i false):=by
 intro i v s Q E hP h;have hi:its[i]? =some v:=by simpa using hP
 have e:v=.bool (bs.getD i false):=by
  have hl:=r.length;rw[ae]at hl;have hlt:i<bs.length:=by
   have :=(bw.mp hi).1
   omega
  obtain⟨u,hu,ru⟩:=bC.get (i:=i) (x:=.bl bs[i]) r (by simp[hlt]);rw[hi]at hu;cases hu;have ru':v=tU bs[i]:=ru;rw[ru',aK,ah hlt];rfl
 rw[e];exact cg h
theorem range_all(bs:List Bool):(aM bs.length).all (fun i=>bs.getD i false)=bs.all id:=by
 have :bs=(aM bs.length).map fun i=>bs.getD i false:=by
  apply dg
  ·simp
  ·intro i h1 h2
   simp[h1]
 rw[gM];simp only[dh,dO];constructor
 ·intro h x hx
  obtain⟨i,hi,rfl⟩:=aR.mp hx;have :=h i hi;simpa[hi]using this
 ·intro h i hi
  have :=h bs[i] (cK hi)
  simpa[hi]using this
theorem BW(hc:X.calm=true):eh X (.builtin "all") (fun xs H Q=>∃(p:Addr)(bs:List Bool),xs=[.ref p]/\SqL X.K H p (bs.map V.bl)/\Q (.bl (bs.all id)) H):=by
 intro pins s σ H xs us Q I rv h;obtain⟨p,bs,rfl,hq,q⟩:=h;obtain⟨u,rfl,ru⟩:=rv.one;cases ru;obtain⟨its,r,pl,hz⟩:=I.list hq;have hlen:its.toArray.size=bs.length:=by rw[ax,<-r.length,ae]
 have hne:p≠s.heap.objs.size:=by obtain⟨o,n,ho,_⟩:=id pl;exact aD (aw ho)
 refine call_all_walk (gv pl.isList ⟨s.heap.objs.size,_,_,_,_,_,fun i=>bs.getD i false,rfl,Walks.list (A:=X.A.in1) (I.ok.hd hc) _ p hne its.toArray,⟨⟨_,aC _ rfl,rfl,rfl⟩,pl.isList.at fun o e=>ag _ e⟩,zS r,fun h' tk k=>?_⟩);rw[hlen,range_all];exact⟨.bl (bs.all id),H,I.kept (t':=tk) fun b o e=>k b o (by simpa using aD (aw e)) (ag _ e),rfl,q⟩
noncomputable def wO(x:Str)(lo hi:Option Int):Str:=⟨((x.cps.toList.drop (HT.sIx x.length 0 lo)).take (HT.sIx x.length x.length hi-HT.sIx x.length 0 lo)).toArray⟩
theorem sIx_eq(n d:Nat)(i:Int):(max 0 (min (if i<0 then i+(n:Int)else i) (n:Int)))=((HT.sIx n d (some i):Nat):Int):=by
 have :=HT.clip_eq i n d
 rw[<-this];split <;>omega
theorem strIx(lo hi:Option Int)(n:Nat):nU lo hi 1 n=(aM (HT.sIx n n hi-HT.sIx n 0 lo)).map fun k=>HT.sIx n 0 lo+k:=by
 have key:∀a b:Nat,zk (a:Int) (b:Int) 1=(aM (b-a)).map fun k=>a+k:=by
  intro a b;unfold zk;have e:(if(1:Int)>0 then(if(a:Int)<b then((b:Int)-a+1-1)/1 else 0)else(if(a:Int)>b then((a:Int)-b-1-1)/(-1)else 0)).toNat=b-a:=by
   rw[if_pos (by decide)];split <;>omega
  simp only[e];apply dJ;intro k hk;omega
 have e1:∀(o:Option Int)(d:Nat),(match o with |none=>(d:Int) |some i=>max 0 (min (if i<0 then i+(n:Int)else i) (n:Int)))=((HT.sIx n d o:Nat):Int):=by
  intro o d;cases o with
  |none=>rfl
  |some i=>exact sIx_eq n d i
 have a1:=e1 lo 0;have a2:=e1 hi n;unfold nU;simp only[show(1:Int)>0 by decide,if_true];have b1:((0:Nat):Int)=0:=rfl;rw[b1]at a1;rw[<-key,<-a1,<-a2];cases lo<;>cases hi<;>rfl
theorem pickN(xs:Array Nat)(i:Nat):∀k,((aM k).map fun m=>i+m).filterMap (xs[·]?)=(xs.toList.drop i).take k:=by
 intro k
 induction k with
 |zero=>simp
 |succ k ih=>
  rw[List.range_succ,aG,List.filterMap_append,ih];by_cases h:i+k<xs.size
  ·rw[List.take_succ,iG]
   simp[h]
  ·rw[List.take_succ,iG]
   simp[h]
theorem yg(x:Str)(lo hi:Option Int):Txt.slice x lo hi=wO x lo hi:=by
 have hl:HT.sIx x.length 0 lo<=x.length:=HT.Ar _ _ (aL _) lo;have hu:HT.sIx x.length x.length hi<=x.length:=HT.Ar _ _ (ar _) hi;unfold Txt.slice wO;rw[strIx];split
 ·rename_i h
  rw[aN,beq_iff_eq,beq_iff_eq,ae,dz]at h;have a:HT.sIx x.length 0 lo=0:=by omega
  have b:HT.sIx x.length x.length hi=x.length:=by omega
  rw[a,b];have :x.cps.toList.length=x.length:=by simp[vx]
  rw[uf,kh,<-this,bN]
 ·rw[pickN]
theorem nc{v:Value}{o:Option Int}(p:IsPart v o):∃l:Option (Int×Tok),v=partValue l/\o=l.map (·.1):=by
 cases p with
 |none=>exact⟨none,rfl,rfl⟩
 |int i t=>exact⟨some (i,t),rfl,rfl⟩
noncomputable def rSlS:V->Option Int->Option Int->Hp->VK->Prop:=fun x lo hi H Q=>∃z,x=.str z/\z.length<=sizeLine/\Q (.str (wO z lo hi)) H
theorem sl_str:SlR X rSlS:=by
 intro pins s σ H x v vl vu lo hi sl Q I rx hs pl pu h;obtain⟨z,rfl,hz,q⟩:=h;obtain⟨t,rfl⟩:=rx;obtain⟨l,rfl,rfl⟩:=nc pl;obtain⟨u,rfl,rfl⟩:=nc pu;refine⟨"str",_,F.slot_str_getitem.lookup,typeIs_str _ _ _,?_⟩;refine wpAny_getItem_str_slice (l:=l) (u:=u) (st:=none) hs rfl (post_val_or_str ⟨aP (Txt.slice_le z _ _) hz,fun t' k=>?_⟩);have e:=yg z (l.map (·.1)) (u.map (·.1));unfold Txt.slice at e;refine⟨.str (wO z (l.map (·.1)) (u.map (·.1))),H,I.tok k,⟨t',?_⟩,q⟩;rw[<-e];rfl
noncomputable def Its(x:Str):It:=⟨fun i _=>i<x.length,fun i H v H'=>H'=H/\∃c,x.cps[i]? =some c/\v=.str ⟨#[c]⟩,fun i _=>x.length<=i⟩
end
theorem qU{prog:Program}{w:World}(it:Addr)(x:Str)(t:Tok)(A:Around)(hA:A.handled=none):
  Walks prog w A it [it] [it] x.cps.size (SignAt x) (fun i h=>h.IsStrIter it (ff x) x t i):=by
 unfold ff;cases ha:x.cps.all (·<128)
 ·simp only[bH,if_false];exact Walks.strWide hA it x t
 ·simp only[if_true];exact Walks.strAscii hA it x t
theorem zQ{P:Program}{w:World}{K:aa}{tg:Expr}(x:Str)(it:Addr)(t:Tok):Turn P w K tg (Its x) [it] it (fun i h=>h.IsStrIter it (ff x) x t i) where
 mem:=by simp
 obj:=fun i h st b hb=>by
  have e:b=it:=by simpa using hb
  subst e;obtain⟨o,e,c,d⟩:=st;exact⟨o,e,fun v z=>by rw[d]at z;cases z⟩
 keep:=fun i h h' st k=>let⟨o,ho,r⟩:=st;⟨o,k it (by simp) o ho,r⟩
 item:=by
  intro X hP hw hK hc i pins s σ H E I hf st hg;subst hP hw hK;obtain⟨f0,f1,f2,f3,f4,f5⟩:=hf it (by simp);have W:=qU (prog:=X.prog) (w:=X.w) it x t X.A (I.ok.hd hc);refine W.item i s _ _ hg st fun v h' tk hv st' kk=>?_;obtain⟨c,u,hc',rfl⟩:=hv;have I1:Inv X pins σ H {s with heap:=h',toks:=tk}:=I.turned (fun b o hb e=>kk b o (by simpa using hb) e) f0 f1 f3 f4 f5;obtain⟨o,e,cl,d⟩:=id st';refine⟨_,rfl,rD (s:={s with heap:=h',toks:=tk}) (n:=ff x) e cl d ?_ ⟨.str ⟨#[c]⟩,H,I1,⟨u,rfl⟩,⟨rfl,c,hc',rfl⟩,st',fun b hb=>(hf b hb).1⟩⟩;unfold ff;split <;>decide
 done:=by
  intro X hP hw hK hc i pins s σ H E I hf st hg;subst hP hw hK;obtain⟨f0,f1,f2,f3,f4,f5⟩:=hf it (by simp);have hg':x.length<=i:=hg;by_cases hi:i=x.cps.size
  ·subst hi
   have W:=qU (prog:=X.prog) (w:=X.w) it x t X.A (I.ok.hd hc);exact W.done s _ _ st fun h' tk kk=>⟨rfl,I.turned (fun b o hb e=>kk b o (by simpa using hb) e) f0 f1 f3 f4 f5⟩
  ·have hn:x.cps[i]? =none:=by
    rw[Array.getElem?_eq_none_iff];exact hg'
   have st2:s.heap.IsStrIter it (ff x) x t i:=st;unfold ff at st2;cases ha:x.cps.all (·<128)
   ·rw[ha]at st2
    exact wpAny_pyNext_wide_end (I.ok.hd hc) st2 hn fun h' eb=>⟨rfl,I.turned (t':=s.toks) (fun b o hb e=>eb b o hb e) f0 f1 f3 f4 f5⟩
   ·rw[ha]at st2
    exact wpAny_pyNext_ascii_end (I.ok.hd hc) st2 hn fun h' eb=>⟨rfl,I.turned (t':=s.toks) (fun b o hb e=>eb b o hb e) f0 f1 f3 f4 f5⟩
 self:=fun A i s Q E st h=>by
  have st2:s.heap.IsStrIter it (ff x) x t i:=st;unfold ff at st2;cases ha:x.cps.all (·<128)
  ·rw[ha]at st2;exact wpAny_pyIter_striter_wide st2 h
  ·rw[ha]at st2;exact wpAny_pyIter_striter_ascii st2 h
noncomputable def Ite(K:aa)(a:Addr):It:=
 ⟨fun i H=>∃xs x,SqL K H a xs/\xs[i]? =some x,fun i H v H'=>∃p x,H p=none/\H'=upd H p (.tup [.int i,x])/\v=.ref p/\∀xs,SqL K H a xs->xs[i]? =some x,fun i H=>∃xs,SqL K H a xs/\xs.length<=i⟩
section
variable {X:Cx}{es:List Expr}{kk:Nat}{pp:Pos}
noncomputable def iEnum(K:aa)(tl:TE):TI:=fun σ H R=>tl σ H fun x H1=>∃a,x=.ref a/\(∃xs,SqL K H1 a xs)/\R (Ite K a) H1
end
inductive D where
 |non|bl (b:Bool) |int (i:Int) |str (x:Str) |tup (ds:List D) |lst (ds:List D)
 deriving Inhabited
mutual
noncomputable def Rep(K:aa)(H:Hp):D->V->Prop
 |.non,v=>v=.non
 |.bl b,v=>v=.bl b
 |.int i,v=>v=.int i
 |.str x,v=>v=.str x
 |.tup ds,v=>∃a xs,v=.ref a/\SqT K H a xs/\fT K H ds xs
 |.lst ds,v=>∃a xs,v=.ref a/\SqL K H a xs/\fT K H ds xs
noncomputable def fT(K:aa)(H:Hp):List D->List V->Prop
 | [],xs=>xs=[]
 |d::ds,xs=>∃x r,xs=x::r/\Rep K H d x/\fT K H ds r
end
theorem fT.length{K:aa}{H:Hp}:∀{ds:List D}{xs:List V},fT K H ds xs->xs.length=ds.length
 | [],_,h=>by rw[show _=[]from h];rfl
 |d::ds,_,h=>by
  obtain⟨x,r,rfl,_,h2⟩:=h;rw[bg,bg,fT.length h2]
theorem fT.at{K:aa}{H:Hp}:∀{ds:List D}{xs:List V}{i:Nat}{d:D},fT K H ds xs->ds[i]? =some d->∃x,xs[i]? =some x/\Rep K H d x
 | [],_,i,d,h,e=>by simp at e
 |d::ds,_,0,d',h,e=>by
  obtain⟨y,r,rfl,h1,h2⟩:=h;simp at e;subst e;exact⟨y,rfl,h1⟩
 |d::ds,_,i+1,d',h,e=>by
  obtain⟨y,r,rfl,h1,h2⟩:=h;obtain⟨x,e',h'⟩:=fT.at (i:=i) h2 (by simpa using e);exact⟨x,by simpa using e',h'⟩
theorem fT.ints{K:aa}{H:Hp}:∀(ns:List Int),fT K H (ns.map D.int) (ns.map V.int)
 | []=>rfl
 |n::ns=>⟨_,_,rfl,rfl,fT.ints ns⟩
mutual
noncomputable def eqD:D->D->Bool
 |.non,.non=>true
 |.bl a,.bl b=>a==b
 |.bl a,.int b=>(if a then 1 else 0)==b
 |.int a,.bl b=>a==(if b then 1 else 0)
 |.int a,.int b=>a==b
 |.str a,.str b=>a==b
 |.tup a,.tup b=>jm a b
 |.lst a,.lst b=>jm a b
 |_,_=>false
noncomputable def jm:List D->List D->Bool
 | [],[]=>true
 |a::as,b::bs=>eqD a b&&jm as bs
 |_,_=>false
end
mutual
noncomputable def hgt:D->Nat
 |.tup ds=>gH ds+1
 |.lst ds=>gH ds+1
 |_=>0
noncomputable def gH:List D->Nat
 | []=>0
 |d::ds=>max (hgt d) (gH ds)
end
theorem mK:∀{ds:List D}{i:Nat}{d:D},ds[i]? =some d->hgt d<=gH ds
 | [],i,d,e=>by simp at e
 |d::ds,0,d',e=>by simp at e;subst e;simp only[gH];omega
 |d::ds,i+1,d',e=>by
  have :=mK (i:=i) (ds:=ds) (d:=d') (by simpa using e)
  simp only[gH];omega
theorem jF:∀(as bs:List D)(e:Nat->Bool),as.length=bs.length->(∀(i:Nat) a b,as[i]? =some a->bs[i]? =some b->e i=eqD a b)->(aM as.length).all e=jm as bs
 | [],[],e,_,_=>rfl
 |a::as,b::bs,e,hl,h=>by
  rw[bg,List.range_succ_eq_map,mY,oI];have h0:=h 0 a b rfl rfl;have ih:=jF as bs (fun i=>e (i+1)) (by simpa using hl) fun i x y hx hy=>h (i+1) x y (by simpa using hx) (by simpa using hy);rw[h0];show(eqD a b&&(aM as.length).all (fun i=>e (i+1)))=_;rw[ih,jm]
 | [],b::bs,e,hl,_=>by simp at hl
 |a::as,[],e,hl,_=>by simp at hl
theorem jE:∀(as bs:List D),as.length≠bs.length->jm as bs=false
 | [],[],h=>absurd rfl h
 |a::as,b::bs,h=>by
  rw[jm,jE as bs (by simpa using h),dk]
 | [],b::bs,_=>rfl
 |a::as,[],_=>rfl
mutual
theorem pM:∀d:D,eqD d d=true
 |.non=>rfl
 |.bl b=>by simp[eqD]
 |.int i=>by simp[eqD]
 |.str x=>by simp[eqD]
 |.tup ds=>by rw[eqD];exact mM ds
 |.lst ds=>by rw[eqD];exact mM ds
theorem mM:∀ds:List D,jm ds ds=true
 | []=>rfl
 |d::ds=>by rw[jm,pM d,mM ds];rfl
end
section
variable {X:Cx}{pins:List (Addr×Obj)}{σ:St}{H:Hp}{s:Shared}
mutual
theorem Inv.sH(I:Inv X pins σ H s):∀{d d':D}{v:V},Rep X.K H d v->Rep X.K H d' v->d=d'
 |.non,d',v,h,h'=>by
  cases(show v=V.non from h);cases d'<;>first | (obtain⟨_,_,z,_⟩:=h';cases z;done) |rfl| (cases h';done)
 |.bl b,d',v,h,h'=>by
  cases(show v=V.bl b from h);cases d'<;>first | (obtain⟨_,_,z,_⟩:=h';cases z;done) | (cases h';rfl) | (cases h';done)
 |.int b,d',v,h,h'=>by
  cases(show v=V.int b from h);cases d'<;>first | (obtain⟨_,_,z,_⟩:=h';cases z;done) | (cases h';rfl) | (cases h';done)
 |.str b,d',v,h,h'=>by
  cases(show v=V.str b from h);cases d'<;>first | (obtain⟨_,_,z,_⟩:=h';cases z;done) | (cases h';rfl) | (cases h';done)
 |.tup ds,d',v,h,h'=>by
  obtain⟨a,xs,rfl,h1,h2⟩:=h;cases d' with
  |tup ds'=>
   obtain⟨b,ys,e,h1',h2'⟩:=h';cases e;have :=I.qS h1 h1';subst this;rw[Inv.oZ I h2 h2']
  |lst ds'=>
   obtain⟨b,ys,e,h1',h2'⟩:=h';cases e;obtain⟨its,_,⟨o,e1,c1,_⟩,_⟩:=I.tuple h1;obtain⟨its',_,⟨o',n,e2,c2,_⟩,_⟩:=I.list h1';rw[e1]at e2;cases e2;rw[c1]at c2;exact absurd c2 (by decide+kernel)
  |_=>cases h'
 |.lst ds,d',v,h,h'=>by
  obtain⟨a,xs,rfl,h1,h2⟩:=h;cases d' with
  |lst ds'=>
   obtain⟨b,ys,e,h1',h2'⟩:=h';cases e;have :=I.lI h1 h1';subst this;rw[Inv.oZ I h2 h2']
  |tup ds'=>
   obtain⟨b,ys,e,h1',h2'⟩:=h';cases e;obtain⟨its,_,⟨o,n,e1,c1,_⟩,_⟩:=I.list h1;obtain⟨its',_,⟨o',e2,c2,_⟩,_⟩:=I.tuple h1';rw[e1]at e2;cases e2;rw[c1]at c2;exact absurd c2 (by decide+kernel)
  |_=>cases h'
theorem Inv.oZ(I:Inv X pins σ H s):∀{ds ds':List D}{xs:List V},fT X.K H ds xs->fT X.K H ds' xs->ds=ds'
 | [],[],_,_,_=>rfl
 | [],d::ds,xs,h,h'=>by
  obtain⟨x,r,e,_⟩:=h';rw[show xs=[]from h]at e;cases e
 |d::ds,[],xs,h,h'=>by
  obtain⟨x,r,e,_⟩:=h;rw[show xs=[]from h']at e;cases e
 |d::ds,d'::ds',xs,h,h'=>by
  obtain⟨x,r,rfl,h1,h2⟩:=h;obtain⟨y,r',e,h1',h2'⟩:=h';cases e;rw[Inv.sH I h1 h1',Inv.oZ I h2 h2']
end
open PySem.SeqAt
theorem Inv.rcTup(I:Inv X pins σ H s)(A:Around){ds ds':List D}{a b:Addr}{xs ys:List V}(hit:∀(i:Nat)(d d':D)(x y:V)(u u':Value),ds[i]? =some d->ds'[i]? =some d'->Rep X.K H d x->Rep X.K H d' y->RelV x u->RelV y u'->EqAt A.in1 s u u' (eqD d d'))(h1:SqT X.K H a xs)(h2:fT X.K H ds xs)(h1':SqT X.K H b ys)(h2':fT X.K H ds' ys)(hu:A.units<cLine):RcAt A s (.ref a) (.ref b) (jm ds ds'):=by
  obtain⟨its,r,p,_⟩:=I.tuple h1;obtain⟨its',r',p',_⟩:=I.tuple h1';have l1:=h2.length;have l2:=h2'.length;have l3:=r.length;have l4:=r'.length;have key:=RcAt.tuples (e:=fun j=>match ds[j]?,ds'[j]? with |some d,some d'=>eqD d d'|_,_=>false) p p' (A:=A) (by omega) (fun j g1 g2=>by
   have g1':j<its.length:=by simpa using g1
   have g2':j<its'.length:=by simpa using g2
   have e1:ds[j]? =some ds[j]:=ah (by omega);have e2:ds'[j]? =some ds'[j]:=ah (by omega);show EqAt A.in1 s _ _ (match ds[j]?,ds'[j]? with |some d,some d'=>eqD d d'|_,_=>false);rw[e1,e2];obtain⟨x,hx,rx⟩:=h2.at e1;obtain⟨y,hy,ry⟩:=h2'.at e2;obtain⟨u,hu1,ru⟩:=r.get hx;obtain⟨u',hu2,ru'⟩:=r'.get hy;have q1:its.toArray[j]=u:=by have :its[j]? =some its[j]:=ah g1';rw[this]at hu1;simpa using hu1
   have q2:its'.toArray[j]=u':=by have :its'[j]? =some its'[j]:=ah g2';rw[this]at hu2;simpa using hu2
   rw[q1,q2];exact hit j _ _ x y u u' e1 e2 rx ry ru ru')
  have hs:its.toArray.size=ds.length:=by simp;omega
  have hs':its'.toArray.size=ds'.length:=by simp;omega
  rw[hs,hs']at key;by_cases hl:ds.length=ds'.length
  ·have e:((aM (min ds.length ds'.length)).all (fun j=>match ds[j]?,ds'[j]? with |some d,some d'=>eqD d d'|_,_=>false)&&ds.length==ds'.length)=jm ds ds':=by
    rw[<-hl,zr,beq_self_eq_true,gA];refine jF ds ds' _ hl fun i x y hx hy=>?_;simp only[hx,hy]
   rw[e]at key;exact key
  ·have e:((aM (min ds.length ds'.length)).all (fun j=>match ds[j]?,ds'[j]? with |some d,some d'=>eqD d d'|_,_=>false)&&ds.length==ds'.length)=jm ds ds':=by
    rw[jE ds ds' hl,beq_eq_false_iff_ne.mpr hl,dk]
   rw[e]at key;exact key
theorem Inv.rcLst(I:Inv X pins σ H s)(A:Around){ds ds':List D}{a b:Addr}{xs ys:List V}(hit:∀(i:Nat)(d d':D)(x y:V)(u u':Value),ds[i]? =some d->ds'[i]? =some d'->Rep X.K H d x->Rep X.K H d' y->RelV x u->RelV y u'->EqAt A.in1 s u u' (eqD d d'))(h1:SqL X.K H a xs)(h2:fT X.K H ds xs)(h1':SqL X.K H b ys)(h2':fT X.K H ds' ys)(hu:A.units<cLine):RcAt A s (.ref a) (.ref b) (jm ds ds'):=by
  obtain⟨its,r,p,_⟩:=I.list h1;obtain⟨its',r',p',_⟩:=I.list h1';have l1:=h2.length;have l2:=h2'.length;have l3:=r.length;have l4:=r'.length;by_cases hl:ds.length=ds'.length
  ·have key:=RcAt.lists (e:=fun j=>match ds[j]?,ds'[j]? with |some d,some d'=>eqD d d'|_,_=>false) p.isList p'.isList (A:=A) (by simp;omega) (by omega) (fun j g1 g2=>by
    have g1':j<its.length:=by simpa using g1
    have g2':j<its'.length:=by simpa using g2
    have e1:ds[j]? =some ds[j]:=ah (by omega);have e2:ds'[j]? =some ds'[j]:=ah (by omega);show EqAt A.in1 s _ _ (match ds[j]?,ds'[j]? with |some d,some d'=>eqD d d'|_,_=>false);rw[e1,e2];obtain⟨x,hx,rx⟩:=h2.at e1;obtain⟨y,hy,ry⟩:=h2'.at e2;obtain⟨u,hu1,ru⟩:=r.get hx;obtain⟨u',hu2,ru'⟩:=r'.get hy;have q1:its.toArray[j]=u:=by have :its[j]? =some its[j]:=ah g1';rw[this]at hu1;simpa using hu1
    have q2:its'.toArray[j]=u':=by have :its'[j]? =some its'[j]:=ah g2';rw[this]at hu2;simpa using hu2
    rw[q1,q2];exact hit j _ _ x y u u' e1 e2 rx ry ru ru')
   have hs:its.toArray.size=ds.length:=by simp;omega
   rw[hs,jF ds ds' _ hl fun i x y hx hy=>by simp only[hx,hy]]at key;exact key
  ·have key:=RcAt.lists_lengths p.isList p'.isList (A:=A) (by simp;omega) (by omega)
   rw[jE ds ds' hl];exact key
theorem Inv.shp(I:Inv X pins σ H s){d:D}{v:V}{u:Value}(h:Rep X.K H d v)(r:RelV v u):(d=.non/\v=.non/\u=.none)\/(∃x,d=.bl x/\v=.bl x/\u=.bool x)\/(∃x t,d=.int x/\v=.int x/\u=.int x t)\/(∃x t,d=.str x/\v=.str x/\u=.str x t)\/(∃ds a xs its,d=.tup ds/\v=.ref a/\u=.ref a/\SqT X.K H a xs/\fT X.K H ds xs/\IsTup s.heap a its)\/∃ds a xs its,d=.lst ds/\v=.ref a/\u=.ref a/\SqL X.K H a xs/\fT X.K H ds xs/\s.heap.IsList a its:=by
 cases d with
 |non=>cases(show v=_ from h);cases r;exact .inl ⟨rfl,rfl,rfl⟩
 |bl x=>cases(show v=_ from h);cases r;exact .inr (.inl ⟨x,rfl,rfl,rfl⟩)
 |int x=>cases(show v=_ from h);obtain⟨t,rfl⟩:=r;exact .inr (.inr (.inl ⟨x,t,rfl,rfl,rfl⟩))
 |str x=>cases(show v=_ from h);obtain⟨t,rfl⟩:=r;exact .inr (.inr (.inr (.inl ⟨x,t,rfl,rfl,rfl⟩)))
 |tup ds=>obtain⟨a,xs,rfl,h1,h2⟩:=id h;cases r;obtain⟨its,_,p,_⟩:=I.tuple h1;exact .inr (.inr (.inr (.inr (.inl ⟨ds,a,xs,_,rfl,rfl,rfl,h1,h2,p⟩))))
 |lst ds=>obtain⟨a,xs,rfl,h1,h2⟩:=id h;cases r;obtain⟨its,_,p,_⟩:=I.list h1;exact .inr (.inr (.inr (.inr (.inr ⟨ds,a,xs,_,rfl,rfl,rfl,h1,h2,p.isList⟩))))
theorem Inv.eqAt1(I:Inv X pins σ H s){n:Nat}(A:Around)(hit:∀(m:Nat)(ds ds':List D)(i:Nat)(d d':D)(x y:V)(u u':Value),n=m+1->gH ds<=m->ds[i]? =some d->ds'[i]? =some d'->Rep X.K H d x->Rep X.K H d' y->RelV x u->RelV y u'->EqAt A.in1 s u u' (eqD d d')):
  ∀(d d':D)(v v':V)(u u':Value),Rep X.K H d v->Rep X.K H d' v'->RelV v u->RelV v' u'->hgt d<=n->A.units+n+1<cLine->EqAt A s u u' (eqD d d'):=by
 intro d d' v v' u u' h h' r r' hn hu;obtain⟨rfl,rfl,rfl⟩ |⟨_,rfl,rfl,rfl⟩ |⟨_,t,rfl,rfl,rfl⟩ |⟨_,t,rfl,rfl,rfl⟩ |⟨ds,a,xs,its,rfl,rfl,rfl,h1,h2,p⟩ |⟨ds,a,xs,its,rfl,rfl,rfl,h1,h2,p⟩:=I.shp h r<;>obtain⟨rfl,rfl,rfl⟩ |⟨_,rfl,rfl,rfl⟩ |⟨_,t',rfl,rfl,rfl⟩ |⟨_,t',rfl,rfl,rfl⟩ |⟨ds',b,ys,its',rfl,rfl,rfl,h1',h2',p'⟩ |⟨ds',b,ys,its',rfl,rfl,rfl,h1',h2',p'⟩:=I.shp h' r'
 ·exact d7 r r' rfl rfl
 ·exact d7 r r' rfl rfl
 ·exact d7 r r' rfl rfl
 ·exact d7 r r' rfl rfl
 ·exact EqAt.none_tuple p' (by omega)
 ·exact EqAt.none_list p' (by omega)
 ·exact d7 r r' rfl rfl
 ·exact d7 r r' rfl rfl
 ·exact d7 r r' rfl rfl
 ·exact d7 r r' rfl rfl
 ·exact EqAt.bool_tuple _ p' (by omega)
 ·exact EqAt.bool_list _ p' (by omega)
 ·exact d7 r r' rfl rfl
 ·exact d7 r r' rfl rfl
 ·exact d7 r r' rfl rfl
 ·exact d7 r r' rfl rfl
 ·exact EqAt.int_tuple _ t p' (by omega)
 ·exact EqAt.int_list _ t p' (by omega)
 ·exact d7 r r' rfl rfl
 ·exact d7 r r' rfl rfl
 ·exact d7 r r' rfl rfl
 ·exact d7 r r' rfl rfl
 ·exact EqAt.str_tuple _ t p' (by omega)
 ·exact EqAt.str_list _ t p' (by omega)
 ·exact EqAt.tuple_none p (by omega)
 ·exact EqAt.tuple_bool _ p (by omega)
 ·exact EqAt.tuple_int _ t' p (by omega)
 ·exact EqAt.tuple_str _ t' p (by omega)
 ·rw[hgt]at hn
  by_cases z:a=b
  ·subst z
   have e:=I.sH h h';rw[<-e,pM];exact EqAt.same _
  ·rw[eqD]
   exact EqAt.of_refs z (Inv.rcTup I A (fun i d d' x y u u' e1 e2 rx ry ru ru'=>hit (n-1) ds ds' i d d' x y u u' (by omega) (by omega) e1 e2 rx ry ru ru') h1 h2 h1' h2' (by omega))
 ·exact EqAt.tuple_list p p' (by omega)
 ·exact EqAt.list_none p (by omega)
 ·exact EqAt.list_bool _ p (by omega)
 ·exact EqAt.list_int _ t' p (by omega)
 ·exact EqAt.list_str _ t' p (by omega)
 ·exact EqAt.list_tuple p p' (by omega)
 ·rw[hgt]at hn
  by_cases z:a=b
  ·subst z
   have e:=I.sH h h';rw[<-e,pM];exact EqAt.same _
  ·rw[eqD]
   exact EqAt.of_refs z (Inv.rcLst I A (fun i d d' x y u u' e1 e2 rx ry ru ru'=>hit (n-1) ds ds' i d d' x y u u' (by omega) (by omega) e1 e2 rx ry ru ru') h1 h2 h1' h2' (by omega))
theorem Inv.xD(I:Inv X pins σ H s):∀(n:Nat)(A:Around)(d d':D)(v v':V)(u u':Value),Rep X.K H d v->Rep X.K H d' v'->RelV v u->RelV v' u'->hgt d<=n->A.units+n+1<cLine->EqAt A s u u' (eqD d d'):=by
 intro n
 induction n with
 |zero=>exact fun A d d' v v' u u' h h' r r' hn hu=>Inv.eqAt1 I A (fun m ds ds' i d d' x y u u' hm _ _ _ _ _ _ _=>absurd hm (by omega)) d d' v v' u u' h h' r r' hn hu
 |succ n ih=>
  exact fun A d d' v v' u u' h h' r r' hn hu=>Inv.eqAt1 I A (fun m ds ds' i d d' x y u u' hm hd e1 e2 rx ry ru ru'=>ih A.in1 d d' x y u u' rx ry ru ru' (by have :=mK e1;omega) (by show A.units+1+n+1<cLine;omega)) d d' v v' u u' h h' r r' hn hu
end
end L2
namespace L2
open PySem PySem.Spec PyProof.Rows PySem.SeqAt
section
variable {X:Cx}{pins:List (Addr×Obj)}{σ:St}{H:Hp}{s:Shared}
theorem Inv.neTup(I:Inv X pins σ H s)(A:Around){ds ds':List D}{a b:Addr}{xs ys:List V}(hit:∀(i:Nat)(d d':D)(x y:V)(u u':Value),ds[i]? =some d->ds'[i]? =some d'->Rep X.K H d x->Rep X.K H d' y->RelV x u->RelV y u'->EqAt A.in1 s u u' (eqD d d'))
  (h1:SqT X.K H a xs)(h2:fT X.K H ds xs)(h1':SqT X.K H b ys)(h2':fT X.K H ds' ys)(hu:A.units<cLine):RcNeAt A s (.ref a) (.ref b) (!jm ds ds'):=by
 obtain⟨its,r,p,_⟩:=I.tuple h1;obtain⟨its',r',p',_⟩:=I.tuple h1';have l1:=h2.length;have l2:=h2'.length;have l3:=r.length;have l4:=r'.length;have key:=RcNeAt.tuples (e:=fun j=>match ds[j]?,ds'[j]? with |some d,some d'=>eqD d d'|_,_=>false) p p' (A:=A) hu (fun j g1 g2=>by
  have g1':j<its.length:=by simpa using g1
  have g2':j<its'.length:=by simpa using g2
  have e1:ds[j]? =some ds[j]:=ah (by omega);have e2:ds'[j]? =some ds'[j]:=ah (by omega);show EqAt A.in1 s _ _ (match ds[j]?,ds'[j]? with |some d,some d'=>eqD d d'|_,_=>false);rw[e1,e2];obtain⟨x,hx,rx⟩:=h2.at e1;obtain⟨y,hy,ry⟩:=h2'.at e2;obtain⟨u,hu1,ru⟩:=r.get hx;obtain⟨u',hu2,ru'⟩:=r'.get hy;have q1:its.toArray[j]=u:=by have :its[j]? =some its[j]:=ah g1';rw[this]at hu1;simpa using hu1
  have q2:its'.toArray[j]=u':=by have :its'[j]? =some its'[j]:=ah g2';rw[this]at hu2;simpa using hu2
  rw[q1,q2];exact hit j _ _ x y u u' e1 e2 rx ry ru ru')
 have hs:its.toArray.size=ds.length:=by simp;omega
 have hs':its'.toArray.size=ds'.length:=by simp;omega
 rw[hs,hs']at key;have e:((aM (min ds.length ds'.length)).all (fun j=>match ds[j]?,ds'[j]? with |some d,some d'=>eqD d d'|_,_=>false)&&ds.length==ds'.length)=jm ds ds':=by
  by_cases hl:ds.length=ds'.length
  ·rw[<-hl,zr,beq_self_eq_true,gA]
   refine jF ds ds' _ hl fun i x y hx hy=>?_;simp only[hx,hy]
  ·rw[jE ds ds' hl,beq_eq_false_iff_ne.mpr hl,dk]
 rw[e]at key;exact key
theorem Inv.neLst(I:Inv X pins σ H s)(A:Around){ds ds':List D}{a b:Addr}{xs ys:List V}(hit:∀(i:Nat)(d d':D)(x y:V)(u u':Value),ds[i]? =some d->ds'[i]? =some d'->Rep X.K H d x->Rep X.K H d' y->RelV x u->RelV y u'->EqAt A.in1 s u u' (eqD d d'))
  (h1:SqL X.K H a xs)(h2:fT X.K H ds xs)(h1':SqL X.K H b ys)(h2':fT X.K H ds' ys)(hu:A.units<cLine):RcNeAt A s (.ref a) (.ref b) (!jm ds ds'):=by
 obtain⟨its,r,p,_⟩:=I.list h1;obtain⟨its',r',p',_⟩:=I.list h1';have l1:=h2.length;have l2:=h2'.length;have l3:=r.length;have l4:=r'.length;by_cases hl:ds.length=ds'.length
 ·have key:=RcNeAt.lists (e:=fun j=>match ds[j]?,ds'[j]? with |some d,some d'=>eqD d d'|_,_=>false) p.isList p'.isList (A:=A) (by simp;omega) hu (fun j g1 g2=>by
   have g1':j<its.length:=by simpa using g1
   have g2':j<its'.length:=by simpa using g2
   have e1:ds[j]? =some ds[j]:=ah (by omega);have e2:ds'[j]? =some ds'[j]:=ah (by omega);show EqAt A.in1 s _ _ (match ds[j]?,ds'[j]? with |some d,some d'=>eqD d d'|_,_=>false);rw[e1,e2];obtain⟨x,hx,rx⟩:=h2.at e1;obtain⟨y,hy,ry⟩:=h2'.at e2;obtain⟨u,hu1,ru⟩:=r.get hx;obtain⟨u',hu2,ru'⟩:=r'.get hy;have q1:its.toArray[j]=u:=by have :its[j]? =some its[j]:=ah g1';rw[this]at hu1;simpa using hu1
   have q2:its'.toArray[j]=u':=by have :its'[j]? =some its'[j]:=ah g2';rw[this]at hu2;simpa using hu2
   rw[q1,q2];exact hit j _ _ x y u u' e1 e2 rx ry ru ru')
  have hs:its.toArray.size=ds.length:=by simp;omega
  rw[hs,jF ds ds' _ hl fun i x y hx hy=>by simp only[hx,hy]]at key;exact key
 ·have key:=RcNeAt.lists_lengths p.isList p'.isList (A:=A) (by simp;omega) hu
  rw[jE ds ds' hl];exact key
theorem Inv.rcD(I:Inv X pins σ H s)(A:Around)(d d':D)(v v':V)(u u':Value)(h:Rep X.K H d v)(h':Rep X.K H d' v')(r:RelV v u)(r':RelV v' u')(hu:A.units+hgt d+1<cLine):RcAt A s u u' (eqD d d'):=by
 obtain⟨rfl,rfl,rfl⟩ |⟨_,rfl,rfl,rfl⟩ |⟨_,t,rfl,rfl,rfl⟩ |⟨_,t,rfl,rfl,rfl⟩ |⟨ds,a,xs,its,rfl,rfl,rfl,h1,h2,p⟩ |⟨ds,a,xs,its,rfl,rfl,rfl,h1,h2,p⟩:=I.shp h r<;>obtain⟨rfl,rfl,rfl⟩ |⟨_,rfl,rfl,rfl⟩ |⟨_,t',rfl,rfl,rfl⟩ |⟨_,t',rfl,rfl,rfl⟩ |⟨ds',b,ys,its',rfl,rfl,rfl,h1',h2',p'⟩ |⟨ds',b,ys,its',rfl,rfl,rfl,h1',h2',p'⟩:=I.shp h' r'
 ·exact RcAt.none_none
 ·exact RcAt.none_bool _
 ·exact RcAt.none_int _ t'
 ·exact RcAt.none_str _ t'
 ·exact RcAt.none_tuple p' (by omega)
 ·exact RcAt.none_list p' (by omega)
 ·exact RcAt.bool_none _
 ·exact RcAt.bool_bool _ _
 ·exact RcAt.bool_int _ _ t'
 ·exact RcAt.bool_str _ _ t'
 ·exact RcAt.bool_tuple _ p' (by omega)
 ·exact RcAt.bool_list _ p' (by omega)
 ·exact RcAt.int_none _ t
 ·exact RcAt.int_bool _ t _
 ·exact RcAt.int_int _ t _ t'
 ·exact RcAt.int_str _ t _ t'
 ·exact RcAt.int_tuple _ t p' (by omega)
 ·exact RcAt.int_list _ t p' (by omega)
 ·exact RcAt.str_none _ t
 ·exact RcAt.str_bool _ t _
 ·exact RcAt.str_int _ t _ t'
 ·exact RcAt.str_str _ t _ t'
 ·exact RcAt.str_tuple _ t p' (by omega)
 ·exact RcAt.str_list _ t p' (by omega)
 ·exact RcAt.tuple_none p (by omega)
 ·exact RcAt.tuple_bool _ p (by omega)
 ·exact RcAt.tuple_int _ t' p (by omega)
 ·exact RcAt.tuple_str _ t' p (by omega)
 ·rw[eqD];exact Inv.rcTup I A (fun i d d' x y u u' e1 e2 rx ry ru ru'=>Inv.xD I (gH ds) A.in1 d d' x y u u' rx ry ru ru' (mK e1) (by rw[hgt]at hu;show A.units+1+gH ds+1<cLine;omega)) h1 h2 h1' h2' (by omega)
 ·exact RcAt.tuple_list p p' (by omega)
 ·exact RcAt.list_none p (by omega)
 ·exact RcAt.list_bool _ p (by omega)
 ·exact RcAt.list_int _ t' p (by omega)
 ·exact RcAt.list_str _ t' p (by omega)
 ·exact RcAt.list_tuple p p' (by omega)
 ·rw[eqD];exact Inv.rcLst I A (fun i d d' x y u u' e1 e2 rx ry ru ru'=>Inv.xD I (gH ds) A.in1 d d' x y u u' rx ry ru ru' (mK e1) (by rw[hgt]at hu;show A.units+1+gH ds+1<cLine;omega)) h1 h2 h1' h2' (by omega)
theorem Inv.rcNeD(I:Inv X pins σ H s)(A:Around)(d d':D)(v v':V)(u u':Value)(h:Rep X.K H d v)(h':Rep X.K H d' v')(r:RelV v u)(r':RelV v' u')(hu:A.units+hgt d+1<cLine):RcNeAt A s u u' (!eqD d d'):=by
 obtain⟨rfl,rfl,rfl⟩ |⟨_,rfl,rfl,rfl⟩ |⟨_,t,rfl,rfl,rfl⟩ |⟨_,t,rfl,rfl,rfl⟩ |⟨ds,a,xs,its,rfl,rfl,rfl,h1,h2,p⟩ |⟨ds,a,xs,its,rfl,rfl,rfl,h1,h2,p⟩:=I.shp h r<;>obtain⟨rfl,rfl,rfl⟩ |⟨_,rfl,rfl,rfl⟩ |⟨_,t',rfl,rfl,rfl⟩ |⟨_,t',rfl,rfl,rfl⟩ |⟨ds',b,ys,its',rfl,rfl,rfl,h1',h2',p'⟩ |⟨ds',b,ys,its',rfl,rfl,rfl,h1',h2',p'⟩:=I.shp h' r'
 ·exact RcNeAt.none_none
 ·exact RcNeAt.none_bool _
 ·exact RcNeAt.none_int _ t'
 ·exact RcNeAt.none_str _ t'
 ·exact RcNeAt.none_tuple p' (by omega)
 ·exact RcNeAt.none_list p' (by omega)
 ·exact RcNeAt.bool_none _
 ·exact RcNeAt.bool_bool _ _
 ·exact RcNeAt.bool_int _ _ t'
 ·exact RcNeAt.bool_str _ _ t'
 ·exact RcNeAt.bool_tuple _ p' (by omega)
 ·exact RcNeAt.bool_list _ p' (by omega)
 ·exact RcNeAt.int_none _ t
 ·exact RcNeAt.int_bool _ t _
 ·exact RcNeAt.int_int _ t _ t'
 ·exact RcNeAt.int_str _ t _ t'
 ·exact RcNeAt.int_tuple _ t p' (by omega)
 ·exact RcNeAt.int_list _ t p' (by omega)
 ·exact RcNeAt.str_none _ t
 ·exact RcNeAt.str_bool _ t _
 ·exact RcNeAt.str_int _ t _ t'
 ·exact RcNeAt.str_str _ t _ t'
 ·exact RcNeAt.str_tuple _ t p' (by omega)
 ·exact RcNeAt.str_list _ t p' (by omega)
 ·exact RcNeAt.tuple_none p (by omega)
 ·exact RcNeAt.tuple_bool _ p (by omega)
 ·exact RcNeAt.tuple_int _ t' p (by omega)
 ·exact RcNeAt.tuple_str _ t' p (by omega)
 ·rw[eqD];exact Inv.neTup I A (fun i d d' x y u u' e1 e2 rx ry ru ru'=>Inv.xD I (gH ds) A.in1 d d' x y u u' rx ry ru ru' (mK e1) (by rw[hgt]at hu;show A.units+1+gH ds+1<cLine;omega)) h1 h2 h1' h2' (by omega)
 ·exact RcNeAt.tuple_list p p' (by omega)
 ·exact RcNeAt.list_none p (by omega)
 ·exact RcNeAt.list_bool _ p (by omega)
 ·exact RcNeAt.list_int _ t' p (by omega)
 ·exact RcNeAt.list_str _ t' p (by omega)
 ·exact RcNeAt.list_tuple p p' (by omega)
 ·rw[eqD];exact Inv.neLst I A (fun i d d' x y u u' e1 e2 rx ry ru ru'=>Inv.xD I (gH ds) A.in1 d d' x y u u' rx ry ru ru' (mK e1) (by rw[hgt]at hu;show A.units+1+gH ds+1<cLine;omega)) h1 h2 h1' h2' (by omega)
noncomputable def rEqD(K:aa):R2:=fun x y H Q=>∃d d',Rep K H d x/\Rep K H d' y/\hgt d<=30/\Q (.bl (eqD d d')) H
noncomputable def rNeD(K:aa):R2:=fun x y H Q=>∃d d',Rep K H d x/\Rep K H d' y/\hgt d<=30/\Q (.bl (!eqD d d')) H
theorem op_eqD(hu:X.A.units+40<cLine):OpR X (b9 .Eq) (rEqD X.K):=by
 intro pins s σ H x y v u Q I rx ry h;obtain⟨d,d',h1,h2,hd,q⟩:=h;exact I.rcD X.A d d' x y v u h1 h2 rx ry (by omega) _ _ _ _ (pK I q rfl)
theorem op_neD(hu:X.A.units+40<cLine):OpR X (b9 .NotEq) (rNeD X.K):=by
 intro pins s σ H x y v u Q I rx ry h;obtain⟨d,d',h1,h2,hd,q⟩:=h;exact I.rcNeD X.A d d' x y v u h1 h2 rx ry (by omega) _ _ _ _ (pK I q rfl)
end
end L2
namespace Q
open PySem PySem.W PyProof.Rows
noncomputable def run{α:Type}(lt:Nat->Nat->Bool):KasT α->α
 |.ret a=>a
 |.ask i j k=>run lt (k (lt i j))
theorem run_bind{α β:Type}(lt:Nat->Nat->Bool)(f:α->KasT β):∀t:KasT α,run lt (t.bind f)=run lt (f (run lt t))
 |.ret a=>rfl
 |.ask i j k=>run_bind lt f (k (lt i j))
noncomputable def okT{α:Type}(lt:Nat->Nat->Bool)(n:Nat):KasT α->Prop
 |.ret _=>True
 |.ask i j k=>(i<n/\j<n/\i≠j)/\okT lt n (k (lt i j))
theorem jS{α β:Type}{lt:Nat->Nat->Bool}{n:Nat}{f:α->KasT β}:∀{t:KasT α},okT lt n t->okT lt n (f (run lt t))->okT lt n (t.bind f)
 |.ret a,_,h=>h
 |.ask i j k,h,h'=>⟨h.1,jS h.2 h'⟩
structure Tot(lt:Nat->Nat->Bool)(n:Nat):Prop where
 tri:∀i j,i<n->j<n->i≠j->lt i j= !lt j i
 tr:∀i j k,i<n->j<n->k<n->lt i j=true->lt j k=true->lt i k=true
noncomputable abbrev at'(p:Array Nat)(i:Nat):Nat:=p.getD i 0
theorem xQ(p:Array Nat)(i:Nat):at' p i=(p[i]?).getD 0:=by simp[at',Array.getD_eq_getD_getElem?]
structure Pm(p:Array Nat)(n:Nat):Prop where
 perm:p.Perm (aM n).toArray
theorem Pm.size{p:Array Nat}{n:Nat}(h:Pm p n):p.size=n:=by rw[h.perm.size_eq];simp
theorem Pm.lt{p:Array Nat}{n:Nat}(h:Pm p n){i:Nat}(hi:i<n):at' p i<n:=by
 have hs:i<p.size:=by rw[h.size];exact hi
 have e:at' p i=p[i]:=by simp[at',hs]
 have m:p[i]∈(aM n).toArray:=h.perm.mem_iff.mp (Array.getElem_mem hs);rw[e];simpa using m
theorem Pm.inj{p:Array Nat}{n:Nat}(h:Pm p n){i j:Nat}(hi:i<n)(hj:j<n)(e:at' p i=at' p j):i=j:=by
 have hsi:i<p.size:=by rw[h.size];exact hi
 have hsj:j<p.size:=by rw[h.size];exact hj
 have nd:p.toList.Nodup:=by
  have q:p.toList.Perm (aM n):=by simpa using t5.mp h.perm
  exact q.nodup_iff.mpr List.nodup_range
 have e1:at' p i=p.toList[i]'(by simpa using hsi):=by simp[at',hsi]
 have e2:at' p j=p.toList[j]'(by simpa using hsj):=by simp[at',hsj]
 rw[e1,e2]at e;exact(bY nd).mp e
theorem BY{p:Array Nat}{i j:Nat}(hj:j<=p.size)(k:Nat):at' (tT p i j) k=if i<=k/\k<j then at' p (i+j-1-k)else at' p k:=by
 rw[xQ];unfold tT;rw[getElem?_mirror_all hj];split <;>rw[xQ]
theorem BZ{p:Array Nat}{src d:Nat}(hs:src<p.size)(hd:d<=src)(k:Nat):at' (bubble p src d) k=if k=src-d then at' p src else if src-d<k/\k<=src then at' p (k-1)else at' p k:=by
 rw[xQ,getElem?_bubble hs d hd];split
 ·simp[at',hs]
 ·split <;>rw[xQ]
theorem Pm.rev{p:Array Nat}{n i j:Nat}(h:Pm p n):Pm (tT p i j) n:=⟨(mirror_perm _ _ _ _).trans h.perm⟩
theorem Pm.bub{p:Array Nat}{n i j:Nat}(h:Pm p n):Pm (bubble p i j) n:=⟨(bubble_perm _ _ _).trans h.perm⟩
noncomputable def Up(lt:Nat->Nat->Bool)(p:Array Nat)(m:Nat):Prop:=∀i j,i<j->j<m->lt (at' p i) (at' p j)=true
noncomputable def Dn(lt:Nat->Nat->Bool)(p:Array Nat)(m:Nat):Prop:=∀i j,i<j->j<m->lt (at' p j) (at' p i)=true
section
variable {lt:Nat->Nat->Bool}{N:Nat}{p:Array Nat}
theorem Tot.flip(T:Tot lt N)(P:Pm p N){i j:Nat}(hi:i<N)(hj:j<N)(n:i≠j)(h:lt (at' p i) (at' p j)=false):lt (at' p j) (at' p i)=true:=by
 have q:=T.tri _ _ (P.lt hi) (P.lt hj) fun e=>n (P.inj hi hj e);rw[h]at q;simpa using q.symm
theorem Pm.ask{p:Array Nat}(P:Pm p N){i j:Nat}(hi:i<N)(hj:j<N)(n:i≠j):at' p i<N/\at' p j<N/\at' p i≠at' p j:=⟨P.lt hi,P.lt hj,fun e=>n (P.inj hi hj e)⟩
theorem Up.succ(T:Tot lt N)(P:Pm p N){n:Nat}(h1:1<=n)(hn:n<N)(u:Up lt p n)(h:lt (at' p (n-1)) (at' p n)=true):Up lt p (n+1):=by
 intro i j hij hj;by_cases e:j=n
 ·subst e
  by_cases e2:i=j-1
  ·subst e2;exact h
  ·exact T.tr _ _ _ (P.lt (by omega)) (P.lt (by omega)) (P.lt hn) (u i (j-1) (by omega) (by omega)) h
 ·exact u i j hij (by omega)
theorem Dn.succ(T:Tot lt N)(P:Pm p N){n:Nat}(h1:1<=n)(hn:n<N)(u:Dn lt p n)(h:lt (at' p n) (at' p (n-1))=true):Dn lt p (n+1):=by
 intro i j hij hj;by_cases e:j=n
 ·subst e
  by_cases e2:i=j-1
  ·subst e2;exact h
  ·exact T.tr _ _ _ (P.lt hn) (P.lt (by omega)) (P.lt (by omega)) h (u i (j-1) (by omega) (by omega))
 ·exact u i j hij (by omega)
theorem sE(T:Tot lt N)(P:Pm p N):∀(f n:Nat),1<=n->n+f<=N->Up lt p n->∃m,run lt (kas_asc p f n)=m/\n<=m/\m<=n+f/\Up lt p m/\(m=n+f\/lt (at' p m) (at' p (m-1))=true)/\okT lt N (kas_asc p f n)
 | 0,n,h1,h2,u=>⟨n,rfl,ar _,ar _,u,.inl rfl,trivial⟩
 |f+1,n,h1,h2,u=>by
  unfold kas_asc;have hask:=P.ask (i:=n) (j:=n-1) (by omega) (by omega) (by omega);simp only[run,okT];by_cases c:lt (at' p n) (at' p (n-1))=true
  ·rw[if_pos c]
   exact⟨n,rfl,ar _,by omega,u,.inr c,hask,trivial⟩
  ·rw[if_neg c]
   have c':lt (at' p n) (at' p (n-1))=false:=by simpa using c
   obtain⟨m,e,a1,a2,a3,a4,a5⟩:=sE T P f (n+1) (by omega) (by omega) (u.succ T P h1 (by omega) (T.flip P (by omega) (by omega) (by omega) c'));refine⟨m,e,by omega,by omega,a3,?_,hask,a5⟩;rcases a4 with z|z
   ·exact .inl (by omega)
   ·exact .inr z
theorem ux(T:Tot lt N)(P:Pm p N):∀(f n:Nat),1<=n->n+f<=N->Dn lt p n->∃m,run lt (kas_desc f p n 0)=(p,m,0)/\n<=m/\m<=n+f/\Dn lt p m/\okT lt N (kas_desc f p n 0)
 | 0,n,h1,h2,u=>⟨n,rfl,ar _,ar _,u,trivial⟩
 |f+1,n,h1,h2,u=>by
  unfold kas_desc;have hask:=P.ask (i:=n) (j:=n-1) (by omega) (by omega) (by omega);have hask2:=P.ask (i:=n-1) (j:=n) (by omega) (by omega) (by omega);simp only[run,okT];by_cases c:lt (at' p n) (at' p (n-1))=true
  ·rw[if_pos c,if_neg (df 0)]
   obtain⟨m,e,a1,a2,a3,a4⟩:=ux T P f (n+1) (by omega) (by omega) (u.succ T P h1 (by omega) c);exact⟨m,e,by omega,by omega,a3,hask,a4⟩
  ·rw[if_neg c]
   have c':lt (at' p n) (at' p (n-1))=false:=by simpa using c
   have d:=T.flip P (by omega) (by omega) (by omega) c';simp only[run,okT];rw[if_pos d];exact⟨n,rfl,ar _,by omega,u,hask,hask2,trivial⟩
theorem AG(T:Tot lt N)(P:Pm p N){n:Nat}(h1:1<=n)(hn:n<=N)(u:Dn lt p n):∃m p',run lt (kas_tail3 n N p)=(m,p')/\1<=m/\m<=N/\Up lt p' m/\Pm p' N/\okT lt N (kas_tail3 n N p):=by
 have u':Up lt (tT p 0 n) n:=by
  intro i j hij hj;rw[BY (by rw[P.size];exact hn),BY (by rw[P.size];exact hn),if_pos ⟨aL _,by omega⟩,if_pos ⟨aL _,hj⟩];exact u _ _ (by omega) (by omega)
 obtain⟨m,e,a1,a2,a3,_,a5⟩:=sE T P.rev (N-n) n h1 (by omega) u';unfold kas_tail3;refine⟨m,tT p 0 n,?_,by omega,by omega,a3,P.rev,jS a5 trivial⟩;rw[run_bind,e];rfl
theorem sD(T:Tot lt N)(P:Pm p N){n:Nat}(hn:n+1<=N)(u:Dn lt p (n+1)):∃m p',run lt (gw n N p)=(m,p')/\1<=m/\m<=N/\Up lt p' m/\Pm p' N/\okT lt N (gw n N p):=by
 obtain⟨m,e,a1,a2,a3,a4⟩:=ux T P (N-(n+1)) (n+1) (by omega) (by omega) u;obtain⟨m2,p2,b1,b2,b3,b4,b5,b6⟩:=AG T P (by omega) (by omega) a3;unfold gw;refine⟨m2,p2,?_,b2,b3,b4,b5,jS a4 ?_⟩
 ·rw[run_bind,e]
  exact b1
 ·rw[e]
  exact b6
theorem yo(T:Tot lt N)(P:Pm p N)(hN:1<=N):∃m p',run lt (kas_count N p)=(m,p')/\1<=m/\m<=N/\Up lt p' m/\Pm p' N/\okT lt N (kas_count N p):=by
 obtain⟨m,e,a1,a2,a3,a4,a5⟩:=sE T P (N-1) 1 (ar _) (by omega) (fun i j hij hj=>by omega);have hmid:∃m' p',run lt (if(m==N)=true then oJ (m,p)else if m>1 then KasT.ask (p.getD 0 0) (p.getD (m-1) 0) fun c=>if c=true then oJ (m,p)else gw m N (tT p 0 m)else gw m N p)=(m',p')/\1<=m'/\m'<=N/\Up lt p' m'/\Pm p' N/\
   okT lt N (if(m==N)=true then oJ (m,p)else if m>1 then KasT.ask (p.getD 0 0) (p.getD (m-1) 0) fun c=>if c=true then oJ (m,p)else gw m N (tT p 0 m)else gw m N p):=by
  by_cases c:m=N
  ·rw[if_pos (by simpa using c)]
   exact⟨m,p,rfl,a1,by omega,a3,P,trivial⟩
  ·rw[if_neg (by simpa using c)]
   by_cases d:m>1
   ·rw[if_pos d]
    simp only[run,okT];rw[if_pos (a3 0 (m-1) (by omega) (by omega))];exact⟨m,p,rfl,a1,by omega,a3,P,P.ask (by omega) (by omega) (by omega),trivial⟩
   ·rw[if_neg d]
    obtain rfl:m=1:=by omega
    rcases a4 with z|z
    ·omega
    ·exact sD T P (by omega) fun i j hij hj=>by
      obtain rfl:j=1:=by omega
      obtain rfl:i=0:=by omega
      exact z
 obtain⟨m',p',b1,b2,b3,b4,b5,b6⟩:=hmid;unfold kas_count;refine⟨m',p',?_,b2,b3,b4,b5,jS a5 ?_⟩
 ·rw[run_bind,e]
  exact b1
 ·rw[e]
  exact b6
theorem mF(T:Tot lt N)(P:Pm p N){k:Nat}(hk:k<N)(u:Up lt p k):∀(f l r:Nat),l<=r->r<=k->r-l<=f->(∀i,i<l->lt (at' p i) (at' p k)=true)->(∀i,r<=i->i<k->lt (at' p k) (at' p i)=true)->
  ∃q,run lt (kas_place p k f l r)=q/\q<=k/\(∀i,i<q->lt (at' p i) (at' p k)=true)/\(∀i,q<=i->i<k->lt (at' p k) (at' p i)=true)/\okT lt N (kas_place p k f l r)
 | 0,l,r,h1,h2,h3,a,b=>⟨l,rfl,by omega,a,fun i hi=>b i (by omega),trivial⟩
 |f+1,l,r,h1,h2,h3,a,b=>by
  unfold kas_place;by_cases c:l≥ r
  ·rw[if_pos c]
   exact⟨l,rfl,by omega,a,fun i hi=>b i (by omega),trivial⟩
  ·rw[if_neg c]
   have hask:=P.ask (i:=k) (j:=(l+r)/2) hk (by omega) (by omega);simp only[run,okT];by_cases d:lt (at' p k) (at' p ((l+r)/2))=true
   ·rw[if_pos d]
    have key:=mF T P hk u f l ((l+r)/2) (by omega) (by omega) (by omega) a fun i hi hik=>?_;obtain⟨q,y1,y2,y3,y4,y5⟩:=key;exact⟨q,y1,y2,y3,y4,hask,y5⟩;by_cases e:i=(l+r)/2
    ·rw[e];exact d
    ·exact T.tr _ _ _ (P.lt hk) (P.lt (by omega)) (P.lt (by omega)) d (u _ _ (by omega) hik)
   ·rw[if_neg d]
    have d':=T.flip P hk (by omega:(l+r)/2<N) (by omega) (by simpa using d);have key:=mF T P hk u f ((l+r)/2+1) r (by omega) h2 (by omega) (fun i hi=>?_) b;obtain⟨q,y1,y2,y3,y4,y5⟩:=key;exact⟨q,y1,y2,y3,y4,hask,y5⟩;by_cases e:i=(l+r)/2
    ·rw[e];exact d'
    ·exact T.tr _ _ _ (P.lt (by omega)) (P.lt (by omega)) (P.lt hk) (u _ _ (by omega) (by omega)) d'
end
theorem xi{lt:Nat->Nat->Bool}{N:Nat}(T:Tot lt N):∀(f k:Nat)(p:Array Nat),Pm p N->k+f=N->Up lt p k->∃p',run lt (kas_bin f p k)=p'/\Up lt p' N/\Pm p' N/\okT lt N (kas_bin f p k)
 | 0,k,p,P,h,u=>⟨p,rfl,by rw[<-h];exact u,P,trivial⟩
 |f+1,k,p,P,h,u=>by
  have hk:k<N:=by omega
  obtain⟨q,e,hq,a,b,okp⟩:=mF T P hk u k 0 k (aL _) (ar _) (by omega) (fun i hi=>absurd hi (tX _)) fun i h1 h2=>by omega
  have key:=xi T f (k+1) (bubble p k (k-q)) P.bub (by omega) fun i j hij hj=>?_;obtain⟨p',y1,y2,y3,y4⟩:=key;unfold kas_bin;refine⟨p',?_,y2,y3,jS okp ?_⟩
  ·rw[run_bind,e]
   exact y1
  ·rw[e]
   exact y4
  have hs:k<p.size:=by rw[P.size];exact hk
  rw[BZ hs (by omega),BZ hs (by omega)];have eq:k-(k-q)=q:=by omega
  rw[eq];by_cases c1:i=q
  ·rw[if_pos c1,if_neg (by omega),if_pos (by omega)]
   exact b _ (by omega) (by omega)
  ·rw[if_neg c1]
   by_cases c2:j=q
   ·rw[if_pos c2,if_neg (by omega)]
    exact a i (by omega)
   ·rw[if_neg c2]
    by_cases c3:q<i
    ·rw[if_pos (by omega),if_pos (by omega)]
     exact u _ _ (by omega) (by omega)
    ·rw[if_neg (by omega)]
     by_cases c4:q<j
     ·rw[if_pos (by omega)]
      exact u _ _ (by omega) (by omega)
     ·rw[if_neg (by omega)]
      exact u _ _ (by omega) (by omega)
theorem jv{lt:Nat->Nat->Bool}{N:Nat}(T:Tot lt N)(hN:1<=N):Pm (run lt (cY N)) N/\Up lt (run lt (cY N)) N/\okT lt N (cY N):=by
 have P0:Pm (List.toArray (aM N)) N:=⟨Array.Perm.refl _⟩;obtain⟨m,p',e,a1,a2,a3,a4,a5⟩:=yo T P0 hN;have hm:max m 1=m:=by omega
 have hmid:∃p2,run lt (if m<N then kas_bin (N-max m 1) p' (max m 1)else oJ p')=p2/\Up lt p2 N/\Pm p2 N/\okT lt N (if m<N then kas_bin (N-max m 1) p' (max m 1)else oJ p'):=by
  rw[hm];by_cases c:m<N
  ·rw[if_pos c]
   exact xi T (N-m) m p' a4 (by omega) a3
  ·rw[if_neg c]
   have e2:m=N:=by omega
   exact⟨p',rfl,by rw[<-e2];exact a3,a4,trivial⟩
 obtain⟨p2,b1,b2,b3,b4⟩:=hmid;have er:run lt (cY N)=p2:=by
  unfold cY;rw[run_bind,e];exact b1
 rw[er];refine⟨b3,b2,?_⟩;unfold cY;refine jS a5 ?_;rw[e];exact b4
theorem wp_run{lt:Nat->Nat->Bool}{N:Nat}{S:Shared->Prop}{cmp:Nat->Nat->(Bool->Shared->Prop)->Shared->Prop}{α:Type}{G:α->Shared->Prop}
  (h:∀i j C s,i<N->j<N->i≠j->S s->(∀s',S s'->C (lt i j) s')->cmp i j C s):
  ∀(t:KasT α)(s:Shared),okT lt N t->S s->(∀s',S s'->G (run lt t) s')->t.kasWp cmp G s
 |.ret a,s,_,hs,g=>g s hs
 |.ask i j k,s,ok,hs,g=>h i j _ s ok.1.1 ok.1.2.1 ok.1.2.2 hs fun s' hs'=>wp_run h (k (lt i j)) s' ok.2 hs' g
end Q
namespace L2
open PySem PySem.Spec PyProof.Rows
structure Fly(h₀ h:Heap)(H:Hp)(pn:List (Addr×Obj))(a:Addr)(c:Value)(d:Option Addr):Prop where
 ex:∃T oe vs oT ts,h.get? a=some oe/\oe.cls=c/\oe.dict=d/\oe.data=.fields vs/\vs[1]? =some (.ref T)/\T≠a/\h.get? T=some oT/\oT.data=.fields ts/\ts[3]? =some .none/\h₀.get? T=none/\H T=none/\∀p∈pn,p.1≠T
 new:h₀.get? a=none
 un:H a=none
 pins:∀p∈pn,p.1≠a
noncomputable def CXx(P:Program)(w:World):CXT:=fun outer H s E e s'=>
 ∃a c d H',e=.ref a/\s'.os=s.os/\j7 s'.gens/\Un (frs outer) [] H H' s.heap s'.heap/\HOk P w H' s'.heap/\Fly s.heap s'.heap H' [] a c d/\E c d H'
section
variable {X:Cx}{pins:List (Addr×Obj)}{σ:St}{H:Hp}{s:Shared}
theorem Inv.se{h':Heap}{t':Nat}{it:Addr}(I:Inv X pins σ H s)(k:∀b o,b≠it->s.heap.get? b=some o->h'.get? b=some o)(hn:H it=none)(hL:it≠X.env.locals)
  (h1:X.s₀.heap.get? it=none)(h2:∀x c,X.env.cells.lookup x=some c->c≠it)(h3:∀p∈X.pn++pins,p.1≠it):Inv X pins σ H {s with heap:=h',toks:=t'}:=by
 have ne0:∀b o,X.s₀.heap.get? b=some o->b≠it:=fun b o e z=>by rw[z,h1]at e;cases e
 have nit:∀b u,H b=some u->b≠it:=fun b u e z=>by rw[z,hn]at e;cases e
 refine⟨I.ok,I.os,I.bare,⟨fun b o e n hb hx=>k b o (ne0 b o e) (I.base.keep b o e n hb hx),fun b o e n hb hx=>?_,I.base.free,fun b o e hx=>?_,I.base.tups,I.base.frzs,I.base.tbls⟩,?_,fun x c e=>?_,I.free,I.freeC,fun p hp=>?_,fun b u e=>?_,I.len⟩
 ·obtain⟨sl,q⟩:=I.base.slot b o e n hb hx
  exact⟨sl,k _ _ (ne0 b o e) q⟩
 ·obtain⟨o',q⟩:=I.base.there b o e hx
  exact⟨o',k _ _ (ne0 b o e) q⟩
 ·obtain⟨m,⟨o,es,ep,ho,r⟩,hl⟩:=I.loc
  refine⟨m,⟨o,es,ep,k _ _ (cR hL) ho,r⟩,fun i x v e1 e2 e3=>?_⟩;obtain⟨u,ru,l⟩:=hl i x v e1 e2 e3;refine⟨u,ru,?_⟩;rcases l with l|⟨kk,c,e,oc,q,dd⟩
  ·exact .inl l
  ·exact .inr ⟨kk,c,e,oc,k _ _ (h2 x c e) q,dd⟩
 ·obtain⟨v,oc,q,dd⟩:=I.cell x c e
  exact⟨v,oc,k _ _ (h2 x c e) q,dd⟩
 ·obtain⟨e,n,ne,nf,d⟩:=I.pin p hp
  exact⟨k _ _ (h3 p hp) e,n,ne,nf,d⟩
 ·refine(I.hok b u e).j8 (fun c v hc q=>k c v ?_ q) (fun _ q=>q) fun _ _ q=>q
  rcases hc with z|z
  ·rw[z];exact nit b u e
  ·exact nit c _ z
theorem Inv.v5(I:Inv X pins σ H s){a:Addr}{o:Obj}{vs:Array Value}(e:s.heap.get? a=some o)(hd:o.data=.fields vs):a≠X.env.locals/\∀x c,X.env.cells.lookup x=some c->c≠a:=by
 refine⟨fun z=>?_,fun x c hc z=>?_⟩
 ·obtain⟨m,⟨o',es,ep,ho',hd',_⟩,_⟩:=I.loc
  rw[<-z,e]at ho';cases ho';rw[hd]at hd';cases hd'
 ·obtain⟨v,o',ho',hd'⟩:=I.cell x c hc
  rw[z,e]at ho';cases ho';rw[hd]at hd';cases hd'
theorem cF.has{P:Program}{w:World}{H:Hp}{h:Heap}{a:Addr}{o:HO}(x:cF P w H h a o):∃ob,h.get? a=some ob:=by
 cases o with
 |lst xs=>obtain⟨_,_,_,_,e⟩:=x;exact⟨_,e⟩
 |tup xs=>obtain⟨_,_,_,_,e,_⟩:=x;exact⟨_,e⟩
 |dK kvs=>obtain⟨_,_,_,_,o,_,_,e,_⟩:=x;exact⟨_,e⟩
 |dT kvs=>obtain⟨_,_,_,_,o,_,_,e,_⟩:=x;exact⟨_,e⟩
 |set S n=>obtain⟨o,_,_,_,e,_⟩:=x;exact⟨_,e⟩
 |ins C dx fs=>obtain⟨_,_,_,e,_⟩:=x;exact⟨_,e⟩
 |own y=>exact x
 |xd fs=>obtain⟨_,⟨_,_,_,e,_⟩,_⟩:=x;exact⟨_,e⟩
 |rng lo hi=>obtain⟨_,_,_,e⟩:=x;exact⟨_,e⟩
 |frz ob u=>obtain⟨e,_⟩:=x;exact⟨_,e⟩
 |tbl ps=>exact⟨_,x⟩
 |met f y=>exact⟨_,x⟩
 |ext φ=>exact x.2.1
section
variable {M:Model}{E:Value->Shared->Prop}{Q:Unit->Shared->Prop}
theorem enter{a:Addr}{oe:Obj}{vs:Array Value}{head:Value}{more:Bool}(I:Inv X pins σ H s)(stk:X.stack=X.env::X.outer)(hf:X.env.frame=some X.env.locals)
  (he:s.heap.get? a=some oe)(hd:oe.data=.fields vs)(hsz:1<vs.size)(h0:X.s₀.heap.get? a=none)(hH:H a=none)(hp:∀p∈X.pn++pins,p.1≠a)
  (h:∀s2,Inv X pins σ H s2->Fly X.s₀.heap s2.heap H (X.pn++pins) a oe.cls oe.dict->Q () s2):
  wpAny M X.A (do let f<-frameOf X.env;let l<-entryPlaceOf X.env.locals more;let b<-vA head f .none (rawInt X.env.locals) .none l;oj (.ref a) 1 b)
   (fun _ s'=>wpAny M X.A (vt (.ref a) none) Q E s') E s:=by
 have hfr:X.A.frames=some (X.env::X.outer):=by rw[<-stk];exact I.ok.frames
 have hl:s.heap.FunFrames X.base (X.env::X.outer):=by rw[<-stk];exact I.stack
 have nofr:∀b∈frs X.stack,H b=none:=I.sj;refine af (wpAny_frameOf_fun hfr hl hf fun h1 hs=>?_);have hs':Heap.SlotsOnly (frs X.stack) s.heap h1:=by rw[stk];exact hs
 have hane:a∉frs X.stack:=fun hm=>by
  rw[stk]at hm;obtain⟨_,o,ho,hnf⟩:=hl.mem hm;rw[he]at ho;cases ho;exact hnf vs hd
 have u1:Un (frs X.stack) [] H H s.heap h1:=
  ⟨fun b o e _ hb _=>(hs'.2.1 b hb).trans e,fun b o e _ _ _=>hs'.2.2 b o e,fun _ _ _ n _=>n,fun b o e _=>let⟨sl,q⟩:=hs'.2.2 b o e;⟨_,q⟩,fun _ _ q=>q,fun _ _ _ q=>q,fun _ ps q=>⟨#[],by rw[q];simp⟩⟩
 have k1:HOk X.prog X.w H h1:=fun b u e=>by
  refine(I.hok b u e).j8 (fun c v hc q=>(hs'.2.1 c fun hm=>?_).trans q) (fun _ q=>q) fun _ _ q=>q;have n:=nofr c hm;rcases hc with z|z
  ·rw[z,e]at n;cases n
  ·rw[z]at n;cases n
 have I1:Inv X pins σ H {s with heap:=h1}:=I.call (g':=s.gens) (t':=s.toks) (d':=s.drawn) (ch:=[]) u1 k1 I.bare fun _ z=>nomatch z;have he1:h1.get? a=some oe:=(hs'.2.1 a hane).trans he;refine af (wpAny_entryPlaceOf fun pl hpl=>?_);unfold vA newFields;refine af (cj ?_ (hpl.sizeOk5 _ _ _ _ _));generalize hob:({cls:=.type "traceback",dict:=none,data:=.fields ([head,.ref X.env.locals,.none,rawInt X.env.locals,.none]++(if pl.isEmpty then bq 6 bG else pl)).toArray}:Obj)=ob;have hodata:ob.data=.fields ([head,.ref X.env.locals,.none,rawInt X.env.locals,.none]++(if pl.isEmpty then bq 6 bG else pl)).toArray:=by rw[<-hob]
 have hofree:ob.isFreed=false:=by rw[<-hob];rfl
 have I2:Inv X pins σ H {s with heap:=h1.push ob}:=I1.kept (t':=s.toks) fun b o e=>ag _ e;have he2:(h1.push ob).get? a=some oe:=ag _ he1;have hT2:(h1.push ob).get? h1.objs.size=some ob:=aC _ hofree;have hTa:h1.objs.size≠a:=cC (aw he1);have hd3:=oq hd (·.setIfInBounds 1 (bA h1.objs.size));refine wpAny_setField he2 hd hsz ?_;obtain⟨ra1,ra2⟩:=I.v5 he hd;have I3:Inv X pins σ H {s with heap:=(h1.push ob).update a (fH (·.setIfInBounds 1 (.ref h1.objs.size)))}:=
  I2.se (t':=s.toks) (fun b o hb e=>by rw[bz _ _ (cR hb)];exact e) hH ra1 h0 ra2 hp
 have he3:=cH (fH (·.setIfInBounds 1 (bA h1.objs.size))) he2 (zE hd3);have hT3:((h1.push ob).update a (fH (·.setIfInBounds 1 (bA h1.objs.size)))).get? h1.objs.size=some ob:=by
  rw[bz _ _ (cR hTa)];exact hT2
 have hszT:3<([head,.ref X.env.locals,.none,rawInt X.env.locals,.none]++(if pl.isEmpty then bq 6 bG else pl)).toArray.size:=by
  simp only[ax,aA,bg,dw];omega
 have hv1:(vs.setIfInBounds 1 (bA h1.objs.size))[1]? =some (.ref h1.objs.size):=by simp[hsz]
 refine wpAny_setFlight_none he3 hd3 hv1 hT3 hodata hszT ?_;have hTle:s.heap.objs.size<=h1.objs.size:=Nat.le_of_eq hs.1.symm;have hT0:X.s₀.heap.get? h1.objs.size=none:=zI (aP I.sz hTle);have hTH:H h1.objs.size=none:=I.hok.fresh hTle;obtain⟨rt1,rt2⟩:=I3.v5 hT3 hodata;have hpT:∀p∈X.pn++pins,p.1≠h1.objs.size:=fun p hq z=>by
  have q:=aw (I.pin p hq).1;exact absurd (aT (z▸q) hTle) (df _)
 have I4:=I3.se (t':=s.toks) (h':=((h1.push ob).update a (fH (·.setIfInBounds 1 (.ref h1.objs.size)))).update h1.objs.size (fH (·.setIfInBounds 3 .none)))
  (fun b o hb e=>by rw[bz _ _ (cR hb)];exact e) hTH rt1 hT0 rt2 hpT
 refine h _ I4 ⟨⟨h1.objs.size,_,_,_,_,?_,Obj.cls_mapFields _ _,?_,hd3,hv1,hTa,cH _ hT3 (zE (oq hodata _)),oq hodata _,?_,hT0,hTH,hpT⟩,h0,hH,hp⟩
 ·show(Heap.update _ _ _).get? a=_
  rw[bz _ _ hTa];exact he3
 ·obtain⟨c',d',dt',sl'⟩:=oe
  cases dt'<;>rfl
 ·rw[Array.getElem?_setIfInBounds_self_of_lt hszT]
theorem Bg{a:Addr}{c:Value}{args:List Value}{h':Heap}(I:Inv X pins σ H s)(stk:X.stack=X.env::X.outer)(hf:X.env.frame=some X.env.locals)(hx:X.ex=[])(hm:ug s.heap h' a c args)
  (h:∀s2,Inv X pins σ H s2->Fly X.s₀.heap s2.heap H (X.pn++pins) a c none->Q () s2):
  wpAny M X.A (jg (.ref a) X.env) (fun _ s'=>wpAny M X.A (vt (.ref a) none) Q E s') E {s with heap:=h'}:=by
 obtain⟨t,ht,_,_⟩:=hm.there;have I1:Inv X pins σ H {s with heap:=h'}:=I.kept (t':=s.toks) hm.keeps;have hH:H a=none:=by
  cases q:H a with
  |none=>rfl
  |some o=>
   obtain⟨ob,e⟩:=(I.hok a o q).has;rw[hm.new]at e;cases e
 unfold jg;simp only[hf];refine af (vB (x:=.none) ht rfl (by rfl) ?_);rw[if_neg (show ¬(bG != bG)=true by simp)];have h0:X.s₀.heap.get? a=none:=by
  cases q:X.s₀.heap.get? a with
  |none=>rfl
  |some o=>
   obtain⟨o',e⟩:=I.base.there a o q (by rw[hx];simp);rw[hm.new]at e;cases e
 exact enter I1 stk hf ht rfl (by simp) h0 hH (fun p hp z=>by have :=(I.pin p hp).1;rw[z,hm.new]at this;cases this) h
theorem Bh{a:Addr}{c:Value}{d:Option Addr}{H':Hp}{s':Shared}(I:Inv X pins σ H s)(stk:X.stack=X.env::X.outer)(hf:X.env.frame=some X.env.locals)(hx:X.ex=[])(ho:s'.os=s.os)(hg:j7 s'.gens)(u:Un (frs X.stack) [] H H' s.heap s'.heap)(ok:HOk X.prog X.w H' s'.heap)
  (F:Fly s.heap s'.heap H' [] a c d)(h:∀s2,Inv X pins σ H' s2->Fly X.s₀.heap s2.heap H' (X.pn++pins) a c d->Q () s2):
  wpAny M X.A (jg (.ref a) X.env) (fun _ s'=>wpAny M X.A (vt (.ref a) none) Q E s') E s':=by
 obtain⟨⟨T,oe,vs,oT,ts,he,rfl,rfl,hd,h1,hTa,hT,hdT,h3,hnT,hHT,_⟩,hna,hHa,_⟩:=F;have I1:Inv X pins σ H' s':=I.call' (ch:=[]) ho u ok hg fun _ z=>nomatch z;have back:∀b,s.heap.get? b=none->X.s₀.heap.get? b=none:=fun b n=>by
  cases q:X.s₀.heap.get? b with
  |none=>rfl
  |some o=>
   obtain⟨o',e⟩:=I.base.there b o q (by rw[hx];simp);rw[n]at e;cases e
 have np:∀b,s.heap.get? b=none->∀p∈X.pn++pins,p.1≠b:=fun b n p hp z=>by have :=(I.pin p hp).1;rw[z,n]at this;cases this
 unfold jg;simp only[hf];refine af (vB he hd h1 ?_);rw[if_pos (show(bA T != bG)=true by simp)];refine af (vB hT hdT h3 ?_);rw[if_neg (show ¬(bG==rawInt X.env.locals)=true by simp[rawInt])];refine af (wpAny_setField hT hdT (cz.mp h3).1 ?_);obtain⟨rt1,rt2⟩:=I1.v5 hT hdT;have I2:=I1.se (t':=s'.toks) (h':=s'.heap.update T (fH (·.setIfInBounds 3 .none))) (fun b o hb e=>by rw[bz _ _ (cR hb)];exact e) hHT rt1 (back T hnT) rt2 (np T hnT);have he2:(s'.heap.update T (fH (·.setIfInBounds 3 .none))).get? a=some oe:=by rw[bz _ _ hTa];exact he
 exact enter I2 stk hf he2 hd (cz.mp h1).1 (back a hna) hHa (np a hna) h
end
end
end L2
namespace L2
open PySem PySem.Spec PySem.W PyProof.Rows
noncomputable def excOk(K:aa)(C:Addr):Bool:=
 findIn K (.ref C) "__getattribute__"==some (some (.builtin "BaseException.__getattribute__"))&&findIn K (.ref C) "__getattr__"==some none&&
 findIn K (.ref C) "__class__"==some (some (.builtin "object.__class__"))&&specialIn K (.builtin "object.__class__") "__get__"==some (some (.builtin "getset_descriptor.__get__"))&&
 takesIn K (.builtin "object.__class__")==some true&&mroIn K C (.type "object")==some true&&mroIn K C (.type "BaseException")==some true&&(clsIn K C).isSome
abbrev bmV:List Value:=[.type "ValueError",.type "Exception",.type "BaseException",.type "object"]
noncomputable def BH(a:Addr)(c:Value)(d:Option Addr):HO:=.ext fun h=>∃o,h.get? a=some o/\o.cls=c/\o.dict=d/\notCls o=true
noncomputable abbrev excO(a:Addr)(c:Value):HO:=BH a c none
section
variable {X:Cx}
theorem exc_obj{K:aa}{h:Heap}{C:Addr}{bmB:List Value}{newId:String}(kin:K.In h)(q:excIn K C bmB newId=true):
  ∃nm qn N bs bm hd sn sub ab col dd k0 k1 k2 k3 k5 mN,h.get? C=some (excClassObj nm qn C N bs bm hd sn sub ab col dd k0 k1 k2 k3 k5 newId)/\h.Ns N mN/\mN "__init__"=none/\OwnTail h bmB bm:=by
 unfold excIn at q;split at q
 case h_2=>cases q
 rename_i od cd sl ho;split at q
 case h_2=>cases q
 rename_i C' bm j0 j1 j2 j3 n j5 hm hs;rw[aN,aN,aN,aN,aN,beq_iff_eq,beq_iff_eq,beq_iff_eq]at q;obtain⟨⟨⟨⟨⟨e1,e2⟩,e3⟩,e4⟩,e5⟩,e6⟩:=q;subst e1;subst e2;obtain⟨c1,c2,c3,c4,c5,c6,c7,c8,c9,c10,c11⟩:=cd;have e7:c3=.ref C'::bm:=hm;have e8:c11=false:=by simpa using e3
 have e9:sl= #[j0,j1,j2,j3,some (.builtin n),j5]:=by
  apply Array.ext'
  exact hs
 subst e7;subst e8;subst e9;exact⟨_,_,_,_,_,_,_,_,_,_,_,_,_,_,_,_,_,kin _ _ ho,.of_isNs (isNs_of_in kin e5),nsMap_none_of_in kin e5 e6,tail_of_in kin e4⟩
theorem AS{x:Str}{e:Expr}{es:List Expr}{t:TA}{C:Addr}{np cpos pos:Pos}{E:St->XK}(hg:Gl X x)(hm:X.mg x=some (.ref C))(hk:keepIn X.K (.ref C)=true)(hq:excIn X.K C bmV "ValueError.__new__"=true)(ha:PA X (e::es) t)(hc:X.calm=true)(hdb:(x==("__debug__":Str))=false)
  (hst:bu (e::es) X.env=(false,eval e X.env)::bu es X.env)(hpl:(backTo cpos (bu es X.env)).any (·.1)=false)
  (made:∀pins σ H s a c args h',Inv X pins σ H s->ug s.heap h' a c args->E σ c none H->X.xe (.ref a) {s with heap:=h'}):
  PS X (.Raise (some (.Call (.Name x np) (e::es) [] cpos)) none pos) (fun D σ H=>t σ H fun vs H1=>vs.length<=sizeLine/\E σ (.ref C) none H1):=by
 intro pins s σ H D I h;obtain⟨nm,qn,N,bs,bm,hd,sn,sub,ab,col,dd,k0,k1,k2,k3,k5,mN,hC,hN,hni,T⟩:=exc_obj (bmB:=bmV) I.mod.kin hq;have hbase:bm.contains (.type "BaseException")=true:=T.hasType (by decide+kernel);rw[arm_exec_Raise];show wpAny _ _ (do standAt pos;raiseStmt X.env (some (do let v<-eval (.Call (.Name x np) (e::es) [] cpos) X.env;standAt pos;pure v)) none) _ _ s;refine af (hG (wpAny_raiseStmt_made_sub (C:=C) (nm:=nm) (q:=qn) (N:=N) (bs:=bs) (bm:=bm) (hdct:=hd) (sn:=sn) (sub:=sub) (ab:=ab) (col:=col) (dd:=dd) (k0:=k0) (k1:=k1) (k2:=k2) (k3:=k3) (k5:=k5) (newId:="ValueError.__new__") hbase (I.ok.hd hc) (af (da (Q:=fun v s1=>∃a u,v=.ref a/\s1.heap.get? C=some (excClassObj nm qn C N bs bm hd sn sub ab col dd k0 k1 k2 k3 k5 "ValueError.__new__")/\s1.heap.get? a=some {cls:=.ref C,data:=.fields #[.ref u,.none,.none,.none,.bool false,.none]}/\X.xe (.ref a) s1) (E:=X.xe) ?_ (fun v s1 z=>af (hG (aj z))) fun _ _ z=>z))));refine gi (oz I hg hm ?_ hdb);refine zp (h₀:=X.base) I.ok.mod.kin hk (thn (ha cpos pins s σ H _ I h) fun us s1 ⟨vs,H1,I1,r,hlen,q⟩=>⟨I1.kIn,?_⟩) hst hpl;have hC1:=I1.bk _ _ hC;obtain⟨hh,gg,dr,tk,os⟩:=s1;refine wpAny_call_exc_subT (hrest:=by rw[r8,<-r.length];exact hlen) PySem.F.excBase_ValueError (T.keeps I1.bk) hC1 (hN.keeps I1.bk) hni fun h' a hmk=>?_;obtain⟨u,hu,_,_⟩:=hmk.there;exact⟨a,u,rfl,hmk.keeps _ _ hC1,hu,made pins σ H1 _ a _ _ h' I1 hmk q⟩
end
noncomputable def Cx.re(X:Cx)(A:Around)(calm:Bool)(pn:List (Addr×Obj))(xe:Value->Shared->Prop):Cx:={X with A:=A,calm:=calm,pn:=pn,xe:=xe}
noncomputable def Ends.drop(D:Ends)(i:Nat):Ends:={nx:=fun σ H=>D.nx (σ.set i none) H,rt:=D.rt,bk:=fun σ H=>D.bk (σ.set i none) H,ct:=fun σ H=>D.ct (σ.set i none) H}
noncomputable def eCatch(K:aa)(C:Addr)(i:Nat)(ts:TS)(D:Ends):St->XK:=fun σ c d H=>
 c=c/\exmOne K c (.ref C)=some true/\∀a,H a=none->ts (D.drop i) (σ.set i (some (.ref a))) (upd H a (BH a c d))
noncomputable def wCatch(X:Cx)(pins:List (Addr×Obj))(D:Ends)(hs:List ExceptHandler):Value->Shared->Prop:=fun e s1=>
 wpAny (model X.prog X.w) X.A (jg e X.env) (fun _ s2=>wpAny (model X.prog X.w) X.A (vt e none) (fun _ s3=>wpAny (model X.prog X.w) X.A (handleBy e X.env hs) (SP X pins D) X.xe s3) X.xe s2) X.xe s1
section
variable {X:Cx}{pins:List (Addr×Obj)}{σ:St}{H:Hp}{s:Shared}{x n:Str}{C:Addr}{i:Nat}{b₀:Stmt}{suite:List Stmt}{np hpos pos:Pos}{ts:TS}{D:Ends}
structure TryOk(X:Cx)(x n:Str)(C:Addr)(i:Nat)(suite:List Stmt)(ts:TS):Prop where
 nd:X.N.Nodup
 at_:X.N[i]? =some n
 loc:X.env.scope.names.lookup n=some .local
 gl:Gl X x
 mg:X.mg x=some (.ref C)
 db:(x==("__debug__":Str))=false
 stk:X.stack=X.env::X.outer
 fr:X.env.frame=some X.env.locals
 ex:X.ex=[]
 su:∀(pins:List (Addr×Obj))(a:Addr),PSs (X.re (X.A.mark (some (.ref a))) false (X.pn++pins) (fun _ _=>False)) suite ts
end
noncomputable abbrev XS:=St->XK
noncomputable abbrev N0:XS:=fun _=>E0
noncomputable def vp(CX:CXT)(X:Cx)(E:XS):Prop:=∀(pins:List (Addr×Obj))(σ:St)(H:Hp)(s:Shared)(e:Value)(s':Shared),Inv X pins σ H s->CX X.stack H s (E σ) e s'->X.xe e s'
noncomputable def MadeS(X:Cx)(E:XS):Prop:=∀(pins:List (Addr×Obj))(σ:St)(H:Hp)(s:Shared)(a:Addr)(c:Value)(args:List Value)(h':Heap),Inv X pins σ H s->ug s.heap h' a c args->E σ c none H->X.xe (.ref a) {s with heap:=h'}
section
variable {X:Cx}{CX:CXT}{k:Nat}{f:Addr}{fd:fj}{ps:List Str}{sp:Sp}{dvs:List V}{ds:List Value}{E:XS}{x:Str}{p pos:Pos}{e:Expr}{es:List Expr}{t:TA}
theorem xh{pins:List (Addr×Obj)}{σ:St}{H:Hp}{s:Shared}{Q:VK}{us:List Value}{vs:List V}(F:gP X.prog X.w X.K X.mg X.base CX k f fd ps sp)(hr:iC k X.A)(hb:Binds X.K fd ps ds)(hd:bC dvs ds)(hx:vp CX X E)
  (I:Inv X pins σ H s)(r:bC vs us)(h:sp (vs++dvs) H Q (E σ)):wpAny (model X.prog X.w) X.A (call (.ref f) us) (EP X pins σ Q) X.xe s:=by
 have r2:bC (vs++dvs) (us++ds):=r.append hd;have hl:(us++ds).length=ps.length:=r2.length.symm.trans (F.len _ _ _ _ h);refine wpAny_call (i0 (F.run X.A X.stack s H ⟨us,[]⟩ (us++ds) (vs++dvs) Q (E σ) hr I.env0 (hb s us I.kIn hl) r2 h) fun r s' hq=>?_);cases r with
 |error e=>exact hx pins σ H s e s' I hq
 |ok fl=>cases fl<;>first |exact I.after hq|exact iD hq
theorem A8(F:gP X.prog X.w X.K X.mg X.base CX k f fd ps sp)(hr:iC k X.A)(hg:Gl X x)(hm:X.mg x=some (.ref f))(hk:bW X.K (.ref f)=true)(hb:Binds X.K fd ps ds)(hd:bC dvs ds)(hx:vp CX X E)
  (ha:PA X (e::es) t)(hdb:(x==("__debug__":Str))=false)(he:bu (e::es) X.env=(false,eval e X.env)::bu es X.env)(hpl:(backTo pos (bu es X.env)).any (·.1)=false):
  PE X (.Call (.Name x p) (e::es) [] pos) (fun σ H Q=>um sp dvs (E σ) t σ H Q):=by
 intro pins s σ H Q I h;refine gi (oz I hg hm ?_ hdb);exact zp (h₀:=X.base) I.ok.mod.kin hk (thn (ha pos pins s σ H _ I h) fun us s1 ⟨vs,H1,I1,r,q⟩=>⟨I1.kIn,xh F hr hb hd hx I1 r q⟩) he hpl
theorem yx(F:gP X.prog X.w X.K X.mg X.base CX k f fd ps sp)(hr:iC k X.A)(hg:Gl X x)(hm:X.mg x=some (.ref f))(hk:bW X.K (.ref f)=true)(hb:Binds X.K fd ps ds)(hd:bC dvs ds)(hx:vp CX X E)
  (hdb:(x==("__debug__":Str))=false):PE X (.Call (.Name x p) [] [] pos) (fun σ H Q=>um sp dvs (E σ) oQ σ H Q):=by
 intro pins s σ H Q I h;refine gi (oz I hg hm ?_ hdb);exact PySem.W.callWith_K0 I.kIn hk (xh (us:=[]) F hr hb hd hx I .nil h)
end
section
variable {P:Program}{w:World}{K:aa}{mg:Str->Option Value}{base:Heap}
theorem zc{N:List Str}{qual:Str}{scope:Scope}{f:Addr}{cd:Value}{A:Around}{outer:List Env}{s:Shared}{H:Hp}{E:XK}:
  vp (CXx P w) (tw (CXx P w) P w K mg base N qual scope f cd A outer s H E) (fun _=>E):=by
 intro pins σ H1 s1 e s' I h;obtain⟨a,c,d,H',rfl,ho,hg,u,hok,F,q⟩:=h;show wpAny _ _ (leaving _ _) _ _ _;unfold leaving;refine af (Bh I rfl rfl rfl ho hg u hok F fun s2 I2 F2=>?_);obtain⟨⟨T,oe,vs,oT,ts,h1,h2,h3,h4,h5,h6,h7,h8,h9,h10,h11,_⟩,b1,b2,_⟩:=F2;exact⟨a,c,d,H',rfl,I2.os,I2.bare,I2.base,I2.hok,⟨⟨T,oe,vs,oT,ts,h1,h2,h3,h4,h5,h6,h7,h8,h9,h10,h11,fun _ z=>nomatch z⟩,b1,b2,fun _ z=>nomatch z⟩,q⟩
theorem zd{N:List Str}{qual:Str}{scope:Scope}{f:Addr}{cd:Value}{A:Around}{outer:List Env}{s:Shared}{H:Hp}{E:XK}:
  MadeS (tw (CXx P w) P w K mg base N qual scope f cd A outer s H E) (fun _=>E):=by
 intro pins σ H1 s1 a c args h' I hm q;show wpAny _ _ (leaving _ _) _ _ _;unfold leaving;refine af (Bg I rfl rfl rfl hm fun s2 I2 F2=>?_);obtain⟨⟨T,oe,vs,oT,ts,h1,h2,h3,h4,h5,h6,h7,h8,h9,h10,h11,_⟩,b1,b2,_⟩:=F2;exact⟨a,c,none,H1,rfl,I2.os,I2.bare,I2.base,I2.hok,⟨⟨T,oe,vs,oT,ts,h1,h2,h3,h4,h5,h6,h7,h8,h9,h10,h11,fun _ z=>nomatch z⟩,b1,b2,fun _ z=>nomatch z⟩,q⟩
theorem cxx0{o:List Env}{H:Hp}{s:Shared}{e:Value}{s':Shared}(h:CXx P w o H s E0 e s'):False:=by
 obtain⟨_,_,_,_,_,_,_,_,_,_,q⟩:=h;exact q
theorem gP.calm{k:Nat}{f:Addr}{fd:fj}{ps:List Str}{sp:Sp}(F:gP P w K mg base (CXx P w) k f fd ps sp):gP P w K mg base CX0 k f fd ps (fun vs H Q _=>sp vs H Q E0):=
 ⟨fun vs H Q E h=>F.len vs H Q E0 h,fun A outer s H args us vs Q E hr he hb hv hs=>i0 (F.run A outer s H args us vs Q E0 hr he hb hv hs) fun r s' q=>by
  cases r with
  |error e=>exact cxx0 q
  |ok fl=>cases fl<;>exact q⟩
end
end L2
namespace Q
open PySem PySem.Spec PySem.W PyProof.Rows L2
noncomputable def mZ(lt:Nat->Nat->Bool)(vs:List Value):List Value:=if vs.length<2 then vs else(run lt (cY vs.length)).toList.map fun i=>vs.getD i .none
noncomputable def Asks(prog:Program)(w:World)(A:Around)(lt:Nat->Nat->Bool)(vs:List Value)(h0:Heap):Prop:=
 ∀s1:Shared,(∀b o,h0.get? b=some o->s1.heap.get? b=some o)->
  ∃κ,(∀(Q':SortKind->Shared->Prop)(E':Value->Shared->Prop),Q' κ s1->wpAny (model prog w) A (keyKind' vs.toArray) Q' E' s1)/\
   ∀i j (C:Bool->Shared->Prop),i<vs.length->j<vs.length->i≠j->C (lt i j) s1->kas_ask prog w A κ vs i j C s1
section
variable {prog:Program}{w:World}{A:Around}{E:Value->Shared->Prop}{s:Shared}{lt:Nat->Nat->Bool}{vs:List Value}
theorem lr{n:Nat}(h:n<64):n<=sizeLine:=by rw[oi];omega
theorem sort_by{a:Addr}{n:Nat}{h0:Heap}{P:eK->Shared->Prop}(T:Tot lt vs.length)(ho:s.heap.get? a=some (seqObj "list" vs.toArray n))(k0:∀b o,h0.get? b=some o->s.heap.get? b=some o/\b≠a)(h64:vs.length<64)
  (ask:2<=vs.length->Asks prog w A lt vs h0)(h:P (.done (.ret .none)) {s with heap:=sortedHeap s.heap a vs (mZ lt vs).toArray}):wpAny (model prog w) A (Builtin.«list.sort» ⟨[.ref a],[]⟩) P E s:=by
 have hv:vs.toArray.size=vs.length:=by simp
 obtain⟨c,hc⟩:∃c,(s.heap.update a (bS fun _=> #[])).get? a=some (seqObj "list" #[] c):=⟨_,get?_update_seq ho _⟩;have hc':(((s.heap.update a (bS fun _=> #[])).push (seqObj "tuple" vs.toArray 0)).push (seqObj "list" #[] 0)).get? a=some (seqObj "list" #[] c):=ag _ (ag _ hc);have keep:∀b o,h0.get? b=some o->(((s.heap.update a (bS fun _=> #[])).push (seqObj "tuple" vs.toArray 0)).push (seqObj "list" #[] 0)).get? b=some o:=fun b o e=>
  ag _ (ag _ ((bz _ _ (cR (k0 b o e).2)).trans (k0 b o e).1))
 rw[list_sort_plain];refine af (listItems_at ho rfl (af (kd ho rfl ?_ (by rw[hv];exact lr h64) (aL _))));refine af (seqEpoch_at hc rfl (af (wpAny_newTuple ?_ (show vs.length<=_ from lr h64))));refine af (wpAny_newList (cc ?_) (aL _));by_cases hn:vs.length<2
 ·have e:mZ lt vs=vs:=if_pos hn
  rw[e]at h;dsimp only;rw[if_pos (by rw[hv];exact hn),if_pos (by rw[hv];exact hn)];refine af (aj (af ?_));rw[StateT.run_pure];refine aj (af (seqEpoch_at hc' rfl (af (kd hc' rfl ?_ (aL _) ?_))))
  ·have e2:(arrOf (SortSt.mk' general' (vs.toArray.zip vs.toArray) #[] 7 none)).map (·.2)=vs.toArray:=by
    show(vs.toArray.zip vs.toArray).map (·.2)=vs.toArray;apply Array.ext';simp[List.map_snd_zip]
   rw[e2];have e3:failedOf ((),SortSt.mk' general' (vs.toArray.zip vs.toArray) #[] 7 none).snd=none:=rfl;rw[e3];simp only[bne_self_eq_false,bH,if_false];exact aj h
  ·show((vs.toArray.zip vs.toArray).map (·.2)).size<=_
   rw[Array.size_map,Array.size_zip,hv,zr];exact eu (lr h64)
 ·have h2:2<=vs.length:=by omega
  have e:mZ lt vs=(run lt (cY vs.length)).toList.map fun i=>vs.getD i .none:=if_neg hn;rw[e]at h;dsimp only;rw[if_neg (by rw[hv];exact hn),if_neg (by rw[hv];exact hn)];obtain⟨κ,hk1,hk2⟩:=ask h2 {s with heap:=((s.heap.update a (bS fun _=> #[])).push (seqObj "tuple" vs.toArray 0)).push (seqObj "list" #[] 0)} keep;obtain⟨P1,U1,O1⟩:=jv T (by omega:1<=vs.length);refine af (hk1 _ _ (af ?_));have key:=kat_run (prog:=prog) (w:=w) (A:=A) (E:=E) (κ:=κ) (ks:=vs) (vs:=vs) (s:={s with heap:=((s.heap.update a (bS fun _=> #[])).push (seqObj "tuple" vs.toArray 0)).push (seqObj "list" #[] 0)})
   (Q:=fun st' s'=>s'={s with heap:=((s.heap.update a (bS fun _=> #[])).push (seqObj "tuple" vs.toArray 0)).push (seqObj "list" #[] 0)}/\arrOf st'=(run lt (cY vs.length)).map (kas_item (vs.toArray.zip vs.toArray))/\failedOf st'=none)
   (G:=fun p s'=>s'={s with heap:=((s.heap.update a (bS fun _=> #[])).push (seqObj "tuple" vs.toArray 0)).push (seqObj "list" #[] 0)}/\p=run lt (cY vs.length)) rfl h2 h64
   (fun p st' s' _ e1 e2 e3=>⟨e3.1,by rw[e1,e3.2],e2⟩)
   (wp_run (S:=fun s'=>s'={s with heap:=((s.heap.update a (bS fun _=> #[])).push (seqObj "tuple" vs.toArray 0)).push (seqObj "list" #[] 0)}) (fun i j C s' hi hj hij hs hC=>by
    subst hs;exact hk2 i j C hi hj hij (hC _ rfl)) _ _ O1 rfl fun s' hs=>⟨hs,rfl⟩)
  refine da key ?_ fun _ _ z=>z;rintro⟨⟨⟩,st'⟩ s' ⟨rfl,har,hf⟩;have hout:=kat_snds (ks:=vs) (vs:=vs) rfl har;dsimp only;rw[hout,hf];have hlen:(List.toArray ((run lt (cY vs.length)).toList.map fun i=>vs.getD i bG)).size<=sizeLine+1:=by
   rw[ax,ae,bZ,P1.size];exact eu (lr h64)
  refine af (seqEpoch_at hc' rfl (af (kd hc' rfl ?_ (aL _) hlen)));simp only[bne_self_eq_false,bH,if_false];exact aj h
end
noncomputable def tlt(x y:Str):Bool:=decide (x.cps.toList<y.cps.toList)
noncomputable def nY(ks:List Str)(i j:Nat):Bool:=tlt (ks.getD i "") (ks.getD j "")
noncomputable def ord(ks:List Str):List Nat:=if ks.length<2 then aM ks.length else(run (nY ks) (cY ks.length)).toList
noncomputable def sortBy{α:Type}(d:α)(ks:List Str)(ys:List α):List α:=(ord ks).map fun i=>ys.getD i d
theorem str_ext{x y:Str}(h:x.cps.toList=y.cps.toList):x=y:=by
 obtain⟨a⟩:=x;obtain⟨b⟩:=y;have :a=b:=Array.toList_inj.mp h;rw[this]
theorem ya{x y z:Str}(a:tlt x y=true)(b:tlt y z=true):tlt x z=true:=by
 unfold tlt at *;rw[decide_eq_true_eq]at *;exact List.lt_trans a b
theorem tlt_tri{x y:Str}(h:x≠y):tlt x y= !tlt y x:=by
 unfold tlt;by_cases c:x.cps.toList<y.cps.toList
 ·have d:¬y.cps.toList<x.cps.toList:=fun z=>List.lt_irrefl _ (List.lt_trans c z)
  simp[c,d]
 ·by_cases d:y.cps.toList<x.cps.toList
  ·simp[c,d]
  ·exact absurd (str_ext (List.le_antisymm (List.not_lt.mp d) (List.not_lt.mp c))) h
theorem oO{ks:List Str}(nd:ks.Nodup):Tot (nY ks) ks.length where
 tri:=fun i j hi hj h=>tlt_tri fun e=>h (by
  rw[aK,aK,ah hi,ah hj]at e;exact(bY nd).mp e)
 tr:=fun i j k _ _ _ a b=>ya a b
theorem ord_len(ks:List Str)(nd:ks.Nodup):(ord ks).length=ks.length:=by
 unfold ord;split
 ·simp
 ·rw[bZ,(jv (oO nd) (by omega)).1.size]
theorem Bd{ks:List Str}{ys:List V}{vs:List Value}(nd:ks.Nodup)(hl:ks.length=ys.length)(r:bC ys vs):bC (sortBy .non ks ys) (mZ (nY ks) vs):=by
 have hlen:=r.length;have e:vs.length=ks.length:=by omega
 unfold mZ sortBy ord;rw[e];by_cases c:ks.length<2
 ·rw[if_pos c,if_pos c]
  have e2:(aM ks.length).map (fun i=>ys.getD i V.non)=ys:=by
   rw[hl];apply dg
   ·simp
   ·intro i h1 h2
    simp[h2]
  rw[e2];exact r
 ·rw[if_neg c,if_neg c]
  have P:=(jv (oO nd) (by omega)).1;have all:∀l:List Nat,(∀i∈l,i<ks.length)->bC (l.map fun i=>ys.getD i V.non) (l.map fun i=>vs.getD i bG):=by
   intro l
   induction l with
   |nil=>exact fun _=>.nil
   |cons i l ih=>
    intro h;have hi:i<ys.length:=by have :=h i (.head _);omega
    obtain⟨u,hu,ru⟩:=r.get (ah hi);refine .cons ?_ (ih fun j hj=>h j (.tail _ hj));show L2.RelV (ys.getD i V.non) (vs.getD i bG);rw[aK,ah hi,aK,hu];exact ru
  refine all _ fun i hi=>?_;have m:i∈(aM ks.length).toArray:=P.perm.mem_iff.mp (zy.mp hi);simpa using m
theorem Ac{ks:List Str}{vs:List Value}(r:i4 vs ks){i:Nat}(hi:i<ks.length):∃t,vs.getD i .none=.str (ks.getD i "") t:=by
 induction r generalizing i with
 |nil=>exact absurd hi (tX _)
 |cons y t h ih=>
  cases i with
  |zero=>exact⟨t,rfl⟩
  |succ i=>exact ih (by simpa using hi)
theorem lq{ks:List Str}{vs:List Value}(r:i4 vs ks):vs.length=ks.length:=by
 induction r with
 |nil=>rfl
 |cons y t h ih=>simp[ih]
section
variable {prog:Program}{w:World}{A:Around}
theorem zg{ks:List Str}{vs:List Value}{h0:Heap}(r:i4 vs ks)(h2:2<=vs.length):Asks prog w A (nY ks) vs h0:=by
 intro s1 _;refine⟨oneType',fun Q' E' q=>?_,fun i j C hi hj _ q=>?_⟩
 ·match vs,r,h2 with
  |v1::v2::rest,r,_=>
   rw[keyKind_strs r];exact aj q
 ·rw[lq r]at hi hj
  obtain⟨t,e1⟩:=Ac r hi;obtain⟨u,e2⟩:=Ac r hj;unfold kas_ask;rw[e1,e2,keyLt'_oneType];exact oneLt_str q
end
noncomputable def TupKeys(H:Hp)(ys:List V)(ks:List Str):Prop:=Paired (fun v k=>∃a rest,v=V.ref a/\H a=some (.tup (V.str k::rest))) ys ks
noncomputable def rSort(K:aa):List V->Hp->VK->Prop:=fun xs H Q=>∃p ys ks,xs=[V.ref p]/\SqL K H p ys/\ks.length<64/\ks.Nodup/\(ys=ks.map V.str\/TupKeys H ys ks)/\∀l,H l=none->Q (.ref l) (upd H l (.lst (sortBy .non ks ys)))
set_option maxHeartbeats 3200000
noncomputable def has(acc:List Key)(k:Key):Bool:=acc.any fun x=>decide (x=k)
theorem jV{acc:List Key}{k:Key}:has acc k=true↔k∈acc:=by
 unfold has;rw[eO];constructor
 ·rintro⟨x,h,e⟩
  rw[<-of_decide_eq_true e];exact h
 ·exact fun h=>⟨k,h,decide_eq_true rfl⟩
noncomputable def more(acc:List Key)(k:Key):List Key:=if has acc k=true then acc else acc++[k]
noncomputable def met(ks:List Key):List Key:=ks.foldl more []
theorem Bo(ks:List Key)(k:Key):met (ks++[k])=more (met ks) k:=by unfold met;rw[List.foldl_append];rfl
theorem uR{acc:List Key}{k j:Key}:j∈more acc k↔j∈acc\/j=k:=by
 unfold more;split
 ·rename_i h
  constructor
  ·exact .inl
  ·rintro(z|rfl)
   ·exact z
   ·exact jV.mp h
 ·simp
theorem uP(acc:List Key)(k:Key):(more acc k).length=if has acc k=true then acc.length else acc.length+1:=by
 unfold more;split <;>simp
theorem Bq(ks:List Key):(met ks).length<=ks.length:=by
 unfold met;have g:∀(l acc:List Key),(l.foldl more acc).length<=acc.length+l.length:=by
  intro l
  induction l with
  |nil=>intro acc;simp
  |cons k l ih=>
   intro acc;have h1:=ih (more acc k);have h2:=uP acc k;rw[ki,bg];split at h2<;>omega
 simpa using g ks []
theorem sX{ks:List Key}{k:Key}:k∈met ks↔k∈ks:=by
 unfold met;have g:∀(l acc:List Key),k∈l.foldl more acc↔k∈acc\/k∈l:=by
  intro l
  induction l with
  |nil=>intro acc;simp
  |cons j l ih=>
   intro acc;rw[ki,ih,uR,aI,or_assoc]
 simpa using g ks []
noncomputable abbrev jl(led:Bool):Obj:={cls:=.type "set",dict:=none,data:=.set #[] 0 (.fresh 0 0 led)}
noncomputable def setO(a:Addr)(n:Nat):HO:=.ext fun h=>∃o es ep t,h.get? a=some o/\o.ExactSet/\o.data=.set es ep t/\es.size<eE/\t.fits es.size=true/\es.size=n
theorem xx:∀{ks:List Key}{us:List Value},bC (ks.map kV) us->∀(i:Nat)(v:Value),us[i]? =some v->∃k,ks[i]? =some k/\RelV (kV k) v
 | [],_,.nil,i,v,e=>by simp at e
 |k::ks,_,.cons r t,0,v,e=>by
  simp at e;subst e;exact⟨k,rfl,r⟩
 |k::ks,_,.cons r t,i+1,v,e=>xx t i v (by simpa using e)
noncomputable def rSet(K:aa):List V->Hp->VK->Prop:=fun xs H Q=>∃p ks,xs=[V.ref p]/\SqL K H p (ks.map kV)/\ks.length<4000/\∀a,H a=none->Q (.ref a) (upd H a (setO a (met ks).length))
end Q
namespace L2
open PySem PySem.Spec PyProof.Rows
section
variable {X:Cx}
noncomputable def xm(K:aa):R2:=fun x y H Q=>∃a b ys,x=.ref a/\y=.ref b/\SqT K H a []/\SqT K H b ys/\Q (.ref b) H
theorem op_cat0:OpR X (cO .Add) (xm X.K):=by
 intro pins s σ H x y v u Q I rx ry h;obtain⟨a,b,ys,rfl,rfl,ha,hb,q⟩:=h;cases rx;cases ry;obtain⟨its,r1,p1,_⟩:=I.tuple ha;obtain⟨its2,r2,p2,_⟩:=I.tuple hb;cases r1;obtain⟨⟨cls,dd,data,sl⟩,ho,hc,n,hd⟩:=id p1;obtain⟨⟨cls2,dd2,data2,sl2⟩,ho2,hc2,n2,hd2⟩:=id p2;simp only at hc hd hc2 hd2;subst hc hd hc2 hd2;exact concat_meets ⟨_,ho,rfl⟩ ⟨_,ho2,rfl⟩ vv B9 js i6 (iP _ _) (tuple_addW0 a b _ _ n n2 dd dd2 sl sl2 rfl) ⟨ho,ho2,.ref b,H,I,rfl,q⟩
theorem rE(a b:Array Nat):∀k:Nat,((bq k a).foldl (·++·) b).size=b.size+k*a.size
 | 0=>by simp
 |k+1=>by
  rw[dI,ki,rE a (b++a) k,Array.size_append,Nat.succ_mul];omega
noncomputable def AI:R2:=fun x y H Q=>∃(z:Str)(n:Int),x=.str z/\y=.int n/\2<=n/\n<=1000/\1<=z.length/\z.length<=1000/\Q (.str ⟨(bq n.toNat z.cps).foldl (·++·) #[]⟩) H
theorem op_repS:OpR X (cO .Mult) AI:=by
 intro pins s σ H x y v u Q I rx ry h;obtain⟨z,n,rfl,rfl,h1,h2,h3,h4,q⟩:=h;obtain⟨t,rfl⟩:=rx;obtain⟨t',rfl⟩:=ry;have c1:¬n<1:=by omega
 have c2:(n==1||z.length==0)=false:=by
  rw[Bool.or_eq_false_iff];exact⟨by simp;omega,by simp;omega⟩
 have hm:z.length*n.toNat<=1000*1000:=Nat.mul_le_mul h4 (by omega);have hn:((n.toNat:Nat):Int)=n:=by omega
 have hm2:(z.length:Int)*n<=1000*1000:=by
  rw[<-hn,<-Int.natCast_mul];exact Int.ofNat_le.mpr hm
 refine P.mul_str (by rw[decide_eq_false (by omega),decide_eq_false (by omega)];rfl) (fun _ _=>?_) (fun _ _=>?_) ?_
 ·exact Int.not_lt.mpr (Int.le_ediv_of_mul_le (by omega) (by omega))
 ·exact decide_eq_false (Nat.not_lt.mpr (aP hm (by decide)))
 ·rw[if_neg c1,if_neg (by rw[c2];exact aQ)]
  refine⟨?_,.str _,H,I.tok _,⟨_,rfl⟩,q⟩;show((bq n.toNat z.cps).foldl (·++·) #[]).size<=_;rw[rE];exact aP (by rw[Nat.mul_comm];simpa[vx]using hm) (by decide:1000*1000<=sizeLine)
noncomputable def rJoin(K:aa):V->List V->Hp->VK->Prop:=fun x vs H Q=>∃(sep:Str)(p:Addr)(ys:List Str),x=.str sep/\vs=[.ref p]/\SqL K H p (ys.map V.str)/\sep.length<=16/\(ys.map (·.length)).sum+ys.length<=1048576/\Q (.str (Txt.join sep ys)) H
end
set_option maxHeartbeats 1000000
section
variable {X:Cx}
noncomputable def rIxD(K:aa):R2:=fun x y H Q=>∃a b kvs k v,x=.ref a/\y=.ref b/\H a=some (.dT kvs)/\SqT K H b (k.map kV)/\jk kvs k=some v/\Q v H
noncomputable def rSetdef:V->List V->Hp->VK->Prop:=fun x xs H Q=>∃a b kvs k v,x=.ref a/\xs=[.ref b,v]/\H a=some (.dT kvs)/\H b=some (.tup (k.map kV))/\kvs.length<sizeLine/\
 (∀z,jk kvs k=some z->Q z H)/\(jk kvs k=none->Q v (upd H a (.dT (putK kvs k v))))
end
section
variable {X:Cx}
noncomputable def isRef:V->Bool
 |.ref _=>true
 |_=>false
noncomputable def rInD(K:aa)(neg:Bool):R2:=fun x y H Q=>∃p xs ds d,y=.ref p/\SqL K H p xs/\xs.all isRef=true/\Rep K H d x/\fT K H ds xs/\gH ds<=30/\
 Q (.bl (if neg then !(ds.any fun d'=>eqD d' d)else ds.any fun d'=>eqD d' d)) H
open Classical in
open Classical in
end
section
variable {X:Cx}{e:Expr}{te:TE}{pos p2 p3 p4:Pos}{cd:Nat}
theorem yr(its:List Value):slicePick its.toArray none none (some (-1))=its.reverse.toArray:=by
 unfold slicePick;have b1:fg none none (some (-1)) its.toArray.size=((its.length:Int)-1,-1,-1):=by simp[fg]
 rw[b1];have b2:zk ((its.length:Int)-1) (-1) (-1)=(aM its.length).map fun k=>its.length-1-k:=by
  unfold zk;have hc:(if(-1:Int)>0 then(if(its.length:Int)-1< -1 then(-1-((its.length:Int)-1)+ -1-1)/ -1 else 0)else(if(its.length:Int)-1> -1 then((its.length:Int)-1- -1- -1-1)/(- -1)else 0))=(its.length:Int):=by
   rw[if_neg (by decide)];by_cases h:(its.length:Int)-1> -1
   ·rw[if_pos h,show(- -1:Int)=1 by decide,Int.ediv_one]
    omega
   ·rw[if_neg h]
    omega
  rw[hc];show List.map _ (aM ((its.length:Int)).toNat)=_;rw[cE];refine dJ fun k hk=>?_;have :=dO.mp hk;omega
 rw[b2];congr 1;rw[List.filterMap_map];apply List.ext_getElem?;intro k;have hs:∀j∈aM its.length,((fun x=>its.toArray[x]?)∘fun k=>its.length-1-k) j=some (its.reverse.getD j .none):=fun j hj=>by
  have hj':=dO.mp hj;show its.toArray[its.length-1-j]? =_;rw[zu,aK,zv hj',ah (by omega)];rfl
 have e2:(aM its.length).filterMap ((fun x=>its.toArray[x]?)∘fun k=>its.length-1-k)=(aM its.length).map fun j=>its.reverse.getD j .none:=by
  have key:∀l:List Nat,(∀j∈l,j∈aM its.length)->l.filterMap ((fun x=>its.toArray[x]?)∘fun k=>its.length-1-k)=l.map fun j=>its.reverse.getD j .none:=by
   intro l
   induction l with
   |nil=>exact fun _=>rfl
   |cons j l ih=>
    intro h;rw[gT,hs j (h j (.head _)),ih fun x hx=>h x (.tail _ hx)];rfl
  exact key _ fun _ h=>h
 rw[e2,aZ];by_cases hk:k<its.length
 ·rw[Ci hk,ah (by simpa using hk)]
  show some (its.reverse.getD k .none)=_;rw[aK,ah (by simpa using hk)];rfl
 ·rw[kG (by simpa using hk),kG (by simpa using hk)]
  rfl
theorem yv{j:Nat}:PE X (.UnaryOp .USub (.Constant (.int 1) j p3) p4) (tC (.int (-1))):=fun pins s σ H Q I h=>pe_un zN A1 pins s σ H Q I ⟨1,rfl,h⟩
noncomputable def tRev(K:aa)(te:TE):TE:=fun σ H Q=>te σ H fun x H1=>∃a xs,x=.ref a/\SqL K H1 a xs/\∀p,H1 p=none->Q (.ref p) (upd H1 p (.lst xs.reverse))
theorem pe_rev{st:Expr}(he:PE X e te)(hst:PE X st (tC (.int (-1)))):PE X (.Subscript e (.Slice none none (some st) p2) pos) (tRev X.K te):=by
 intro pins s σ H Q I h;refine zm (thn (he pins s σ H _ I h) fun v s1 ⟨x,H1,I1,r1,q1⟩=>?_);refine wpAny_Slice ?_;rw[Ca];refine aj (aj ?_);rw[evalPart_some];refine thn (hst pins s1 σ H1 (fun y H2=>y=.int (-1)/\H2=H1) I1 ⟨rfl,rfl⟩) fun u s2 ⟨y,H2,I2,r2,e1,e2⟩=>?_;subst e1 e2;obtain⟨tk,rfl⟩:=r2;obtain⟨a,xs,rfl,hx,q⟩:=q1;cases r1;have I4:Inv X pins σ H2 {s2 with heap:=s2.heap.push {cls:=.type "slice",data:=.fields #[bG,bG,.int (-1) tk]}}:=I2.kept (t':=s2.toks) fun b ob q=>ag _ q;obtain⟨its,r,ht,hz⟩:=I4.list hx;have hlen:=r.length;show wpAny (model X.prog X.w) X.A (qq e (.Slice none none (some st) p2) (.ref a) (.ref s2.heap.objs.size)) (EP X pins σ Q) X.xe {s2 with heap:=s2.heap.push {cls:=.type "slice",data:=.fields #[bG,bG,.int (-1) tk]}};refine tail_any (ops:=[.ref a,.ref s2.heap.objs.size]) ht.isList.typeIs tR.lookup (B8 ht.isList (r9 ..) .none .none (.int (-1) tk) (by simp) ?_ (by rw[ax]<;>omega)) (by with_unfolding_all rfl);rw[yr];refine⟨.ref _,_,I4.laid (t':=s2.toks) (o:=.lst xs.reverse) (fun b ob q=>ag _ q) (ar _) ?_,rfl,q _ (I4.hok.fresh (ar _))⟩;exact⟨by rw[dM];exact hz,_,0,r.reverse,aC _ rfl⟩
end
end L2
namespace Q
open PySem PySem.Spec PySem.W PyProof.Rows L2
noncomputable def ltI(ns:List Int)(i j:Nat):Bool:=decide (ns.getD i 0<ns.getD j 0)
noncomputable def ordI(ns:List Int):List Nat:=if ns.length<2 then aM ns.length else(run (ltI ns) (cY ns.length)).toList
noncomputable def sortI(ns:List Int):List V:=(ordI ns).map fun i=>(ns.map V.int).getD i .non
noncomputable def rSortI(K:aa):List V->Hp->VK->Prop:=fun xs H Q=>∃p ns,xs=[V.ref p]/\SqL K H p (ns.map V.int)/\ns.length<64/\ns.Nodup/\∀l,H l=none->Q (.ref l) (upd H l (.lst (sortI ns)))
end Q
namespace L2
open PySem PySem.Spec PyProof.Rows
section
variable {X:Cx}
noncomputable def nats(n:Nat):List V:=(aM n).map fun i:Nat=>V.int (i:Int)
noncomputable def tLRng(ta:TA):TE:=fun σ H Q=>ta σ H fun vs H1=>∃n:Nat,vs=[.int n]/\n<=1000/\∀p,H1 p=none->Q (.ref p) (upd H1 p (.lst (nats n)))
end
section
variable {X:Cx}
noncomputable def leP(a b c d:Int):Bool:=decide (a<c\/a=c/\b<=d)
noncomputable def rLeP(K:aa):R2:=fun x y H Q=>∃p q a b c d,x=.ref p/\y=.ref q/\SqT K H p [.int a,.int b]/\SqT K H q [.int c,.int d]/\Q (.bl (leP a b c d)) H
noncomputable def rIndex:V->List V->Hp->VK->Prop:=fun x vs H Q=>∃(l:Addr)(ns:List Int)(k:Int),x=.ref l/\vs=[.int k]/\H l=some (.lst (ns.map V.int))/\k∈ns/\ns.length<=60/\Q (.int (ns.idxOf k:Nat)) H
end
end L2
namespace Q
open PySem PySem.Spec PySem.W PyProof.Rows L2
noncomputable def plt(x y:Int×Int):Bool:=decide (x.1<y.1\/x.1=y.1/\x.2<y.2)
noncomputable def ltP(ps:List (Int×Int))(i j:Nat):Bool:=plt (ps.getD i (0,0)) (ps.getD j (0,0))
noncomputable def ordP(ps:List (Int×Int)):List Nat:=if ps.length<2 then aM ps.length else(run (ltP ps) (cY ps.length)).toList
noncomputable def sortP{α:Type}(d:α)(ps:List (Int×Int))(ys:List α):List α:=(ordP ps).map fun i=>ys.getD i d
noncomputable def B4(H:Hp)(ys:List V)(ps:List (Int×Int)):Prop:=Paired (fun v k=>∃a,v=V.ref a/\H a=some (.tup [.int k.1,.int k.2])) ys ps
noncomputable def rSortP(K:aa):List V->Hp->VK->Prop:=fun xs H Q=>∃p ys ps,xs=[V.ref p]/\SqL K H p ys/\ps.length<64/\ps.Nodup/\B4 H ys ps/\∀l,H l=none->Q (.ref l) (upd H l (.lst (sortP .non ps ys)))
end Q
namespace D8
open PySem PySem.Spec PySem.W PyProof.Rows L2
noncomputable abbrev four:List (Int×Int):=[(0,0),(0,1),(1,0),(1,1)]
noncomputable def Prs(H:Hp)(as:List Addr)(ps:List (Int×Int)):Prop:=as.length=ps.length/\∀(i:Nat) a q,as[i]? =some a->ps[i]? =some q->H a=some (.tup [.int q.1,.int q.2])
noncomputable def rSetP(K:aa):List V->Hp->VK->Prop:=fun xs H Q=>∃p as ps,xs=[V.ref p]/\SqL K H p (as.map V.ref)/\Prs H as ps/\(∀q∈ps,q∈four)/\∀a (ks:List (Int×Int)),H a=none->ks.Nodup->(∀r,r∈ks↔r∈ps)->Q (.ref a) (upd H a (_root_.Q.setO a ks.length))
end D8
namespace L2
open PySem PySem.Spec PyProof.Rows
section
variable {X:Cx}
noncomputable def CDivB(_ j:Int):Prop:=0<j/\j.natAbs.log2<9000
noncomputable def rDivB:R2:=rI CDivB fun i j=>.int (i/j)
theorem op_divb:OpR X (cO .FloorDiv) rDivB:=opI fun i j _ _ _ _ _ hc q=>by
 have h1:(0:Int)<j:=hc.1;exact floordiv_int (by omega) (by rw[iQ i (by omega)];exact q) (.inl (PyProof.noPylong_of_log2 hc.2))
noncomputable def rInsert:V->List V->Hp->VK->Prop:=fun x vs H Q=>∃l xs k y,x=.ref l/\vs=[.int k,y]/\H l=some (.lst xs)/\xs.length<sizeLine/\0<=k/\k<=xs.length/\Q .non (upd H l (.lst (xs.take k.toNat++y::xs.drop k.toNat)))
end
section
variable {X:Cx}
noncomputable def rSplit:V->List V->Hp->VK->Prop:=fun x vs H Q=>∃z y:Str,x=.str z/\vs=[.str y]/\(y.length==0)=false/\z.length+2<=sizeLine/\∀p,H p=none->Q (.ref p) (upd H p (.lst ((Txt.split z y).map V.str)))
end
noncomputable def Itz(K:aa)(a b:Addr):It:=
 ⟨fun i H=>∃xs ys x y,SqL K H a xs/\SqL K H b ys/\xs[i]? =some x/\ys[i]? =some y,
  fun i H v H'=>∃p x y,H p=none/\H'=upd H p (.tup [x,y])/\v=.ref p/\(∀xs,SqL K H a xs->xs[i]? =some x)/\∀ys,SqL K H b ys->ys[i]? =some y,
  fun i H=>∃xs ys,SqL K H a xs/\SqL K H b ys/\(xs.length<=i\/ys.length<=i)⟩
structure tP(z TI TO i1 i2:Addr):Prop where
 a1:TI≠z
 a2:TO≠z
 a3:i1≠z
 a4:i2≠z
 a5:TI≠TO
 a6:TI≠i1
 a7:TI≠i2
 a8:TO≠i1
 a9:TO≠i2
 a10:i1≠i2
structure ZipSt(z TI TO i1 i2 a b:Addr)(i:Nat)(h:Heap):Prop where
 hz:IsZip h z TI TO .none
 hTI:IsPair h TI (.ref i1) (.ref i2)
 hTO:∃u v,IsPair h TO u v
 h1:h.IsListIter i1 a i
 h2:h.IsListIter i2 b i
theorem gV{h:Heap}{a c:Addr}{its:Array Value}{o:Obj}(hl:h.IsList a its)(hc:h.get? c=some o)(hk:o.cls≠.type "list"):a≠c:=by
 obtain⟨o',e,k,_⟩:=hl;rintro rfl;rw[e]at hc;cases hc;exact hk k
theorem qO{h:Heap}{z TI TO i1 i2 a b:Addr}{i:Nat}{xs ys:Array Value}(D:tP z TI TO i1 i2)(st:ZipSt z TI TO i1 i2 a b i h)(h1:h.IsList a xs)(h2:h.IsList b ys):ZipApart z TI TO i1 i2 a b:=by
 obtain⟨hz,hTI,⟨u,v,hTO⟩,⟨o1,e1,c1,_⟩,⟨o2,e2,c2,_⟩⟩:=st;have nz:({cls:=.type "zip",dict:=none,data:=.fields #[.none,.bool false,.bool false,.ref TI,.ref TO],slots:= #[]}:Obj).cls≠.type "list":=by show dB "zip"≠dB "list";decide
 have nT:({cls:=.type "tuple",data:=.seq #[u,v]}:Obj).cls≠.type "list":=by show dB "tuple"≠dB "list";decide
 have n1:o1.cls≠.type "list":=by rw[c1];decide
 have n2:o2.cls≠.type "list":=by rw[c2];decide
 exact⟨D.a1,D.a2,D.a3,D.a4,D.a5,D.a6,D.a7,D.a8,D.a9,D.a10,gV h1 hz nz,gV h1 hTO nT,gV h1 e1 n1,gV h1 e2 n2,gV h2 hz nz,gV h2 hTO nT,gV h2 e1 n1,gV h2 e2 n2⟩
theorem Inv.turnedL{X:Cx}{pins:List (Addr×Obj)}{σ:St}{H:Hp}{s:Shared}{h':Heap}{ch:List Addr}(I:Inv X pins σ H s)(k:∀b o,b∉ch->s.heap.get? b=some o->h'.get? b=some o)(hf:∀b∈ch,kY X pins H b):Inv X pins σ H {s with heap:=h'}:=by
 have nit:∀b u,H b=some u->b∉ch:=fun b u e z=>by rw[(hf b z).1]at e;cases e
 refine I.step (g':=s.gens) (d':=s.drawn) (ch:=ch) (fun b hb=>?_) (fun b o _ _ hc e _=>k b o hc e) (fun b o _ _ hc e _=>⟨o.slots,k b o hc e⟩) (fun _ _ _ _ n=>n)
  (fun b o hc e=>⟨o,k b o hc e⟩) (fun _ _ e=>e) (fun _ _ _ e=>e) (fun b ps e=>⟨#[],by rw[e];simp⟩) (fun m hm=>?_) (fun b u e=>?_) I.bare
 ·obtain⟨f0,f1,f2,f3,f4,f5⟩:=hf b hb
  exact⟨f3,f1,f4,f5⟩
 ·obtain⟨o,es',ep,q,r⟩:=hm
  exact⟨o,es',ep,k _ o (fun hc=>(hf _ hc).2.1 rfl) q,r⟩
 ·refine(I.hok b u e).j8 (fun d o hc' q'=>k d o (fun hd=>?_) q') (fun d q'=>q') fun d vs q'=>q'
  rcases hc' with zz|zz
  ·rw[zz]at hd
   exact nit b u e hd
  ·exact nit d _ zz hd
theorem zP{P:Program}{w:World}{K:aa}{es:List Expr}{kk:Nat}{pp:Pos}(a b z TI TO i1 i2:Addr)(D:tP z TI TO i1 i2):Turn P w K (.Tuple es kk pp) (Itz K a b) [z,TI,TO,i1,i2] z (fun i h=>ZipSt z TI TO i1 i2 a b i h) where
 mem:=by simp
 obj:=fun i h st c hc=>by
  obtain⟨hz,hTI,⟨u,v,hTO⟩,⟨o1,e1,c1,d1⟩,⟨o2,e2,c2,d2⟩⟩:=st;simp only[aI,bE,or_false]at hc;rcases hc with rfl|rfl|rfl|rfl|rfl
  ·exact⟨_,hz,fun v z=>by cases z⟩
  ·exact⟨_,hTI,fun v z=>by cases z⟩
  ·exact⟨_,hTO,fun v z=>by cases z⟩
  ·exact⟨o1,e1,fun v z=>by rw[d1]at z;cases z⟩
  ·exact⟨o2,e2,fun v z=>by rw[d2]at z;cases z⟩
 keep:=fun i h h' st k=>by
  obtain⟨hz,hTI,⟨u,v,hTO⟩,h1,h2⟩:=st;exact⟨k z (by simp) _ hz,k TI (by simp) _ hTI,⟨u,v,k TO (by simp) _ hTO⟩,h1.at fun o q=>k i1 (by simp) o q,h2.at fun o q=>k i2 (by simp) o q⟩
 item:=by
  intro X hP hw hK hc i pins s σ H E I hf st hg;subst hP hw hK;obtain⟨xs,ys,x,y,hq1,hq2,hx,hy⟩:=hg;obtain⟨its,rv,pl,hz0⟩:=I.list hq1;obtain⟨its2,rv2,pl2,hz2⟩:=I.list hq2;obtain⟨u,hu,ru⟩:=rv.get hx;obtain⟨u2,hu2,ru2⟩:=rv2.get hy;have ZA:=qO D st pl.isList pl2.isList;obtain⟨hz,hTI,⟨o1,o2,hTO⟩,h1,h2⟩:=st;refine wpAny_pyNext_zip_item ZA hz hTI hTO h1 h2 pl.isList pl2.isList (by simpa using hu) (by simpa using hu2) fun h' b1 b2 b3 b4 b5 b6 kp=>?_;have hp:H s.heap.objs.size=none:=I.hok.fresh (ar _);have nn:∀c∈[z,TI,TO,i1,i2],∀d v,H d=some v->d≠c:=fun c hc d v q zz=>by rw[zz,(hf c hc).1]at q;cases q
  have kp':∀c o,c∉[z,TO,i1,i2]->s.heap.get? c=some o->h'.get? c=some o:=fun c o hc q=>kp c o (fun e=>hc (by simp[e])) (fun e=>hc (by simp[e])) (fun e=>hc (by simp[e])) (fun e=>hc (by simp[e])) q;have sub4:∀c∈[z,TO,i1,i2],c∈[z,TI,TO,i1,i2]:=fun c hc=>by
   simp only[aI,bE,or_false]at hc⊢;rcases hc with h|h|h|h<;>simp[h]
  have I1:Inv X pins σ (upd H s.heap.objs.size (.tup [x,y])) {s with heap:=h'}:=by
   refine I.step (g':=s.gens) (d':=s.drawn) (ch:=[z,TO,i1,i2]) (fun c hc=>?_) (fun c o _ _ hc' q _=>kp' c o hc' q)
    (fun c o _ _ hc' q _=>⟨o.slots,kp' c o hc' q⟩) (fun c o _ q n=>by rw[aH (aD (aw q))];exact n)
    (fun c o hc' q=>⟨o,kp' c o hc' q⟩) (fun c vs q=>by rw[aH (bb q hp)];exact q) (fun c o v q=>by rw[aH (bb q hp)];exact q)
    (fun c ps q=>⟨#[],by rw[aH (bb q hp),q];simp⟩) (fun m hm=>?_) (fun c v q=>?_) I.bare
   ·obtain⟨f0,f1,f2,f3,f4,f5⟩:=hf c (sub4 c hc)
    exact⟨f3,f1,f4,f5⟩
   ·obtain⟨o,es',ep,q,r⟩:=hm
    refine⟨o,es',ep,kp' _ o (fun hc=>?_) q,r⟩;exact(hf _ (sub4 _ hc)).2.1 rfl
   ·by_cases hb:c=s.heap.objs.size
    ·subst hb
     rw[av]at q;cases q;exact⟨by show 2<=sizeLine;decide,[u,u2],.cons ru (.cons ru2 .nil),⟨_,b5,rfl,_,rfl⟩⟩
    ·rw[aH hb]at q
     refine(I.hok c v q).j8 (fun d o hc' q'=>kp' d o (fun hd=>?_) q') (fun d q'=>by rw[aH (bb q' hp)];exact q') fun d vs q'=>by rw[aH (bb q' hp)];exact q'
     rcases hc' with zz|zz
     ·exact nn d (sub4 d hd) c v q zz.symm
     ·exact nn d (sub4 d hd) d _ zz rfl
  obtain⟨f0,f1,f2,f3,f4,f5⟩:=hf z (by simp);have fz:(upd H s.heap.objs.size (.tup [x,y])) z=none:=by rw[aH (aD (aw hz))];exact f0
  refine⟨_,rfl,wpAny_letOwnedTupleGo_zip (s:={s with heap:=h'}) b1 fun h'' hz'' hs''=>?_⟩;have I2:Inv X pins σ (upd H s.heap.objs.size (.tup [x,y])) {s with heap:=h''}:=I1.turned (t':=s.toks) (fun c o hb q=>hs''.extBut c o hb q) fz f1 f3 f4 f5;have hTI':IsPair h'' TI (.ref i1) (.ref i2):=hs''.extBut _ _ D.a1 (kp TI _ D.a1 D.a5 D.a6 D.a7 hTI);refine⟨.ref s.heap.objs.size,_,I2,rfl,⟨_,x,y,hp,rfl,rfl,fun vs hv=>by rw[I.lI hv hq1];exact hx,fun vs hv=>by rw[I.lI hv hq2];exact hy⟩,
   ⟨hz'',hTI',⟨_,_,hs''.extBut _ _ D.a2 b2⟩,b3.at fun o q=>hs''.extBut i1 o D.a3 q,b4.at fun o q=>hs''.extBut i2 o D.a4 q⟩,fun c hc=>?_⟩
  have hlt:c<s.heap.objs.size:=by
   simp only[aI,bE,or_false]at hc;rcases hc with rfl|rfl|rfl|rfl|rfl
   ·exact aw hz
   ·exact aw hTI
   ·exact aw hTO
   ·obtain⟨o,q,_⟩:=h1;exact aw q
   ·obtain⟨o,q,_⟩:=h2;exact aw q
  rw[aH (aD hlt)];exact(hf c hc).1
 done:=by
  intro X hP hw hK hc i pins s σ H E I hf st hg;subst hP hw hK;obtain⟨xs,ys,hq1,hq2,hx⟩:=hg;obtain⟨its,rv,pl,hz0⟩:=I.list hq1;obtain⟨its2,rv2,pl2,hz2⟩:=I.list hq2;have ZA:=qO D st pl.isList pl2.isList;obtain⟨hz,hTI,⟨o1,o2,hTO⟩,h1,h2⟩:=st;have l1:=rv.length;have l2:=rv2.length;refine wpAny_pyNext_zip_end (I.ok.hd hc) ZA hz hTI hTO h1 h2 pl.isList pl2.isList ?_ fun h' kp=>?_
  ·rcases hx with hx|hx
   ·exact .inl (by simp;omega)
   ·exact .inr (by simp;omega)
  ·exact⟨rfl,I.turnedL (ch:=[z,TO,i1,i2]) (fun c o hc' q=>kp c o (fun e=>hc' (by simp[e])) (fun e=>hc' (by simp[e])) (fun e=>hc' (by simp[e])) (fun e=>hc' (by simp[e])) q) fun c hc'=>hf c (by
    simp only[aI,bE,or_false]at hc'⊢;rcases hc' with h|h|h|h<;>simp[h])⟩
 self:=fun _ _ _ _ _ st h=>wpAny_pyIter_zip st.hz h
section
variable {X:Cx}{es:List Expr}{kk:Nat}{pp:Pos}
noncomputable def iZip(K:aa)(t:TA):TI:=fun σ H R=>t σ H fun vs H1=>∃a b,vs=[.ref a,.ref b]/\(∃xs,SqL K H1 a xs)/\(∃ys,SqL K H1 b ys)/\R (Itz K a b) H1
theorem apart_n(n:Nat):tP (n+4) (n+2) (n+3) n (n+1):=
 ⟨aD (by omega),aD (by omega),aD (by omega),aD (by omega),aD (by omega),cC (by omega),cC (by omega),cC (by omega),cC (by omega),aD (by omega)⟩
theorem boot_zip:cW "zip"=some (.type "zip"):=by decide+kernel
theorem pi_zip{l m:Expr}{t:TA}{p pos:Pos}(hg:Gl X "zip")(hm:X.mg "zip"=none)(ha:PA X [l,m] t)(hs:bu [l,m] X.env=(false,eval l X.env)::bu [m] X.env)(hpl:(backTo pos (bu [m] X.env)).any (·.1)=false):
  PI X (.Tuple es kk pp) (.Call (.Name "zip" p) [l,m] [] pos) (iZip X.K t):=by
 intro pins s σ H R I h;refine Call_ (gG I hg hm boot_zip (bM (thn (ha pos pins s σ H _ I h) fun us s1 ⟨vs,H1,I1,r1,q1⟩=>?_) hs hpl));obtain⟨a,b,rfl,⟨xs,hq1⟩,⟨ys,hq2⟩,q⟩:=q1;obtain⟨u,v,rfl,ru,rv⟩:=r1.two;cases ru;cases rv;obtain⟨its,r2,pl,hz⟩:=I1.list hq1;obtain⟨its2,r3,pl2,hz2⟩:=I1.list hq2;refine call_zip_2 pl.isList pl2.isList fun h' z1 z2 z3 z4 z5 z6 kp=>?_;refine wpAny_pyIter_zip (s:={s1 with heap:=h'}) z1 ?_;have I2:Inv X pins σ H1 {s1 with heap:=h',toks:=s1.toks}:=I1.kept kp;have D:tP (s1.heap.objs.size+4) (s1.heap.objs.size+2) (s1.heap.objs.size+3) s1.heap.objs.size (s1.heap.objs.size+1):=apart_n _;refine⟨_,_,_,_,H1,rfl,I2,zP a b _ _ _ _ _ D,⟨z1,z2,⟨_,_,z3⟩,z4,z5⟩,fun c hc=>?_,q⟩;have hbs:s1.heap.objs.size<=c:=by
  simp only[aI,bE,or_false]at hc;rcases hc with rfl|rfl|rfl|rfl|rfl
  ·exact eX _ _
  ·exact eX _ _
  ·exact eX _ _
  ·exact ar _
  ·exact eX _ _
 exact I1.n8 hbs (I1.hok.fresh hbs)
end
noncomputable def DkIn(P:Program)(w:World)(K:aa)(a:Addr)(kvs:List (Key×V)):Prop:=
 (a==cT)=false/\∃vs,KV kvs vs/\∀h,K.In h->h.DictOf (bo P w) a vs
section
variable {X:Cx}{dic:Addr->Option (List (Key×V))}
noncomputable def rInG(dic:Addr->Option (List (Key×V))):R2:=fun x y H Q=>∃a kvs k,y=.ref a/\dic a=some kvs/\x=kV k/\Q (.bl (jk kvs k).isSome) H
noncomputable def rIxG(dic:Addr->Option (List (Key×V))):R2:=fun x y H Q=>∃a kvs k v,x=.ref a/\dic a=some kvs/\y=kV k/\jk kvs k=some v/\Q v H
end
noncomputable def fText(pre post:Str)(i:Int):Str:=Str.empty++pre++(toString i:Str)++post
noncomputable def tFst(pre post:Str)(t:TE):TE:=fun σ H Q=>(Str.empty++pre).length<=sizeLine/\t σ H fun x H1=>∃i,x=.int i/\i.natAbs.log2<1920/\(fText pre post i).length<=sizeLine/\Q (.str (fText pre post i)) H1
noncomputable def Itzt(K:aa)(a b:Addr):It:=
 ⟨fun i H=>∃xs ys x y,SqT K H a xs/\SqL K H b ys/\xs[i]? =some x/\ys[i]? =some y,
  fun i H v H'=>∃p x y,H p=none/\H'=upd H p (.tup [x,y])/\v=.ref p/\(∀xs,SqT K H a xs->xs[i]? =some x)/\∀ys,SqL K H b ys->ys[i]? =some y,
  fun i H=>∃xs,SqT K H a xs/\xs.length<=i⟩
section
variable {X:Cx}{es:List Expr}{kk:Nat}{pp:Pos}
noncomputable def iZipT(K:aa)(t:TA):TI:=fun σ H R=>t σ H fun vs H1=>∃a b,vs=[.ref a,.ref b]/\(∃xs,SqT K H1 a xs)/\(∃ys,SqL K H1 b ys)/\R (Itzt K a b) H1
end
end L2
namespace PySem
open Sem (wp)
local macro_rules | `(term| «the numeral») => return Lean.mkIdent (bO (bO (bO (Lean.Name.num (bO (bO (bO (bO (bO vK "_private") "PySem") "Builtin") "Int") "W0All") 0) "PySem") "Builtin") "readNumeral")
local macro_rules | `(term| «a value») => return Lean.mkIdent (bO (bO (bO (bO (Lean.Name.num (bO (bO (bO (bO (bO vK "_private") "PySem") "Builtin") "Int") "W0All") 0) "PySem") "Builtin") "Numeral") "value")
end PySem
namespace L2
open PySem PySem.Spec PyProof.Rows
inductive Fig:Str->Int->Prop
 |one {a:Nat} (h:a<10):Fig ⟨#[48+a]⟩ (a:Nat)
 |two {a b:Nat} (ha:a<10) (hb:b<10):Fig ⟨#[48+a,48+b]⟩ (10*a+b:Nat)
section
variable {X:Cx}{dic:Addr->Option (List (Key×V))}
noncomputable def upS(z:Str):Str:=⟨placed z fun _ c=>Unicode.upperOf c⟩
noncomputable def rUpper:V->List V->Hp->VK->Prop:=fun x vs H Q=>∃z:Str,x=.str z/\vs=[]/\(upS z).length<=100/\Q (.str (upS z)) H
noncomputable def rNiG(dic:Addr->Option (List (Key×V))):R2:=fun x y H Q=>∃a kvs k,y=.ref a/\dic a=some kvs/\x=kV k/\Q (.bl (!(jk kvs k).isSome)) H
end
end L2
namespace Q
open PySem PySem.Spec PySem.W PyProof.Rows L2
noncomputable def llt:List Int->List Int->Bool
 | [],[]=>false
 | [],_::_=>true
 |_::_,[]=>false
 |a::x,b::y=>decide (a<b)||(decide (a=b)&&llt x y)
noncomputable def ltL(ps:List (List Int))(i j:Nat):Bool:=llt (ps.getD i []) (ps.getD j [])
noncomputable def ordL(ps:List (List Int)):List Nat:=if ps.length<2 then aM ps.length else(run (ltL ps) (cY ps.length)).toList
noncomputable def Al{α:Type}(d:α)(ps:List (List Int))(ys:List α):List α:=(ordL ps).map fun i=>ys.getD i d
noncomputable def IntKeys(H:Hp)(ys:List V)(ps:List (List Int)):Prop:=Paired (fun v k=>∃a,v=V.ref a/\H a=some (.tup (k.map V.int))) ys ps
noncomputable def rSortL(K:aa):List V->Hp->VK->Prop:=fun xs H Q=>∃p ys ps m,xs=[V.ref p]/\SqL K H p ys/\ps.length<64/\ps.Nodup/\(∀k∈ps,k.length=m)/\IntKeys H ys ps/\∀l,H l=none->Q (.ref l) (upd H l (.lst (Al .non ps ys)))
noncomputable def rMinL(K:aa):List V->Hp->VK->Prop:=fun xs H Q=>∃(p q:Addr)(a b:List Int),xs=[V.ref p,V.ref q]/\SqT K H p (a.map V.int)/\SqT K H q (b.map V.int)/\a.length=b.length/\Q (if llt b a=true then .ref q else .ref p) H
noncomputable def rMaxL(K:aa):List V->Hp->VK->Prop:=fun xs H Q=>∃(p q:Addr)(a b:List Int),xs=[V.ref p,V.ref q]/\SqT K H p (a.map V.int)/\SqT K H q (b.map V.int)/\a.length=b.length/\Q (if llt a b=true then .ref q else .ref p) H
noncomputable def cat2(k:List Int×List Int):List Int:=k.1++k.2
noncomputable def B3(H:Hp)(ys:List V)(ps:List (List Int×List Int)):Prop:=Paired (fun v k=>∃a x y rest,v=V.ref a/\H a=some (.tup (.ref x::.ref y::rest))/\H x=some (.tup (k.1.map V.int))/\H y=some (.tup (k.2.map V.int))) ys ps
noncomputable def rSortT(K:aa):List V->Hp->VK->Prop:=fun xs H Q=>∃(p:Addr)(ys:List V)(ps:List (List Int×List Int))(m:Nat),xs=[V.ref p]/\SqL K H p ys/\ps.length<64/\(ps.map cat2).Nodup/\(∀k∈ps,k.1.length=m/\k.2.length=m)/\B3 H ys ps/\∀l,H l=none->Q (.ref l) (upd H l (.lst (Al .non (ps.map cat2) ys)))
end Q
namespace L2
open PySem PySem.Spec PyProof.Rows
noncomputable def Itet(K:aa)(a:Addr):It:=
 ⟨fun i H=>∃xs x,SqT K H a xs/\xs[i]? =some x,fun i H v H'=>∃p x,H p=none/\H'=upd H p (.tup [.int i,x])/\v=.ref p/\∀xs,SqT K H a xs->xs[i]? =some x,fun i H=>∃xs,SqT K H a xs/\xs.length<=i⟩
section
variable {X:Cx}{es:List Expr}{kk:Nat}{pp:Pos}
noncomputable def iEnumT(K:aa)(t:TA):TI:=fun σ H R=>t σ H fun vs H1=>∃a,vs=[.ref a]/\(∃xs,SqT K H1 a xs)/\R (Itet K a) H1
end
end L2
namespace L2
open PySem PySem.Spec PySem.W PyProof.Rows
noncomputable def exO(e C:Addr)(d:Option Addr):HO:=.ext fun h=>∃x0,h.get? e=some {cls:=.ref C,dict:=d,data:=.fields #[.ref x0,.none,.none,.none,.bool false,.none]}
noncomputable def xdO(d:Addr)(fs:List (Str×V)):HO:=.ext fun h=>∃mA,h.Ns1 d mA/\(∀f,mf (fs.lookup f) (mA f))/\xb mA (fs.map (·.1))
noncomputable def BI(K:aa)(C f:Addr)(bmB:List Value)(newId:String):Bool:=match K.lookup C with
 |some ⟨.type "type",_,.cls cd,sl⟩=>(match cd.mro,sl.toList with
  |.ref C'::bm,[_,_,_,_,some (.builtin n),_]=>C'==C&&n==newId&& !cd.hasDel&&tailIn K bmB bm&&nsOkIn K cd.ns&&nsIn K cd.ns "__init__"==some (some (.ref f))
  |_,_=>false)
 |_=>false
structure MkX(K:aa)(C f:Addr):Prop where
 ex:BI K C f bmV "ValueError.__new__"=true
 fn:∃o,K.lookup f=some o/\o.cls=.type "function"
 kp:keepIn K (.ref C)=true
end L2
namespace L2
open PySem PySem.Spec PySem.W PyProof.Rows PySem.Builtin PySem.Builtin.ObjectAttr
noncomputable def overX:List Value->Bool
 |.ref _::r=>overX r
 |l=>l==bmV
section
variable {prog:Program}{w:World}{K:aa}{A:Around}{E:Value->Shared->Prop}{s:Shared}{e C:Addr}{name:Str}{v:Value}{vs:Array Value}{Q:Unit->Shared->Prop}
structure StX(K:aa)(C:Addr)(name:Str):Prop where
 hs:findIn K (.ref C) "__setattr__"=some (some (.builtin "object.__setattr__"))
 hp:(clsIn K C).any (fun cd=>overX cd.mro)=true
 ht:takerIn K C name=some none
 hd:(clsIn K C).any (·.hasDict)=true
noncomputable abbrev exObj(C:Addr)(d:Option Addr)(vs:Array Value):Obj:={cls:=.ref C,dict:=d,data:=.fields vs}
end
end L2
namespace L2
open PySem PySem.Spec PySem.W PyProof.Rows
noncomputable def sFldX(K:aa)(ta tv:TE)(f:Str):TS:=fun D σ H=>tv σ H fun y H1=>ta σ H1 fun x H2=>∃a C,x=.ref a/\StX K C f/\
 ((H2 a=some (exO a C none)/\∀dd,H2 dd=none->D.nx σ (upd (upd H2 dd (xdO dd [(f,y)])) a (exO a C (some dd))))\/
  ∃dd fs,H2 a=some (exO a C (some dd))/\H2 dd=some (xdO dd fs)/\fs.length<1000/\D.nx σ (upd H2 dd (xdO dd (putF f y fs))))
structure BsX(K:aa)(B:Addr):Prop where
 ga:specialIn K (.ref B) "__getattribute__"=some (some (.builtin "type.__getattribute__"))
 rd:readsIn K B (.type "type")=true
 fd:findCls K (.ref B) (.type "type") "__init__"=some (.val (.builtin "ValueError.__init__"))
noncomputable def tBase(K:aa)(B:Addr)(t:TA):TE:=fun σ H Q=>BsX K B/\t σ H fun vs H1=>∃a C f us,vs=.ref a::us/\H1 a=some (exO a C none)/\us.length<=sizeLine/\BI K C f bmV "ValueError.__new__"=true/\Q .non H1
noncomputable def del(H:Hp)(a:Addr):Hp:=fun b=>if b=a then none else H b
section
variable {X:Cx}{pins:List (Addr×Obj)}{σ:St}{H:Hp}{s:Shared}
structure NewX(X:Cx)(pins:List (Addr×Obj))(H:Hp)(s:Shared)(a C:Addr)(d:Option Addr):Prop where
 at_:∃x0,s.heap.get? a=some (exObj C d #[.ref x0,.none,.none,.none,.bool false,.none])
 new:X.s₀.heap.get? a=none
 un:H a=none
 pins:∀p∈X.pn++pins,p.1≠a
theorem yG{M:Model}{E:Value->Shared->Prop}{Q:Unit->Shared->Prop}{a C:Addr}{d:Option Addr}(I:Inv X pins σ H s)(stk:X.stack=X.env::X.outer)(hf:X.env.frame=some X.env.locals)(n:NewX X pins H s a C d)
  (h:∀s2,Inv X pins σ H s2->Fly X.s₀.heap s2.heap H (X.pn++pins) a (.ref C) d->Q () s2):
  wpAny M X.A (jg (.ref a) X.env) (fun _ s'=>wpAny M X.A (vt (.ref a) none) Q E s') E s:=by
 obtain⟨x0,ht⟩:=n.at_;unfold jg;simp only[hf];refine af (vB (x:=.none) ht rfl (by rfl) ?_);rw[if_neg (show ¬(bG != bG)=true by simp)];exact enter I stk hf ht rfl (by simp) n.new n.un n.pins h
noncomputable def B6(X:Cx)(E:XS):Prop:=∀(pins:List (Addr×Obj))(σ:St)(H:Hp)(s:Shared)(a C:Addr)(d:Option Addr),Inv X pins σ H s->NewX X pins H s a C d->E σ (.ref C) d H->X.xe (.ref a) s
theorem wY{P:Program}{w:World}{K:aa}{mg:Str->Option Value}{base:Heap}{N:List Str}{qual:Str}{scope:Scope}{f:Addr}{cd:Value}{A:Around}{outer:List Env}{s:Shared}{H:Hp}{E:XK}:
  B6 (tw (CXx P w) P w K mg base N qual scope f cd A outer s H E) (fun _=>E):=by
 intro pins σ H1 s1 a C d I n q;show wpAny _ _ (leaving _ _) _ _ _;unfold leaving;refine af (yG I rfl rfl n fun s2 I2 F2=>?_);obtain⟨⟨T,oe,vs,oT,ts,h1,h2,h3,h4,h5,h6,h7,h8,h9,h10,h11,_⟩,b1,b2,_⟩:=F2;exact⟨a,.ref C,d,H1,rfl,I2.os,I2.bare,I2.base,I2.hok,⟨⟨T,oe,vs,oT,ts,h1,h2,h3,h4,h5,h6,h7,h8,h9,h10,h11,fun _ z=>nomatch z⟩,b1,b2,fun _ z=>nomatch z⟩,q⟩
noncomputable def sRaisX(C:Addr)(sp:Sp)(dvs:List V)(E:XS)(t:TA):TS:=fun _ σ H=>t σ H fun vs H1=>vs.length<=sizeLine/\∀a,H1 a=none->
 sp (.ref a::(vs++dvs)) (upd H1 a (exO a C none)) (fun v H2=>v=.non/\∃d,H2 a=some (exO a C d)/\E σ (.ref C) d (del H2 a)) (E σ)
end
noncomputable def fldOk(K:aa)(C:Addr)(f:Str):Bool:=
 excOk K C&&findIn K (.ref C) f==some none&&(match clsIn K C with |some cd=>cd.hasDict|none=>false)
noncomputable def rFld(K:aa)(f:Str):V->Hp->VK->Prop:=fun x H Q=>∃a C dd fs v,x=.ref a/\H a=some (BH a (.ref C) (some dd))/\H dd=some (xdO dd fs)/\fldOk K C f=true/\fs.lookup f=some v/\Q v H
noncomputable def tRepl(ta tb:TE)(i:Nat)(c d:Str)(tr:TA):TA:=fun σ H Q=>ta σ H fun x H1=>tb σ H1 fun y H2=>∃u v z:Str,x=.str u/\y=.str v/\(1<=u.length/\1<=v.length/\u.length+v.length<=sizeLine/\z.length<=1000)/\σ[i]? =some (some (.str z))/\
 tr σ H2 fun xs H3=>Q (.str (u++v)::.str (Txt.replace z c d)::xs) H3
section
variable {X:Cx}{a b:Expr}{es:List Expr}{ta tb:TE}{tr:TA}{i:Nat}{x c d:Str}{p1 np apos cpos p2 p3:Pos}{j1 j2:Nat}
noncomputable def tMkf(K:aa)(C:Addr)(sp:Sp)(dvs:List V)(E:XS)(fl:Str)(t:TA):TE:=fun σ H Q=>t σ H fun vs H1=>vs.length<=sizeLine/\∀a,H1 a=none->
 sp (.ref a::(vs++dvs)) (upd H1 a (exO a C none)) (fun v H2=>v=.non/\∃b dd fs w,V.ref a=.ref b/\H2 b=some (exO b C (some dd))/\H2 dd=some (xdO dd fs)/\fldOk K C fl=true/\fs.lookup fl=some w/\Q w H2) (E σ)
end
noncomputable def rSlW(K:aa):V->Option Int->Option Int->Hp->VK->Prop:=fun x lo hi H Q=>∃a xs,x=.ref a/\SqT K H a xs/\HT.sIx xs.length 0 lo=0/\HT.sIx xs.length xs.length hi=xs.length/\Q (.ref a) H
noncomputable def tMakeS(C:Addr)(sp:Sp)(dvs:List V)(E:XS)(t:TA):TE:=fun σ H Q=>tMake C sp dvs (E σ) t σ H Q
noncomputable def tMethS(C:Addr)(m:Str)(sp:Sp)(dvs:List V)(E:XS)(ta:TE)(t:TA):TE:=fun σ H Q=>tMeth C m sp dvs (E σ) ta t σ H Q
end L2
namespace L2
open PySem PySem.Spec PyProof.Rows
section
variable {X:Cx}{pins:List (Addr×Obj)}{σ:St}{H N:Hp}{s:Shared}{h':Heap}
noncomputable def tLZip(K:aa)(t:TA):TE:=fun σ H Q=>t σ H fun vs H1=>∃a b xs ys,vs=[.ref a,.ref b]/\SqL K H1 a xs/\SqL K H1 b ys/\xs.length<=1000/\∀H' p ws,aU H1 H'->H1 p=none->H' p=some (.lst ws)->ws.length=min xs.length ys.length->
 (∀(j:Nat)(x y:V),xs[j]? =some x->ys[j]? =some y->∃q,ws[j]? =some (.ref q)/\H1 q=none/\H' q=some (.tup [x,y]))->Q (.ref p) H'
end
end L2
namespace Q
open PySem
noncomputable def kb(xs:Array Nat):Prop:=xs.toList.Pairwise (·<·)
structure Parts(xs:Array Nat)(j p:Nat):Prop where
 le:p<=xs.size
 lo:∀i x,i<p->xs[i]? =some x->x<j
 hi:∀i x,p<=i->xs[i]? =some x->j<=x
theorem oy{xs:Array Nat}(h:kb xs){i k x y:Nat}(hik:i<k)(hx:xs[i]? =some x)(hy:xs[k]? =some y):x<y:=by
 have hx':xs.toList[i]? =some x:=by simpa using hx
 have hy':xs.toList[k]? =some y:=by simpa using hy
 obtain⟨h1,e1⟩:=bw.mp hx';obtain⟨h2,e2⟩:=bw.mp hy';have :=vz.mp h i k h1 h2 hik;rw[e1,e2]at this;exact this
theorem pI{xs:Array Nat}(h:kb xs)(j:Nat):∀(fuel lo hi:Nat),hi-lo<=fuel->lo<=hi->hi<=xs.size->(∀i x,i<lo->xs[i]? =some x->x<j)->(∀i x,hi<=i->xs[i]? =some x->j<=x)->Parts xs j (tV xs j fuel lo hi)
 | 0,lo,hi,hf,hl,hs,a,b=>by
  have e:lo=hi:=by omega
  subst e;exact⟨hs,a,b⟩
 |fuel+1,lo,hi,hf,hl,hs,a,b=>by
  unfold tV;by_cases c:lo<hi
  ·rw[if_pos c]
   have hm:(lo+hi)/2<xs.size:=by omega
   have em:xs[(lo+hi)/2]? =some xs[(lo+hi)/2]:=by simp[hm]
   have eg:xs.getD ((lo+hi)/2) j=xs[(lo+hi)/2]:=by simp[Ck,hm]
   simp only[eg];by_cases d:xs[(lo+hi)/2]<j
   ·rw[if_pos d]
    refine pI h j fuel _ hi (by omega) (by omega) hs (fun i x hi' e=>?_) b;by_cases k:i=(lo+hi)/2
    ·subst k
     rw[em]at e;cases e;exact d
    ·exact eV (oy h (by omega) e em) d
   ·rw[if_neg d]
    refine pI h j fuel lo _ (by omega) (by omega) (by omega) a fun i x hi' e=>?_;by_cases k:i=(lo+hi)/2
    ·subst k
     rw[em]at e;cases e;omega
    ·have :=oy h (by omega:(lo+hi)/2<i) em e
     omega
  ·rw[if_neg c]
   have e:lo=hi:=by omega
   subst e;exact⟨hs,a,b⟩
theorem gZ{xs:Array Nat}(h:kb xs)(j:Nat):Parts xs j (bV xs j):=
 pI h j xs.size 0 xs.size (by omega) (aL _) (ar _) (fun i x hi _=>absurd hi (tX _)) fun i x hi e=>by
  have :=(cz.mp e).1
  omega
theorem uX{α:Type}(xs:Array α)(p:Nat)(x:α):(mB xs p x).toList=xs.toList.take p++x::xs.toList.drop p:=by
 unfold mB;simp;exact j6 (by simp)
theorem uy{xs:Array Nat}{j:Nat}(h:kb xs)(hj:∀i:Nat,xs[i]? ≠some j):kb (mB xs (bV xs j) j):=by
 have P:=gZ h j;unfold kb;rw[uX];have sub:=h;unfold kb at sub;rw[List.pairwise_append];refine⟨sub.sublist (oE _ _),List.pairwise_cons.mpr ⟨fun y hy=>?_,sub.sublist (List.drop_sublist _ _)⟩,fun x hx y hy=>?_⟩
 ·obtain⟨i,hi⟩:=kF.mp hy
  rw[iG]at hi;have e:xs[bV xs j+i]? =some y:=by simpa using hi
  have :=P.hi _ _ (eX _ _) e
  have ne:y≠j:=fun z=>hj _ (z▸e);omega
 ·obtain⟨i,hi⟩:=kF.mp hx
  have hip:i<bV xs j:=by
   have :=(bw.mp hi).1
   rw[aW]at this;omega
  rw[vJ hip]at hi;have e:xs[i]? =some x:=by simpa using hi
  have lx:=P.lo _ _ hip e;rcases aI.mp hy with rfl|hy
  ·exact lx
  ·obtain⟨k,hk⟩:=kF.mp hy
   rw[iG]at hk;have e2:xs[bV xs j+k]? =some y:=by simpa using hk
   have :=P.hi _ _ (eX _ _) e2
   omega
theorem w4{xs:Array Nat}(h:kb xs){i x:Nat}(e:xs[i]? =some x):bV xs (x+1)=i+1:=by
 have P:=gZ h (x+1);have hi:=(cz.mp e).1;apply tZ
 ·apply eW
  intro c;have hs:i+1<xs.size:=aT c P.le;have e2:xs[i+1]? =some xs[i+1]:=by simp[hs]
  have a:=P.lo _ _ c e2;have b:=oy h (di i) e e2;omega
 ·apply eW
  intro c;have :=P.hi i x (by omega) e;omega
theorem wZ{xs:Array Nat}(h:kb xs):bV xs 0=0:=by
 have P:=gZ h 0;apply tZ _ (aL _);apply eW;intro c;have hs:0<xs.size:=aT c P.le;have :=P.lo 0 xs[0] c (by simp[hs]);omega
theorem ze{xs:Array Nat}(h:kb xs){i x:Nat}(e:xs[i]? =some x):bV xs x=i:=by
 have P:=gZ h x;apply tZ
 ·apply eW
  intro c;exact df _ (P.lo i x c e)
 ·apply eW
  intro c;have hs:bV xs x<xs.size:=eV c (cz.mp e).1;have e2:xs[bV xs x]? =some xs[bV xs x]:=by simp[hs]
  have a:=P.hi _ _ (ar _) e2;have b:=oy h c e2 e;omega
theorem vZ(n:Nat):kb (Array.range n):=by
 unfold kb;rw[Array.toList_range];exact xY
structure gO(t:bx):Prop where
 up:kb t.place
 no:t.dummies= #[]
theorem slot_no{t:bx}(T:gO t)(j:Nat):t.slot j≠.dummy:=by
 unfold bx.slot;simp only[T.no];split
 ·simp
 ·split
  ·rename_i h
   exact absurd h (by simp[t7])
  ·simp
theorem yf{t:bx}(T:gO t){j:Nat}(h:t.slot j=.empty):∀i:Nat,t.place[i]? ≠some j:=fun i e=>by
 have :=ze T.up e
 unfold bx.slot at h;simp only[this,e,beq_self_eq_true,if_true]at h;cases h
theorem qJ(t:bx)(p:bx.Probe):(t.advance p).dummy=p.dummy:=by
 unfold bx.advance;split <;>rfl
theorem o3{t:bx}(T:gO t){f:Nat->Int}{h:Int}{j:Nat}{d:Option Nat}:∀(fuel:Nat)(p:bx.Probe),p.dummy=none->j4 t f h fuel p=some (.empty j d)->t.slot j=.empty/\d=none
 | 0,p,_,e=>by simp[j4]at e
 |fuel+1,p,hp,e=>by
  unfold j4 at e;cases hs:t.slot p.j with
  |empty=>
   rw[hs]at e;simp only[fh,bx.Met.empty.injEq]at e;exact⟨by rw[<-e.1];exact hs,by rw[<-e.2];exact hp⟩
  |dummy=>exact absurd hs (slot_no T _)
  |live i=>
   rw[hs]at e;simp only at e;split at e
   ·cases e
   ·exact o3 T fuel _ (by rw[qJ];exact hp) e
theorem qC{t:bx}(T:gO t){h:Int}{j:Nat}{b:Bool}(e:t.freeSlot h=some (j,b)):(∀i:Nat,t.place[i]? ≠some j)/\b=false:=by
 unfold bx.freeSlot at e;split at e
 ·rename_i j' d hm
  unfold bx.probe at hm;obtain⟨h1,h2⟩:=o3 T _ _ (by rfl) hm;subst h2;simp only[oD,Option.isSome_none,fh,tW]at e;obtain⟨rfl,rfl⟩:=e;exact⟨yf T h1,rfl⟩
 ·cases e
theorem gr(t:bx)(n:Nat):gO (t.standIn n):=⟨vZ n,rfl⟩
theorem AM{t:bx}(T:gO t){j:Nat}(hj:∀i:Nat,t.place[i]? ≠some j):gO (t.put j).1:=by
 refine⟨uy T.up hj,?_⟩;show(if t7 t.dummies j=true then _ else t.dummies)= #[];rw[T.no];simp[t7]
theorem o5{t:bx}(T:gO t)(n:Nat):gO (t.orStandIn n):=by
 unfold xX;split
 ·exact T
 ·exact gr t n
theorem uW{t:bx}(T:gO t)(es:Array (Int×Value))(h:Int)(x:Value):gO (layNew t es h x).2.1/\(layNew t es h x).2.2.1=false:=by
 unfold layNew;split
 ·rename_i j b e
  obtain⟨h1,h2⟩:=qC T e;subst h2;exact⟨o5 (AM T h1) _,rfl⟩
 ·exact⟨gr t _,rfl⟩
theorem rm{mask finger moves:Nat}{led plain:Bool}{hashes:Array Int}{t:bx}{order:Array Nat}(h:bx.laid mask finger moves led plain hashes=some (t,order)):gO t/\t.led=led/\t.plain=plain:=by
 unfold bx.laid at h;cases e:bx.layClean mask hashes with
 |none=>rw[e]at h;cases h
 |some owner=>
  rw[e]at h;have h':some (({mask,place:=(((aM (mask+1)).filterMap fun j=>(owner.getD j none).map (j,·)).map (·.1)).toArray,dummies:= #[],finger,led,moves,plain}:bx),(((aM (mask+1)).filterMap fun j=>(owner.getD j none).map (j,·)).map (·.2)).toArray)=some (t,order):=h;have h2:=(Prod.mk.inj (be h')).1;subst h2;refine⟨⟨?_,rfl⟩,rfl,rfl⟩;show((((aM (mask+1)).filterMap fun j=>(owner.getD j none).map (j,·)).map (·.1)).toArray).toList.Pairwise (·<·);rw[Cf,oG,List.pairwise_filterMap];refine xY.imp fun{a b} hab x hx y hy=>?_;cases ha:owner.getD a none with
  |none=>rw[ha]at hx;cases hx
  |some u=>
   cases hb:owner.getD b none with
   |none=>rw[hb]at hy;cases hy
   |some v=>
    rw[ha]at hx;rw[hb]at hy;cases hx;cases hy;exact hab
theorem qy(t:bx)(es:Array (Int×Value))(wanted:Nat):gO (k7 t es wanted).2.1:=by
 unfold k7;split
 ·rename_i t' order e
  simp only;split
  ·unfold Cb at e
   exact(rm e).1
  ·exact gr t _
 ·exact gr t _
theorem put_led(t:bx)(j:Nat):(t.put j).1.led=t.led:=rfl
theorem qA(t:bx)(n:Nat):(t.orStandIn n).led=t.led:=by
 unfold xX;split <;>rfl
theorem wu(t:bx)(es:Array (Int×Value))(h:Int)(x:Value):(layNew t es h x).2.1.led=t.led:=by
 unfold layNew;split
 ·exact(qA _ _).trans (put_led _ _)
 ·rfl
theorem sI(t:bx)(es:Array (Int×Value))(wanted:Nat):(k7 t es wanted).2.1.led=t.led:=by
 unfold k7;split
 ·rename_i t' order e
  simp only;split
  ·unfold Cb at e
   exact(rm e).2.1
  ·rfl
 ·rfl
section
variable {prog:Program}{w:World}{K:Type}[DecidableEq K]{knd:KeyKind prog w K}{A:Around}{E:Value->Shared->Prop}{s:Shared}
noncomputable def og(knd:KeyKind prog w K)(h:Heap)(a:Addr)(S:K->Bool)(n:Nat)(led:Bool):Prop:=
 ∃o es ep t,h.get? a=some o/\o.ExactSet/\o.data=.set es ep t/\ElemsOf knd es.toList/\(∀k,S k=true↔∃e∈es.toList,knd.is k e.2=true)/\es.size<eE/\t.fits es.size=true/\es.size=n/\gO t/\t.led=led
theorem oW{h:Heap}{a:Addr}{o:Obj}{es:Array (Int×Value)}{ep:Nat}{t:bx}(ho:h.get? a=some o)(hx:o.ExactSet)(hd:o.data=.set es ep t){es':Array (Int×Value)}{t':bx}{S':K->Bool}(hl:ElemsOf knd es'.toList)(hm:∀k,S' k=true↔∃e∈es'.toList,knd.is k e.2=true)(hb:es'.size<eE)(hf:t'.fits es'.size=true)(ht:gO t'):
  og knd (h.update a (Obj.putSet es' t')) a S' es'.size t'.led:=by
 have g:=(SetOf_store (knd:=knd) ho hx hd hl hm hb hf).1;exact⟨_,es',ep+1,t',g,hx,rfl,hl,hm,hb,hf,rfl,ht,rfl⟩
theorem vo{g:Bool->Sem Unit}(hg:∀(b:Bool)(s₁:Shared)(Q':Unit->Shared->Prop),Q' () s₁->wpAny (model prog w) A (g b) Q' E s₁){a:Addr}{o:Obj}{es:Array (Int×Value)}{ep:Nat}{t:bx}(ho:s.heap.get? a=some o)(hx:o.ExactSet)(hd:o.data=.set es ep t)
  {es1:Array (Int×Value)}{t2:bx}{S':K->Bool}(hl:ElemsOf knd es1.toList)(hm:∀k',S' k'=true↔∃e∈es1.toList,knd.is k' e.2=true)(hb:es1.size<eE)(hf:t2.fits es1.size=true)(ht:gO t2){wasDummy:Bool}{R:Option Bool->Shared->Prop}
  (h:∀h',dA a s.heap h'->og knd h' a S' es1.size t2.led->R (some true) {s with heap:=h'}):
  wpAny (model prog w) A (do
    storeSet a es1 t2
    if(!wasDummy&&t2.tooFull)=true then do
      g (k7 t2 es1 (dD es1.size)).2.2
      storeSet a (k7 t2 es1 (dD es1.size)).1 (k7 t2 es1 (dD es1.size)).2.1
      pure (some true)
     else pure (some true)) R E s:=by
 refine af (wpAny_storeSet_of ho hd ?_ (jZ hb));have ho1:=(SetOf_store (knd:=knd) ho hx hd hl hm hb hf).1;have x1:=oW (knd:=knd) ho hx hd hl hm hb hf ht;have sb:=gk s.heap a (Obj.putSet es1 t2);split
 ·have hp:=relayAll_perm t2 es1 (dD es1.size)
  have hr:=relayAll_fits t2 es1 (dD es1.size);have hT:=qy t2 es1 (dD es1.size);have hL:=sI t2 es1 (dD es1.size);generalize k7 t2 es1 (dD es1.size)=Rl at hp hr hT hL⊢;obtain⟨es2,t3,gave⟩:=Rl;dsimp only at hp hr hT hL⊢;have hz:es2.size=es1.size:=by rw[<-bZ,hp.length_eq,bZ]
  refine af (hg _ _ _ (af (wpAny_storeSet_of ho1 rfl ?_ (jZ (by rw[hz];exact hb)))));have x2:=oW (knd:=knd) ho1 hx rfl (hl.perm hp) (fun k'=>(hm k').trans ⟨fun⟨e,he,q⟩=>⟨e,hp.mem_iff.mpr he,q⟩,fun⟨e,he,q⟩=>⟨e,hp.mem_iff.mp he,q⟩⟩) (by rw[hz];exact hb) hr hT;rw[hz,hL]at x2;exact aj (h _ (sb.trans (gk _ a _)) x2)
 ·exact aj (h _ sb x1)
theorem v8{t:bx}(T:gO t):gO {t with plain:=false}:=⟨T.up,T.no⟩
theorem addX{a:Addr}{S:K->Bool}{n:Nat}{led:Bool}{k:K}{x:Value}{Q:Bool->Shared->Prop}(hk:knd.is k x=true)(hsc:x.scannable=true)(hS:og knd s.heap a S n led)(hroom:n+1<eE)
  (h:∀h',dA a s.heap h'->og knd h' a (fun k'=>S k'||decide (k'=k)) (if S k then n else n+1) led->Q (!S k) {s with heap:=h'}):
  wpAny (model prog w) A (setAddHashed a x (knd.hash k)) Q E s:=by
 obtain⟨o,es,ep,t,ho,hx,hd,hl,hm,hb,hf,hn,ht,he⟩:=hS;have hb1:es.size+1<eE:=by rw[hn];exact hroom
 unfold setAddHashed setAddHashedIn;refine cc (af (cG ho hd hf ?_));dsimp only;rw[byScan_of hsc hb hl];simp only[↓reduceIte];unfold setAddByScan;refine af ?_;refine af (mi (af (wpAny_setScan_of hk ho hd hf hl ?_)));cases hr:List.findIdx? (fun e=>knd.is k e.2) es.toList with
 |some j=>
  dsimp only;obtain⟨hj,hp,_⟩:=List.findIdx?_eq_some_iff_getElem.mp hr;have hSk:S k=true:=(hm k).mpr ⟨es.toList[j],cK hj,hp⟩;refine aj (aj ?_);have :=h s.heap (dA.refl a s.heap) ⟨o,es,ep,t,ho,hx,hd,hl,fun k'=>by
   rw[cX,decide_eq_true_eq,<-hm k'];exact⟨fun q=>q.elim id (fun e=>e▸hSk),.inl⟩,hb,hf,by rw[hSk];exact hn,ht,he⟩
  rw[hSk]at this;exact this
 |none=>
  dsimp only;have hSk:S k=false:=by
   cases q:S k with
   |false=>rfl
   |true=>
    obtain⟨e,m1,m2⟩:=(hm k).mp q;have :=List.findIdx?_eq_none_iff.mp hr e m1;rw[m2]at this;cases this
  have hw:∀(b:Bool){s₁:Shared}{Q':Unit->Shared->Prop},Q' () s₁->wpAny (model prog w) A (match b with |true=>rule "set.scan.the-table-gave-way" |false=>pure ()) Q' E s₁:=fun b s₁ Q' q=>by cases b<;>first |exact aj q|exact mi q
  have hp:=layNew_perm t es (knd.hash k) x;have hfit:=layNew_fits t es (knd.hash k) x;have hT:=(uW ht es (knd.hash k) x).1;have hL:=wu t es (knd.hash k) x;generalize layNew t es (knd.hash k) x=L at hp hfit hT hL⊢;obtain⟨es1,t1,wd,gave⟩:=L;dsimp only at hp hfit hT hL⊢;rw[Array.toList_push]at hp;have l1:ElemsOf knd es1.toList:=(hl.push hk hsc).perm hp;have m1:∀k',(S k'||decide (k'=k))=true↔∃e∈es1.toList,knd.is k' e.2=true:=mem_push_iff hk hm hp;have z1:es1.size=n+1:=by rw[<-bZ,hp.length_eq,aA,bZ,hn];rfl
  have b1:es1.size<eE:=by rw[z1];exact hroom
  refine af (hw _ ?_);have fin:∀h',dA a s.heap h'->og knd h' a (fun k'=>S k'||decide (k'=k)) es1.size led->Q true {s with heap:=h'}:=fun h' sb x=>by
   have :=h h' sb
   rw[hSk]at this;rw[z1]at x;exact this x
  split
  ·refine af ?_
   rw[hashByValue_scannable 8 hsc];refine aj (vo ?_ ho hx hd l1 m1 b1 ?_ ?_ ?_)
   ·intro b s₁ Q' q;cases b<;>first |exact aj q|exact mi q
   ·split
    ·exact hfit
    ·exact bx.fits_plain_off hfit
   ·split
    ·exact hT
    ·exact v8 hT
   ·intro h' sb x
    refine aj (fin h' sb ?_);split at x
    ·rw[hL,he]at x;exact x
    ·have e2:({t1 with plain:=false}:bx).led=led:=hL.trans he
     rw[e2]at x;exact x
  ·refine af (aj ?_)
   simp only[↓reduceIte];refine vo ?_ ho hx hd l1 m1 b1 hfit hT ?_
   ·intro b s₁ Q' q;cases b<;>first |exact aj q|exact mi q
   ·intro h' sb x
    rw[hL,he]at x;exact aj (fin h' sb x)
end
end Q
set_option maxHeartbeats 3200000
namespace Q
open PySem PySem.Spec PySem.W PyProof.Rows L2
section
variable {prog:Program}{w:World}{A:Around}{R:Result->Shared->Prop}{I:Addr}{fp wr:List Addr}{G:Array zx->Array zx->Prop}{n:Nat}{P:Nat->Value->Prop}{St:Nat->Shared->Prop}
theorem qW{led:Bool}(W:WalksS prog w A.in1 I fp wr G n P St)(S:Addr)(hSf:S∉fp)(ks:List Key)(hn:ks.length=n)(hv:∀i v,P i v->∃k,ks[i]? =some k/\RelV (kV k) v)(hb:n+1<eE):
  ∀(m i:Nat)(s:Shared),n-i=m->i<=n->St i s->og (bo prog w) s.heap S (has (met (ks.take i))) (met (ks.take i)).length led->
   (∀s',Moved (S::wr) G s s'->og (bo prog w) s'.heap S (has (met ks)) (met ks).length led->R (.ok (.ret .none)) s')->
   i3 (model prog w) A (.builtin "set.update.loop" ⟨[.ref S,.ref I],[]⟩) R s
 | 0,i,s,hm,hi,st,hS,hR=>by
  obtain rfl:i=n:=by omega
  rw[<-hn,bN]at hS;refine dF jh ?_;rw[cN dY _];show wpAny _ A.in1 (pyNext (.ref I)>>=_) _ _ s;refine af (W.done s _ _ st fun s' mv=>?_);obtain⟨o,es,ep,t,ho,rest⟩:=hS;exact aj (hR s' (mv.mono fun b hb=>aF _ hb) ⟨o,es,ep,t,mv.heap S _ (fun z=>hSf (W.sub _ z)) ho,rest⟩)
 |m+1,i,s,hm,hi,st,hS,hR=>by
  have hlt:i<n:=by omega
  refine dF jh ?_;rw[cN dY _];show wpAny _ A.in1 (pyNext (.ref I)>>=_) _ _ s;refine af (W.item i s _ _ hlt st fun v s' hP st' mv=>?_);obtain⟨k,hk,rv⟩:=hv i v hP;have hS1:og (bo prog w) s'.heap S (has (met (ks.take i))) (met (ks.take i)).length led:=by
   obtain⟨o,es,ep,t,ho,rest⟩:=hS;exact⟨o,es,ep,t,mv.heap S _ (fun z=>hSf (W.sub _ z)) ho,rest⟩
  have hsc:v.scannable=true:=by
   cases k with
   |inl j=>obtain⟨t,rfl⟩:=rv;rfl
   |inr x=>obtain⟨t,rfl⟩:=rv;rfl
  show wpAny _ A.in1 (holding [v] (setAdd S v)>>=_) _ _ s';refine af (cc ?_);unfold setAdd;refine cc (af ((bo prog w).pyHash (k:=k) (jC rv) ?_));have hle:=Bq (ks.take i);rw[aW]at hle;refine addX (knd:=bo prog w) (led:=led) (s:={s' with toks:=s'.toks+1}) (jC rv) hsc hS1 (by omega) fun h' hsb hS2=>?_;have et:ks.take (i+1)=ks.take i++[k]:=by rw[bP,hk];rfl
  have hS3:og (bo prog w) h' S (has (met (ks.take (i+1)))) (met (ks.take (i+1))).length led:=by
   rw[et,Bo];obtain⟨o,es,ep,t,ho,hex,hd,hel,hmem,hbb,hf,hnn,htt⟩:=hS2;refine⟨o,es,ep,t,ho,hex,hd,hel,fun j=>?_,hbb,hf,by rw[uP];exact hnn,htt⟩;rw[<-hmem j,jV,uR,cX,jV,decide_eq_true_eq]
  refine aj ⟨fU dY _,qW W S hSf ks hn hv hb m (i+1) _ (by omega) hlt (W.frame _ s' _ _ st' (eL _) fun b hq o e=>?_) hS3 fun s'' mv2 hS4=>?_⟩
  ·rw[hsb.2 b (fun z:b=S=>hSf (by rw[<-z];exact hq))]
   exact e
  ·refine hR s'' (Moved.trans W.gtrans ((mv.mono fun b hb=>aF _ hb).then_heap (eL _) fun b o hq e=>?_) mv2) hS4
   rw[hsb.2 b (fun z:b=S=>hq (by rw[z];exact au))];exact e
end
section
variable {prog:Program}{w:World}{A:Around}{E:Value->Shared->Prop}{s:Shared}
theorem yX(a:Value){Q₁:Value->Shared->Prop}(h:Q₁ (.ref s.heap.objs.size) {s with heap:=s.heap.push (jl (!w.params.followText "set-order"))}):i3 (model prog w) A (.call (.builtin "set.__new__") ⟨[.type "set",a],[]⟩) (wants Q₁ E) s:=by
 refine codeAny_of_tree ?_;show wpAny _ A.in1 (do checkBuiltinCall "set.__new__" ⟨[.type "set",a],[]⟩;again (.builtin "set.__new__" ⟨[.type "set",a],[]⟩)) _ _ s;refine af (wpAny_of_eq (F.newCall_set_1 a) (aj ⟨fU F.plain_set_new _,dF F.entry_set_new ?_⟩));rw[cN F.plain_set_new _];unfold Builtin.«set.__new__» Builtin.Frozenset.newClass;have hsub:=sub_set_self;obtain⟨hp,g,d,tk,os⟩:=s;dsimp only;wp_walk;refine cw (aj ?_);dsimp only;simp only[newObj];exact af (wpAny_alloc (aj (aj h)))
theorem yi{l:Addr}{items:Array Value}{P:Bool->Heap->Prop}{Q:Value->Shared->Prop}(hl:s.heap.IsList l items)
  (hloop:∀(led:Bool)(R:Result->Shared->Prop),(∀s',Moved (s.heap.objs.size::[(s.heap.push (jl led)).objs.size]) (fun a b=>b=a) {s with heap:=(s.heap.push (jl led)).push {cls:=.type "list_iterator",data:=.fields #[.ref l,.int 0 0]}} s'->P led s'.heap->R (.ok (.ret .none)) s')->i3 (model prog w) A.in1.in1 (.builtin "set.update.loop" ⟨[.ref s.heap.objs.size,.ref (s.heap.push (jl led)).objs.size],[]⟩) R {s with heap:=(s.heap.push (jl led)).push {cls:=.type "list_iterator",data:=.fields #[.ref l,.int 0 0]}})
  (h:∀(h':Heap)(tk:Nat),P (!w.params.followText "set-order") h'->(∀b o,b<s.heap.objs.size->s.heap.get? b=some o->h'.get? b=some o)->Q (.ref s.heap.objs.size) {s with heap:=h',toks:=tk}):
  wpAny (model prog w) A (call (.type "set") [.ref l]) Q E s:=by
 have c0:=F.called_set;obtain⟨c,tl,hmro⟩:=c0.mro;have f1:=c0.made;have f2:=c0.sub;have f3:=c0.notType;have f4:=c0.canCreate;have f5:=F.typeCall_set_1 (.ref l);refine wpAny_call (codeAny_of_tree ?_);show wpAny _ _ (callAny (.type "set") _) _ _ _;refine aj ⟨Code.quiet_builtin _ (by decide+kernel),dF F.entry_type_call ?_⟩;rw[Around.under_plain (weight_type_call_type "set" [.ref l] []) rfl];repeat(any_goals (first |assumption|wp_step))
 refine i0 (yX (.ref l) (E:=E) (Q₁:=fun obj s1=>∃led:Bool,led=(!w.params.followText "set-order")/\obj=.ref s.heap.objs.size/\s1={s with heap:=s.heap.push (jl led)}) ⟨_,rfl,rfl,rfl⟩) fun r s1 hr=>?_;rcases r with e|fl
 ·exact hr
 rcases fl with _|_|_|obj
 ·exact hr.elim
 ·exact hr.elim
 ·exact hr.elim
 obtain⟨led,hled,rfl,rfl⟩:=hr;rw[<-hled]at h;have hS:(s.heap.push (jl led)).get? s.heap.objs.size=some (jl led):=aC _ rfl;have hT:Shared.TypeIs {s with heap:=s.heap.push (jl led)} (.ref s.heap.objs.size) "set":=⟨_,hS,rfl⟩;have f6:=c0.init.lookup;have f7:=c0.init.bind (.ref s.heap.objs.size);repeat(any_goals (first |assumption|wp_step))
 refine i0 (codeAny_call_builtin (R:=wants (fun r s2=>r=.none/\∃h' tk,s2={s with heap:=h',toks:=tk}/\P led h'/\
  (∀b o,b<s.heap.objs.size->s.heap.get? b=some o->h'.get? b=some o)) E) c0.init.plain F.entry_set_init (check_set_init_1 hT ?_)) fun r2 s2 hr2=>?_
 ·obtain⟨ol,hol,hcl,nl,hdl⟩:=hl
  obtain⟨oc,od,odt,osl⟩:=ol;obtain rfl:oc=.type "list":=hcl;obtain rfl:odt=.seq items nl:=hdl;have hol':(s.heap.push (jl led)).get? l=some {cls:=.type "list",dict:=od,data:=.seq items nl,slots:=osl}:=ag _ hol;have g1:=F.sub_list_set;have g2:=F.sub_list_frozenset;have g3:(dB "list"==dB "dict")=false:=by decide
  have hl1:(s.heap.push (jl led)).IsList l items:=⟨_,hol',rfl,nl,rfl⟩;unfold Builtin.«set.__init__» noKeywords Builtin.Frozenset.updateFrom;generalize hPI:pyIter=PI
  wp_walk
  subst hPI;refine gv hl1 (af (wpAny_runValue ?_));have hlt:l<s.heap.objs.size:=aw hol;have hz:(s.heap.push (jl led)).objs.size=s.heap.objs.size+1:=cB _ _;refine hloop led _ fun s' mv hS'=>?_
  ·obtain⟨h',g',d',tk',os'⟩:=s'
   obtain rfl:g'=s.gens:=mv.gens;obtain rfl:d'=s.drawn:=mv.drawn;obtain rfl:os'=s.os:=mv.os;show wpAny _ _ _ _ _ _;refine aj ?_;show wpAny _ _ (ret bG) _ _ _;refine aj ⟨rfl,h',tk',rfl,hS',fun b o hq e=>mv.heap b o (fun z=>?_) (ag _ (ag _ e))⟩;rcases aI.mp z with z|z
   ·exact aD hq z
   ·exact aD (bF hq) ((aq.mp z).trans hz)
 ·rcases r2 with e|fl2
  ·exact hr2
  rcases fl2 with _|_|_|v
  ·exact hr2.elim
  ·exact hr2.elim
  ·exact hr2.elim
  obtain⟨rfl,h',tk,rfl,hS',hk'⟩:=hr2;repeat(any_goals (first |assumption|wp_step))
  exact h _ _ hS' hk'
theorem yh{l:Addr}{items:Array Value}{ks:List Key}{Q:Value->Shared->Prop}(hh:A.handled=none)(hl:s.heap.IsList l items)(hk:ks.length=items.size)
  (hv:∀(i:Nat)(v:Value),items[i]? =some v->∃k,ks[i]? =some k/\RelV (kV k) v)(hb:items.size+1<eE)
  (h:∀(h':Heap)(tk:Nat),og (bo prog w) h' s.heap.objs.size (has (met ks)) (met ks).length (!w.params.followText "set-order")->(∀b o,b<s.heap.objs.size->s.heap.get? b=some o->h'.get? b=some o)->Q (.ref s.heap.objs.size) {s with heap:=h',toks:=tk}):
  wpAny (model prog w) A (call (.type "set") [.ref l]) Q E s:=by
 have hlt:l<s.heap.objs.size:=let⟨_,e,_⟩:=hl;aw e;refine yi (P:=fun led h=>og (bo prog w) h s.heap.objs.size (has (met ks)) (met ks).length led) hl (fun led R hR=>?_) h;have h3:A.in1.in1.in1.handled=none:=by simp[hh]
 have hz:(s.heap.push (jl led)).objs.size=s.heap.objs.size+1:=cB _ _;have hne:l≠(s.heap.push (jl led)).objs.size:=by rw[hz];exact aD (bF hlt)
 have hnf:s.heap.objs.size∉[(s.heap.push (jl led)).objs.size,l]:=by
  rw[hz];intro z;rcases aI.mp z with z|z
  ·exact aD (di _) z
  ·exact cC hlt (aq.mp z)
 have hS:(s.heap.push (jl led)).get? s.heap.objs.size=some (jl led):=aC _ rfl;refine qW (led:=led) ((Walks.list h3 _ l hne items).toS) s.heap.objs.size hnf ks hk hv hb (items.size-0) 0 _ (by omega) (aL _) ⟨⟨_,aC _ rfl,rfl,rfl⟩,(hl.push _).push _⟩ ?_ hR;exact⟨jl led,#[],0,_,ag _ hS,⟨rfl,rfl,rfl⟩,rfl,fun e he=>by simp at he,fun k=>by simp[met,has],by decide,by rfl,rfl,⟨kl,rfl⟩,rfl⟩
end
end Q
set_option maxHeartbeats 1000000
namespace Q
open PySem
theorem kQ{α:Type}:∀{l:List α}{i:Nat}(h:i<l.length),(l[i]::l.eraseIdx i).Perm l
 |a::l,0,_=>d8 _
 |a::l,i+1,h=>by
  have hi:i<l.length:=by simpa using h
  have ih:=kQ hi;show(l[i]::a::l.eraseIdx i).Perm (a::l);exact(Cj _ _ _).trans (ih.cons a)
theorem xq{α:Type}(next :Nat->Nat):∀(fuel k:Nat)(left:List α)(out:Array α),left.length<=fuel->(tS next fuel k left out).toList.Perm (out.toList++left)
 | 0,k,left,out,h=>by
  have e:left=[]:=dP.mp (by omega);subst e;simp[tS]
 |fuel+1,k,left,out,h=>by
  unfold tS;cases left with
  |nil=>simp
  |cons a l=>
   have hi:next k%(a::l).length<(a::l).length:=Nat.mod_lt _ (by simp)
   rw[ah hi];dsimp only;refine(xq next fuel (k+1) _ _ (by rw[uc hi];simp at h⊢;omega)).trans ?_;rw[Array.toList_push,i8];exact List.Perm.append_left _ (kQ hi)
theorem jR{α:Type}(next :Nat->Nat)(xs:Array α):(fG next xs).toList.Perm xs.toList:=by
 unfold fG;exact(xq next xs.size 0 xs.toList #[] (by simp)).trans (by simp)
section
variable {M:Model}{A:Around}{E:Value->Shared->Prop}
theorem qv{s:Shared}{src:Source}{n:Nat}{Q:Nat->Shared->Prop}(h:n≠0)(q:∀i d,i<n->Q i {s with drawn:=d}):wpAny M A (choose src n) Q E s:=fun Γ p hΓ=>by
 unfold choose;rw[Sem.wp_choose];exact⟨h,q _ _ (Nat.mod_lt _ (Nat.pos_of_ne_zero h))⟩
theorem rF{α:Type}:∀(n:Nat)(xs:List α)(s:Shared)(Q:List α->Shared->Prop),xs.length<=n->(∀ys d,ys.Perm xs->Q ys {s with drawn:=d})->wpAny M A (drawOrder n xs) Q E s
 | 0,xs,s,Q,h,q=>by
  have e:xs=[]:=dP.mp (by omega);subst e;unfold drawOrder;exact aj (q [] s.drawn (d8 _))
 |n+1,[],s,Q,h,q=>by
  unfold drawOrder;exact aj (q [] s.drawn (d8 _))
 |n+1,a::l,s,Q,h,q=>by
  unfold drawOrder;refine af (qv (by simp) fun i d hi=>?_);rw[ah hi];dsimp only;refine af (rF n _ _ _ (by rw[uc hi];simp at h⊢;omega) fun ys d' hy=>aj ?_);exact q _ d' ((hy.cons _).trans (kQ hi))
end
end Q
set_option maxHeartbeats 3200000
namespace Q
open PySem PySem.Spec PySem.W PyProof.Rows L2
theorem dG:Slot "set_iterator" "__next__" "set_iterator.__next__":=
 .of (owner:="set_iterator") (n:="__next__") (by rw[f9,dy];kernel_rfl) (by decide+kernel) (by decide+kernel) (by decide+kernel) (by first |exact .inl (by decide+kernel) |exact .inr (by decide+kernel)) (by rw[gy];kernel_rfl)
theorem kq:entryFor table "set_iterator.__next__"=some Builtin.«set_iterator.__next__»:=entryFor_of_tree (by kernel_rfl)
theorem md(a:Value):argsOk "set_iterator.__next__" ⟨[a],[]⟩:=by unfold argsOk;kernel_rfl
theorem n9:entryFor table "set.__iter__"=some Builtin.«frozenset.__iter__»:=entryFor_alias (id':="frozenset.__iter__") (by kernel_rfl) rfl (by decide+kernel) (by kernel_rfl)
noncomputable abbrev siO(S:Addr)(first :Value)(i n ep:Nat):Obj:={cls:=.type "set_iterator",dict:=none,data:=.fields #[first,.int i 0,.ref S,.int n 0,.int ep 0],slots:= #[]}
section
variable {prog:Program}{w:World}{A:Around}{E:Value->Shared->Prop}{s:Shared}
noncomputable def fW(es:Array (Int×Value))(t:bx):Bool:= !t.plain&&es.size>1
theorem lh{a:Addr}{o:Obj}{es:Array (Int×Value)}{ep:Nat}{t:bx}{Q:Bool->Shared->Prop}(ho:s.heap.get? a=some o)(hd:o.data=.set es ep t)(hf:t.fits es.size=true)(h:Q (!w.params.followText "set-order"&&fW es t) s):
  wpAny (model prog w) A (setDrawn a) Q E s:=by
 unfold setDrawn jo;refine af (cG ho hd hf ?_);dsimp only;refine af (af (cw (aj (aj ?_))));exact h
theorem Bv{S:Addr}{o:Obj}{es:Array (Int×Value)}{ep:Nat}{t:bx}{Q:Value->Shared->Prop}(ho:s.heap.get? S=some o)(hc:o.cls=.type "set")(hd:o.data=.set es ep t)(hf:t.fits es.size=true)(hsb:es.size<eE)
  (h1:(!w.params.followText "set-order"&&fW es t)=false->Q (.ref s.heap.objs.size) {s with heap:=s.heap.push (siO S (.int 0 0) 0 es.size ep)})
  (h2:(!w.params.followText "set-order"&&fW es t)=true->∀(ps:List Nat)(d:Drawn),ps.Perm (aM es.size)->Q (.ref (s.heap.objs.size+1)) {s with drawn:=d,heap:=(s.heap.push {cls:=.type "tuple",data:=.seq (ps.map fun(i:Nat)=>rawInt i).toArray}).push (siO S (.ref s.heap.objs.size) 0 es.size ep)}):
  wpAny (model prog w) A (pyIter (.ref S)) Q E s:=by
 have hT:s.TypeIs (.ref S) "set":=⟨o,ho,hc⟩;refine wpAny_pyIter_slot hT F.slot_set_iter (gQ F.slot_set_iter hT n9 ?_ (F.args_set_iter_1 _));unfold Builtin.«frozenset.__iter__» Builtin.Frozenset.slot0 Builtin.Frozenset.sizeOf
 wp_walk
 have hfc:(t.place.size != es.size||decide (t.fill>t.mask))=false:=by
  simp only[bx.fits,aN,beq_iff_eq,decide_eq_true_eq]at hf;simp[hf.1,Nat.not_lt.mpr hf.2]
 rw[hd];dsimp only;rw[if_neg (by rw[hfc];decide)];refine aj (aj (aj ?_));refine af (lh ho hd hf ?_);dsimp only;cases hb:(!w.params.followText "set-order"&&fW es t)with
 |false=>
  rw[if_neg (by decide)];refine af (aj (af (wpAny_setEpoch_of ho hd hf ?_)));refine af (cj (aj ⟨_,rfl,"set_iterator",_,⟨_,aC _ rfl,rfl⟩,dG.lookup,h1 hb⟩))
 |true=>
  rw[if_pos rfl];refine af (rF _ _ _ _ (by simp) fun ps d hp=>?_);refine af (cj ?_ (by show(ps.map fun(i:Nat)=>rawInt i).toArray.size<=sizeLine;rw[ax,ae,hp.length_eq,dz];exact jZ hsb));have ho1:(s.heap.push {cls:=.type "tuple",data:=.seq (ps.map fun(i:Nat)=>rawInt i).toArray}).get? S=some o:=ag _ ho;refine af (wpAny_setEpoch_of (s:={s with drawn:=d,heap:=s.heap.push {cls:=.type "tuple",data:=.seq (ps.map fun(i:Nat)=>rawInt i).toArray}}) ho1 hd hf ?_);have hz:(s.heap.push {cls:=.type "tuple",data:=.seq (ps.map fun(i:Nat)=>rawInt i).toArray}).objs.size=s.heap.objs.size+1:=cB ..;refine af (cj (aj ⟨_,rfl,"set_iterator",_,⟨_,aC _ rfl,rfl⟩,dG.lookup,?_⟩));have :=h2 hb ps d hp;rw[<-hz]at this;exact this
end
section
variable {prog:Program}{w:World}{A:Around}{E:Value->Shared->Prop}{s:Shared}
structure hE(h:Heap)(S:Addr)(es:Array (Int×Value))(ep:Nat)(t:bx):Prop where
 ob:∃o,h.get? S=some o/\o.cls=.type "set"/\o.data=.set es ep t
 fit:t.fits es.size=true
theorem gB{I S:Addr}{first :Value}{i ep:Nat}{es:Array (Int×Value)}{t:bx}{Q:eK->Shared->Prop}(hi:s.heap.get? I=some (siO S first i es.size ep))(hs:hE s.heap S es ep t)
  (h:wpAny (model prog w) A (match first with
   |.int slot _=>do
    match<-setNext S slot.toNat i ep with
    |some (x,next)=>do
     oj (.ref I) 0 (rawInt next)
     oj (.ref I) 1 (rawInt ((i:Int)+1))
     ret x
    |none=>do
     oj (.ref I) 2 .none
     zl (<-newExc (.type "StopIteration") [])
   |_=>do
    let some places<-seqItems? first |unsupported "internal:set_iterator"
    match places[i]? with
    |some (.int place _)=>do
     let x<-setNextDrawn S place.toNat ep
     oj (.ref I) 1 (rawInt ((i:Int)+1))
     ret x
    |some _=>unsupported "internal:set_iterator"
    |none=>do
     oj (.ref I) 0 (rawInt 0)
     oj (.ref I) 2 .none
     zl (<-newExc (.type "StopIteration") [])) Q E s):
  wpAny (model prog w) A (Builtin.«set_iterator.__next__» ⟨[.ref I],[]⟩) Q E s:=by
 obtain⟨⟨o,ho,hc,hd⟩,hf⟩:=hs;unfold Builtin.«set_iterator.__next__»;show wpAny _ _ (fieldsOf (.ref I)>>=_) _ _ _;refine af (wpAny_fieldsOf hi rfl ?_);dsimp only;refine af (wpAny_setEntries_of ho hd hf ?_);rw[if_neg (by simp)];exact h
theorem nextA{I S:Addr}{k i ep:Nat}{es:Array (Int×Value)}{t:bx}{x:Int×Value}{Q:eK->Shared->Prop}(hw:w.params.followText "set-order"=true)(hi:s.heap.get? I=some (siO S (.int k 0) i es.size ep))(hs:hE s.heap S es ep t)
  (hx:(fG (w.params.setOrder S ep) es)[i]? =some x)(h:∀h',h'.get? I=some (siO S (.int k 0) (i+1) es.size ep)->dA I s.heap h'->Q (.done (.ret x.2)) {s with heap:=h'}):
  wpAny (model prog w) A (Builtin.«set_iterator.__next__» ⟨[.ref I],[]⟩) Q E s:=by
 refine gB hi hs ?_;obtain⟨⟨o,ho,hc,hd⟩,hf⟩:=hs;dsimp only;refine af ?_;unfold setNext jo;refine af (cG ho hd hf ?_);dsimp only;refine af (af (cw (aj ?_)));dsimp only;rw[show(model prog w).w.params.followText "set-order"=true from hw];simp only[if_true,bne_self_eq_false,bH,if_false];refine af ?_;unfold setWalk jo;refine af (cG ho hd hf ?_);dsimp only;refine af (af (cw (aj ?_)));dsimp only;rw[show(model prog w).w.params.followText "set-order"=true from hw];simp only[if_true];refine af (cw (aj (aj ?_)));rw[show(fG ({program:=(model prog w).prog,params:=(model prog w).w.params:Setting}.params.setOrder S ep) es)[i]? =some x from hx];simp only[Option.map_some,cE];refine af (cu hi (by simp) fun h1 e1 s1=>?_);have e1:h1.get? I=some (siO S (.int k 0) i es.size ep):=e1;refine af (cu e1 (by simp) fun h2 e2 s2=>?_);have e2:h2.get? I=some (siO S (.int k 0) (i+1) es.size ep):=e2;exact aj (h h2 e2 (s1.trans s2))
theorem nextB{I S:Addr}{k i ep:Nat}{es:Array (Int×Value)}{t:bx}{x:Int×Value}{Q:eK->Shared->Prop}(hw:w.params.followText "set-order"=false)(hdr:fW es t=false)(hled:t.led=true)(hi:s.heap.get? I=some (siO S (.int k 0) i es.size ep))(hs:hE s.heap S es ep t)
  (hk:bV t.place k=i)(hx:es[i]? =some x)(h:∀h' j,t.place[i]? =some j->h'.get? I=some (siO S (.int (j+1:Nat) 0) (i+1) es.size ep)->dA I s.heap h'->Q (.done (.ret x.2)) {s with heap:=h'}):
  wpAny (model prog w) A (Builtin.«set_iterator.__next__» ⟨[.ref I],[]⟩) Q E s:=by
 refine gB hi hs ?_;obtain⟨⟨o,ho,hc,hd⟩,hf⟩:=hs;dsimp only;refine af ?_;unfold setNext jo;refine af (cG ho hd hf ?_);dsimp only;refine af (af (cw (aj ?_)));dsimp only;rw[show(model prog w).w.params.followText "set-order"=false from hw];simp only[bH,if_false];have hsz:t.place.size=es.size:=by
  simp only[bx.fits,aN,beq_iff_eq]at hf;exact hf.1
 have hil:i<es.size:=(cz.mp hx).1;have hj:t.place[i]? =some (t.place[i]'(by omega)):=by simp[show i<t.place.size by omega]
 rw[if_neg (fun z=>by have z':fW es t=true:=z;rw[hdr]at z';cases z')];refine af (show wpAny _ _ (if(!t.led&& !es.isEmpty)=true then unsupported "set:maker-not-led" else pure ()) _ _ _ from ?_);rw[if_neg (by rw[hled];simp)];refine aj (aj ?_);simp only[cE,hk,hx,hj];refine af (cu hi (by simp) fun h1 e1 s1=>?_);have e1:h1.get? I=some (siO S (.int (t.place[i]'(by omega)+1:Nat) 0) i es.size ep):=e1;refine af (cu e1 (by simp) fun h2 e2 s2=>?_);have e2:h2.get? I=some (siO S (.int (t.place[i]'(by omega)+1:Nat) 0) (i+1) es.size ep):=e2;exact aj (h h2 _ hj e2 (s1.trans s2))
theorem nextC{I S T:Addr}{i ep p:Nat}{tk:Tok}{es:Array (Int×Value)}{t:bx}{ps:Array Value}{m:Nat}{oT:Obj}{x:Int×Value}{Q:eK->Shared->Prop}(hi:s.heap.get? I=some (siO S (.ref T) i es.size ep))(hs:hE s.heap S es ep t)
  (hT:s.heap.get? T=some oT)(hTd:oT.data=.seq ps m)(hp:ps[i]? =some (.int p tk))(hx:es[p]? =some x)(h:∀h',h'.get? I=some (siO S (.ref T) (i+1) es.size ep)->dA I s.heap h'->Q (.done (.ret x.2)) {s with heap:=h'}):
  wpAny (model prog w) A (Builtin.«set_iterator.__next__» ⟨[.ref I],[]⟩) Q E s:=by
 refine gB hi hs ?_;obtain⟨⟨o,ho,hc,hd⟩,hf⟩:=hs;dsimp only;refine af (zi hT hTd ?_);simp only[hp,cE];refine af ?_;unfold setNextDrawn;refine af (cG ho hd hf ?_);simp only[bne_self_eq_false,bH,if_false,hx];refine aj ?_;refine af (cu hi (by simp) fun h2 e2 s2=>?_);have e2:h2.get? I=some (siO S (.ref T) (i+1) es.size ep):=e2;exact aj (h h2 e2 s2)
end
section
variable {prog:Program}{w:World}{A:Around}{E:Value->Shared->Prop}{s:Shared}
theorem kH{α:Type}{Q:α->Shared->Prop}(hh:A.handled=none)(h:∀h' e,(∀c o,s.heap.get? c=some o->h'.get? c=some o)->(∃o,h'.get? e=some o/\o.cls=.type "StopIteration")->E (.ref e) {s with heap:=h'}):
  wpAny (model prog w) A (newExc (.type "StopIteration") []>>=fun x=>zl x) Q E s:=by
 refine af ?_;simp only[newExc,newTuple];refine af (cj ?_ (by size_fits));refine af (m:=oo _ _) (wpAny_of_eq (a:=bG) (by first |rfl| (simp only[oo];rfl)) ?_);refine cj ?_ (by size_fits);simp only[zl];refine af (wpAny_handled ?_);rw[hh];refine af (aj (wpAny_throw ?_));exact h _ _ (fun c o e=>ag _ (ag _ e)) ⟨_,aC _ rfl,rfl⟩
noncomputable def Ends(E:Value->Shared->Prop)(I:Addr)(s:Shared):Prop:=∀h' e,(∀c o,c≠I->s.heap.get? c=some o->h'.get? c=some o)->(∃o,h'.get? e=some o/\o.cls=.type "StopIteration")->E (.ref e) {s with heap:=h'}
theorem endA{I S:Addr}{k ep:Nat}{es:Array (Int×Value)}{t:bx}{Q:eK->Shared->Prop}(hh:A.handled=none)(hw:w.params.followText "set-order"=true)(hi:s.heap.get? I=some (siO S (.int k 0) es.size es.size ep))(hs:hE s.heap S es ep t)(h:Ends E I s):
  wpAny (model prog w) A (Builtin.«set_iterator.__next__» ⟨[.ref I],[]⟩) Q E s:=by
 have hx:(fG (w.params.setOrder S ep) es)[es.size]? =none:=by
  have :=(jR (w.params.setOrder S ep) es).length_eq
  simp at this⊢;omega
 refine gB hi hs ?_;obtain⟨⟨o,ho,hc,hd⟩,hf⟩:=hs;dsimp only;refine af ?_;unfold setNext jo;refine af (cG ho hd hf ?_);dsimp only;refine af (af (cw (aj ?_)));dsimp only;rw[show(model prog w).w.params.followText "set-order"=true from hw];simp only[if_true,bne_self_eq_false,bH,if_false];refine af ?_;unfold setWalk jo;refine af (cG ho hd hf ?_);dsimp only;refine af (af (cw (aj ?_)));dsimp only;rw[show(model prog w).w.params.followText "set-order"=true from hw];simp only[if_true];refine af (cw (aj (aj ?_)));rw[show(fG ({program:=(model prog w).prog,params:=(model prog w).w.params:Setting}.params.setOrder S ep) es)[es.size]? =none from hx];simp only[Option.map_none];refine af (cu hi (by simp) fun h1 e1 s1=>?_);exact kH (s:={s with heap:=h1}) hh fun h' e kp he=>h h' e (fun c o c1 q=>kp c o (s1.extBut c o c1 q)) he
theorem endB{I S:Addr}{k ep:Nat}{es:Array (Int×Value)}{t:bx}{Q:eK->Shared->Prop}(hh:A.handled=none)(hw:w.params.followText "set-order"=false)(hdr:fW es t=false)(hled:t.led=true)(hi:s.heap.get? I=some (siO S (.int k 0) es.size es.size ep))(hs:hE s.heap S es ep t)
  (hk:bV t.place k=es.size)(h:Ends E I s):wpAny (model prog w) A (Builtin.«set_iterator.__next__» ⟨[.ref I],[]⟩) Q E s:=by
 refine gB hi hs ?_;obtain⟨⟨o,ho,hc,hd⟩,hf⟩:=hs;dsimp only;refine af ?_;unfold setNext jo;refine af (cG ho hd hf ?_);dsimp only;refine af (af (cw (aj ?_)));dsimp only;rw[show(model prog w).w.params.followText "set-order"=false from hw];simp only[bH,if_false];rw[if_neg (fun z=>by have z':fW es t=true:=z;rw[hdr]at z';cases z')];refine af (show wpAny _ _ (if(!t.led&& !es.isEmpty)=true then unsupported "set:maker-not-led" else pure ()) _ _ _ from ?_);rw[if_neg (by rw[hled];simp)];refine aj (aj ?_);have hn:es[es.size]? =none:=by simp
 simp only[cE,hk,hn];refine af (cu hi (by simp) fun h1 e1 s1=>?_);exact kH (s:={s with heap:=h1}) hh fun h' e kp he=>h h' e (fun c o c1 q=>kp c o (s1.extBut c o c1 q)) he
theorem endC{I S T:Addr}{ep:Nat}{es:Array (Int×Value)}{t:bx}{ps:Array Value}{m:Nat}{oT:Obj}{Q:eK->Shared->Prop}(hh:A.handled=none)(hi:s.heap.get? I=some (siO S (.ref T) es.size es.size ep))(hs:hE s.heap S es ep t)(hT:s.heap.get? T=some oT)(hTd:oT.data=.seq ps m)(hp:ps.size=es.size)(h:Ends E I s):
  wpAny (model prog w) A (Builtin.«set_iterator.__next__» ⟨[.ref I],[]⟩) Q E s:=by
 refine gB hi hs ?_;dsimp only;refine af (zi hT hTd ?_);have hn:ps[es.size]? =none:=by simp;omega
 simp only[hn];refine af (cu hi (by simp) fun h1 e1 s1=>?_);have e1:h1.get? I=some (siO S (.int 0 0) es.size es.size ep):=e1;refine af (cu e1 (by simp) fun h2 e2 s2=>?_);exact kH (s:={s with heap:=h2}) hh fun h' e kp he=>h h' e (fun c o c1 q=>kp c o (s2.extBut c o c1 (s1.extBut c o c1 q))) he
end
theorem lu:Slot "set_iterator" "__iter__" "set_iterator.__iter__":=
 .of (owner:="set_iterator") (n:="__iter__") (by rw[f9,dy];kernel_rfl) (by decide+kernel) (by decide+kernel) (by decide+kernel) (by first |exact .inl (by decide+kernel) |exact .inr (by decide+kernel)) (by rw[gy];kernel_rfl)
theorem qD:entryFor table "set_iterator.__iter__"=some Builtin.«dict_keyiterator.__iter__»:=
 entryFor_alias (id':="dict_keyiterator.__iter__") (by kernel_rfl) (by first |rfl|decide+kernel) (by decide+kernel) (by kernel_rfl)
theorem tL(a:Value):argsOk "set_iterator.__iter__" ⟨[a],[]⟩:=by unfold argsOk;kernel_rfl
section
variable {prog:Program}{w:World}{A:Around}{E:Value->Shared->Prop}{s:Shared}
theorem sy{I:Addr}{Q:Option Value->Shared->Prop}(hT:s.TypeIs (.ref I) "set_iterator")(h:∀(Q':eK->Shared->Prop)(E':Value->Shared->Prop),(∀v h',Q (some v) {s with heap:=h'}->Q' (.done (.ret v)) {s with heap:=h'})->wpAny (model prog w) A.in1 (Builtin.«set_iterator.__next__» ⟨[.ref I],[]⟩) Q' E' s):
  wpAny (model prog w) A (pyNext (.ref I)) Q E s:=by
 unfold pyNext;exact af (wpAny_attempt (wpAny_callSpecial?_slot (name:=cP "__next__") hT dG (gQ dG hT kq (h _ _ fun v h' q=>⟨_,rfl,aj q⟩) (md _))))
theorem sA{I:Addr}{Q:Option Value->Shared->Prop}(hT:s.TypeIs (.ref I) "set_iterator")(h:∀(Q':eK->Shared->Prop)(E':Value->Shared->Prop),(∀h' e,(∀c o,c≠I->s.heap.get? c=some o->h'.get? c=some o)->(∃o,h'.get? e=some o/\o.cls=.type "StopIteration")->E' (.ref e) {s with heap:=h'})->wpAny (model prog w) A.in1 (Builtin.«set_iterator.__next__» ⟨[.ref I],[]⟩) Q' E' s)
  (q:∀h',(∀c o,c≠I->s.heap.get? c=some o->h'.get? c=some o)->Q none {s with heap:=h'}):wpAny (model prog w) A (pyNext (.ref I)) Q E s:=by
 unfold pyNext;refine af (wpAny_attempt (wpAny_callSpecial?_slot (name:=cP "__next__") hT dG (gQ dG hT kq (h _ _ fun h' e kp he=>?_) (md _))));obtain⟨o,e1,e2⟩:=he;exact af (vq (T:="StopIteration") (b:=true) ⟨o,e1,e2⟩ isSubtype_stop (aj (q _ kp)))
theorem sx{I:Addr}{Q:Value->Shared->Prop}(hT:s.TypeIs (.ref I) "set_iterator")(h:Q (.ref I) s):wpAny (model prog w) A (pyIter (.ref I)) Q E s:=by
 refine wpAny_pyIter_slot hT lu (gQ lu hT qD ?_ (tL _));show wpAny _ _ (ret (.ref I)) _ _ s;exact aj ⟨_,rfl,"set_iterator",_,hT,dG.lookup,h⟩
end
theorem hE.at{h h':Heap}{S:Addr}{es:Array (Int×Value)}{ep:Nat}{t:bx}(x:hE h S es ep t)(k:∀o,h.get? S=some o->h'.get? S=some o):hE h' S es ep t:=let⟨⟨o,a,b,c⟩,f⟩:=x;⟨⟨o,k o a,b,c⟩,f⟩
variable {prog:Program}{w:World}{A:Around}
theorem walkA(hh:A.handled=none)(hw:w.params.followText "set-order"=true){I S:Addr}(ne:S≠I)(es:Array (Int×Value))(ep:Nat)(t:bx):
  Walks prog w A I [I,S] [I] es.size (fun i v=>((fG (w.params.setOrder S ep) es).toList.map (·.2))[i]? =some v) (fun i h=>hE h S es ep t/\∃k:Nat,h.get? I=some (siO S (.int k 0) i es.size ep)) where
 sub:=fun b hb=>by simp at hb⊢;exact .inl hb
 frame:=fun i h h' ⟨x,k,e⟩ kp=>⟨x.at fun o q=>kp S (by simp) o q,k,kp I (by simp) _ e⟩
 item:=fun i s Q E hi ⟨x,k,e⟩ hQ=>by
  have hl:=(jR (w.params.setOrder S ep) es).length_eq;simp only[bZ]at hl;have hx:(fG (w.params.setOrder S ep) es)[i]? =some ((fG (w.params.setOrder S ep) es)[i]'(by omega)):=by simp[show i<(fG (w.params.setOrder S ep) es).size by omega]
  refine sy ⟨_,e,rfl⟩ fun Q' E' q=>nextA hw e x hx fun h' e' sb=>q _ h' ?_;exact hQ _ h' s.toks (by simp[hx]) ⟨x.at fun o z=>sb.extBut S o ne z,k,e'⟩ fun b o hb z=>sb.extBut b o (by simpa using hb) z
 done:=fun s Q E ⟨x,k,e⟩ hQ=>sA ⟨_,e,rfl⟩ (fun Q' E' q=>endA (by simp[hh]) hw e x q) fun h' kp=>hQ h' s.toks fun b o hb z=>kp b o (by simpa using hb) z
 self:=fun i s Q E ⟨x,k,e⟩ q=>sx ⟨_,e,rfl⟩ q
theorem walkB(hh:A.handled=none)(hw:w.params.followText "set-order"=false){I S:Addr}(ne:S≠I)(es:Array (Int×Value))(ep:Nat)(t:bx)(hd:fW es t=false)(hl:t.led=true)(hT:gO t):
  Walks prog w A I [I,S] [I] es.size (fun i v=>(es.toList.map (·.2))[i]? =some v) (fun i h=>hE h S es ep t/\∃k:Nat,bV t.place k=i/\h.get? I=some (siO S (.int k 0) i es.size ep)) where
 sub:=fun b hb=>by simp at hb⊢;exact .inl hb
 frame:=fun i h h' ⟨x,k,hk,e⟩ kp=>⟨x.at fun o q=>kp S (by simp) o q,k,hk,kp I (by simp) _ e⟩
 item:=fun i s Q E hi ⟨x,k,hk,e⟩ hQ=>by
  have hx:es[i]? =some es[i]:=by simp[hi]
  refine sy ⟨_,e,rfl⟩ fun Q' E' q=>nextB hw hd hl e x hk hx fun h' j hj e' sb=>q _ h' ?_;exact hQ _ h' s.toks (by simp[hx]) ⟨x.at fun o z=>sb.extBut S o ne z,j+1,w4 hT.up hj,e'⟩ fun b o hb z=>sb.extBut b o (by simpa using hb) z
 done:=fun s Q E ⟨x,k,hk,e⟩ hQ=>sA ⟨_,e,rfl⟩ (fun Q' E' q=>endB (by simp[hh]) hw hd hl e x hk q) fun h' kp=>hQ h' s.toks fun b o hb z=>kp b o (by simpa using hb) z
 self:=fun i s Q E ⟨x,k,hk,e⟩ q=>sx ⟨_,e,rfl⟩ q
theorem walkC(hh:A.handled=none){I S T:Addr}(ne:S≠I)(neT:T≠I)(es:Array (Int×Value))(ep:Nat)(t:bx)(ps:List Nat)(hp:ps.Perm (aM es.size)):
  Walks prog w A I [I,S,T] [I] es.size (fun i v=>(ps.map fun p=>(es.getD p (0,.none)).2)[i]? =some v) (fun i h=>hE h S es ep t/\h.get? T=some {cls:=.type "tuple",data:=.seq (ps.map fun(i:Nat)=>rawInt i).toArray}/\h.get? I=some (siO S (.ref T) i es.size ep)) where
 sub:=fun b hb=>by simp at hb⊢;exact .inl hb
 frame:=fun i h h' ⟨x,z,e⟩ kp=>⟨x.at fun o q=>kp S (by simp) o q,kp T (by simp) _ z,kp I (by simp) _ e⟩
 item:=fun i s Q E hi ⟨x,z,e⟩ hQ=>by
  have hl:ps.length=es.size:=by rw[hp.length_eq,dz]
  have hil:i<ps.length:=by omega
  have hm:ps[i]<es.size:=dO.mp (hp.mem_iff.mp (cK hil));have hx:es[ps[i]]? =some es[ps[i]]:=by simp[hm]
  refine sy ⟨_,e,rfl⟩ fun Q' E' q=>nextC (p:=ps[i]) (tk:=0) e x z rfl (by simp[hil,rawInt]) hx fun h' e' sb=>q _ h' ?_;exact hQ _ h' s.toks (by simp[hil,hm,Ck]) ⟨x.at fun o y=>sb.extBut S o ne y,sb.extBut T _ neT z,e'⟩ fun b o hb y=>sb.extBut b o (by simpa using hb) y
 done:=fun s Q E ⟨x,z,e⟩ hQ=>sA ⟨_,e,rfl⟩ (fun Q' E' q=>endC (by simp[hh]) e x z rfl (by simp[hp.length_eq]) q) fun h' kp=>hQ h' s.toks fun b o hb y=>kp b o (by simpa using hb) y
 self:=fun i s Q E ⟨x,z,e⟩ q=>sx ⟨_,e,rfl⟩ q
end Q
namespace Q
open PySem PySem.Spec PySem.W PyProof.Rows L2
section
variable {prog:Program}{w:World}{A:Around}{E:Value->Shared->Prop}{s:Shared}
theorem ite_yes{α:Type}{M:Model}{b:Bool}{x y:Sem α}{Q:α->Shared->Prop}(hb:b=true)(h:wpAny M A x Q E s):wpAny M A (if b=true then x else y) Q E s:=by rw[if_pos hb];exact h
theorem uY{S:Addr}{Q:Bool->Shared->Prop}(hT:s.TypeIs (.ref S) "set")(h:Q false s):wpAny (model prog w) A (dR (.ref S)) Q E s:=by
 unfold dR;refine af (mr hT F.slot_set_len.lookup ?_);generalize hid:("set.__len__":String)=id0
 (fail_if_success (clear hid id0))
 wp_delta
 rw[show splitId id0=some ("set","__len__")from by subst hid;decide+kernel];subst hid;refine af (vq (b:=true) hT (by rw[gy];kernel_rfl) ?_);rw[if_neg (by decide)];refine ite_yes (by decide+kernel) (af (mh hT ?_));exact aj h
noncomputable abbrev gp(acc:Array Value)(c:Nat):Obj:={cls:=.type "list",dict:=none,data:=.seq acc c,slots:= #[]}
theorem touch{L:Addr}{acc:Array Value}{c:Nat}{Q:Unit->Shared->Prop}(hL:s.heap.get? L=some (gp acc c))(hz:acc.size<=5000)(h:∀h' c',h'.get? L=some (gp acc c')->dA L s.heap h'->Q () {s with heap:=h'}):wpAny (model prog w) A (iH (.ref L)) Q E s:=by
 have hz1:acc.size<=sizeLine:=aP hz (by decide);unfold iH;refine af (kd hL rfl ?_ hz1 (by simp;omega));have e1:∃c1,(s.heap.update L (bS fun x=>x.push bG)).get? L=some (gp (acc.push .none) c1):=⟨_,by rw[cH _ hL rfl];rfl⟩;obtain⟨c1,e1⟩:=e1;refine kd (s:={s with heap:=s.heap.update L (bS fun x=>x.push bG)}) e1 rfl ?_ (by simp;exact aP (by omega:acc.size+1<=5001) (by decide)) (by simp;omega);have e2:∃c2,((s.heap.update L (bS fun x=>x.push bG)).update L (bS fun x=>x.pop)).get? L=some (gp acc c2):=⟨_,by rw[cH _ e1 rfl];simp[bS];rfl⟩;obtain⟨c2,e2⟩:=e2;exact h _ c2 e2 ((gk ..).trans (gk ..))
theorem pz{L I:Addr}{fp wr:List Addr}{n:Nat}{P:Nat->Value->Prop}{St:Nat->Heap->Prop}{res:Value}{c:Nat}{R:Result->Shared->Prop}{Qf:eK->Shared->Prop}(hq:∀c' s',c'.quiet=true/\i3 (model prog w) A c' R s'->Qf (.again c') s')(W:Walks prog w A.in1 I fp wr n P St)(hn:n<=sizeLine)(hLf:L∉fp)(hL:s.heap.get? L=some (gp #[] c))(st:St 0 s.heap)
  (h:∀s' acc c',(∀b o,b∉L::wr->s.heap.get? b=some o->s'.heap.get? b=some o)->s'.gens=s.gens->s'.drawn=s.drawn->s'.os=s.os->s'.heap.get? L=some (gp acc c')->x4 P acc n->R (.ok (.ret res)) s'):
  wpAny (model prog w) A.in1 (do
   rule "list.extend.makes-room"
   let __r<-iH (.ref L)
   (fun(__r:Unit)=>again (Code.builtin "list.extend.loop" {pos:=[bA L,bA I,res]})) __r) Qf E s:=by
 refine af (mi (af (touch hL (by simp) fun h1 c1 e1 sb=>?_)));have st1:=W.frame 0 s.heap h1 st fun b hb o e=>sb.extBut b o (fun z=>hLf (z▸hb)) e;refine aj (hq _ _ ⟨fU F.plain_extend_loop _,codeAny_extend_loopS W.toS hn _ hLf _ n 0 _ _ _ rfl (aL _) st1 e1 (x4.nil P) fun s' acc' c' hm hS' hacc=>?_⟩);exact h s' acc' c' (fun b o hb e=>hm.heap b o hb (sb.extBut b o (fun z=>hb (by rw[z];exact au)) e)) hm.gens hm.drawn hm.os hS' hacc
end
theorem wA{vs:List Value}{acc:Array Value}(h:x4 (fun i v=>vs[i]? =some v) acc vs.length):acc.toList=vs:=by
 obtain⟨h1,h2⟩:=h;apply dg
 ·simpa using h1
 ·intro i a b
  have :vs[i]? =some acc[i]:=h2 i acc[i] (by simp);rw[ah b]at this;simpa using(be this).symm
theorem es_map(es:Array (Int×Value)):((aM es.size).map fun p=>(es.getD p (0,.none)).2)=es.toList.map (·.2):=by
 apply dg
 ·simp
 ·intro i a b
  have hi:i<es.size:=by simpa using a
  simp[hi,Ck]
section
variable {prog:Program}{w:World}{A:Around}{E:Value->Shared->Prop}{s:Shared}
theorem vd{S:Addr}{o:Obj}{es:Array (Int×Value)}{ep:Nat}{t:bx}{Q:List Value->Shared->Prop}(hh:A.handled=none)(ho:s.heap.get? S=some o)(hc:o.cls=.type "set")(hd:o.data=.set es ep t)(hf:t.fits es.size=true)(hsb:es.size<eE)(hT:gO t)(hled:w.params.followText "set-order"=false->t.led=true)
  (hQ:∀(vs:List Value) s',vs.Perm (es.toList.map (·.2))->(∀b o,s.heap.get? b=some o->s'.heap.get? b=some o)->s'.gens=s.gens->s'.os=s.os->s.heap.objs.size<s'.heap.objs.size->Q vs s'):wpAny (model prog w) A (collect (.ref S)) Q E s:=by
 have hSl:S<s.heap.objs.size:=aw ho;have hn:es.size<=sizeLine:=jZ hsb;unfold collect;refine af (wpAny_runValue (dF F.entry_proto_collect ?_));rw[cN F.plain_proto_collect _];show wpAny _ A.in1 (newList []>>=fun l=>again (.builtin "list.__iadd__" ⟨[l,.ref S],[]⟩)) _ _ s;refine af (cj ?_);refine aj ⟨fU F.plain_list_iadd _,dF F.entry_list_iadd ?_⟩;rw[cN F.plain_list_iadd _];have hL:(s.heap.push (gp #[] 0)).get? s.heap.objs.size=some (gp #[] 0):=aC _ rfl;have ho1:(s.heap.push (gp #[] 0)).get? S=some o:=ag _ ho;have hz:(s.heap.push (gp #[] 0)).objs.size=s.heap.objs.size+1:=cB ..;have hT1:Shared.TypeIs {s with heap:=s.heap.push (gp #[] 0)} (.ref S) "set":=⟨o,ho1,hc⟩;show wpAny _ A.in1 (cS (.ref s.heap.objs.size) (.ref S) (.ref s.heap.objs.size)) _ _ {s with heap:=s.heap.push (gp #[] 0)};unfold cS;refine af (mh hT1 ?_);rw[if_neg (by simp[gL];exact cC hSl)];have fin:∀(vs:List Value)(s':Shared)(acc:Array Value)(c':Nat),vs.length=es.size->vs.Perm (es.toList.map (·.2))->(∀b o,s.heap.get? b=some o->s'.heap.get? b=some o)->s'.gens=s.gens->s'.os=s.os->s'.heap.get? s.heap.objs.size=some (gp acc c')->x4 (fun i v=>vs[i]? =some v) acc es.size->
   wpAny (model prog w) A (load s.heap.objs.size>>=fun x=>match x.data with |.seq xs _=>pure xs.toList|_=>unsupported "internal:collect") Q E s':=fun vs s' acc c' hl hp k1 k2 k3 e it=>by
  refine af (wpAny_load e ?_);rw[<-hl]at it;have :=wA it;exact aj (by rw[this];exact hQ vs s' hp k1 k2 k3 (aw e))
 refine af (Bv ho1 hc hd hf hsb (fun hm=>?_) fun hm ps d hp=>?_)
 ·rw[hz]
  refine af (cc (uY ⟨o,ag _ ho1,hc⟩ ?_));refine ite_yes (by decide+kernel) ?_;have hI:((s.heap.push (gp #[] 0)).push (siO S (.int 0 0) 0 es.size ep)).get? (s.heap.objs.size+1)=some (siO S (.int 0 0) 0 es.size ep):=by rw[<-hz];exact aC _ rfl
  have hSA:hE ((s.heap.push (gp #[] 0)).push (siO S (.int 0 0) 0 es.size ep)) S es ep t:=⟨⟨o,ag _ ho1,hc,hd⟩,hf⟩;have nfp:s.heap.objs.size∉[s.heap.objs.size+1,S]:=by
   simp only[aI,bE,or_false,not_or];exact⟨aD (di _),cC hSl⟩
  have kp:∀(s':Shared),(∀b o,b∉s.heap.objs.size::[s.heap.objs.size+1]->((s.heap.push (gp #[] 0)).push (siO S (.int 0 0) 0 es.size ep)).get? b=some o->s'.heap.get? b=some o)->∀b o,s.heap.get? b=some o->s'.heap.get? b=some o:=fun s' k b o e=>by
   have hb:=aw e;refine k b o ?_ (ag _ (ag _ e));simp only[aI,bE,or_false,not_or];exact⟨aD hb,aD (bF hb)⟩
  cases hw:w.params.followText "set-order" with
  |true=>
   have hl:((fG (w.params.setOrder S ep) es).toList.map (·.2)).length=es.size:=by
    have :=(jR (w.params.setOrder S ep) es).length_eq
    simpa using this
   refine pz (s:={s with heap:=(s.heap.push (gp #[] 0)).push (siO S (.int 0 0) 0 es.size ep)}) (fun c' s' h=>h) (walkA (A:=A.in1) (by simp[hh]) hw (aD (bF hSl)) es ep t) hn nfp (ag _ hL) ⟨hSA,0,hI⟩ fun s' acc c' k1 k2 k3 k4 e it=>?_;exact fin _ s' acc c' hl ((jR (w.params.setOrder S ep) es).map _) (kp s' k1) k2 k4 e it
  |false=>
   have hdr:fW es t=false:=by rw[hw]at hm;simpa using hm
   refine pz (s:={s with heap:=(s.heap.push (gp #[] 0)).push (siO S (.int 0 0) 0 es.size ep)}) (fun c' s' h=>h) (walkB (A:=A.in1) (by simp[hh]) hw (aD (bF hSl)) es ep t hdr (hled hw) hT) hn nfp (ag _ hL) ⟨hSA,0,wZ hT.up,hI⟩ fun s' acc c' k1 k2 k3 k4 e it=>?_;exact fin _ s' acc c' (by simp) (d8 _) (kp s' k1) k2 k4 e it
 ·rw[hz]
  have hz2:((s.heap.push (gp #[] 0)).push {cls:=.type "tuple",data:=.seq (ps.map fun(i:Nat)=>rawInt i).toArray}).objs.size=s.heap.objs.size+1+1:=by rw[cB,hz]
  have hT2:((s.heap.push (gp #[] 0)).push {cls:=.type "tuple",data:=.seq (ps.map fun(i:Nat)=>rawInt i).toArray}).get? (s.heap.objs.size+1)=some {cls:=.type "tuple",data:=.seq (ps.map fun(i:Nat)=>rawInt i).toArray}:=by rw[<-hz];exact aC _ rfl
  have ho2:((s.heap.push (gp #[] 0)).push {cls:=.type "tuple",data:=.seq (ps.map fun(i:Nat)=>rawInt i).toArray}).get? S=some o:=ag _ ho1;have hL2:((s.heap.push (gp #[] 0)).push {cls:=.type "tuple",data:=.seq (ps.map fun(i:Nat)=>rawInt i).toArray}).get? s.heap.objs.size=some (gp #[] 0):=ag _ hL;have kp2:∀b o,s.heap.get? b=some o->((s.heap.push (gp #[] 0)).push {cls:=.type "tuple",data:=.seq (ps.map fun(i:Nat)=>rawInt i).toArray}).get? b=some o:=fun b o e=>ag _ (ag _ e);generalize(s.heap.push (gp #[] 0)).push {cls:=.type "tuple",data:=.seq (ps.map fun(i:Nat)=>rawInt i).toArray}=h2 at *;refine af (cc (uY ⟨o,ag _ ho2,hc⟩ ?_));refine ite_yes (by decide+kernel) ?_;have hI:(h2.push (siO S (.ref (s.heap.objs.size+1)) 0 es.size ep)).get? (s.heap.objs.size+1+1)=some (siO S (.ref (s.heap.objs.size+1)) 0 es.size ep):=by rw[<-hz2];exact aC _ rfl
  have nfp:s.heap.objs.size∉[s.heap.objs.size+1+1,S,s.heap.objs.size+1]:=by
   simp only[aI,bE,or_false,not_or];exact⟨aD (bF (di _)),cC hSl,aD (di _)⟩
  have hl:(ps.map fun p=>(es.getD p (0,.none)).2).length=es.size:=by rw[ae,hp.length_eq,dz]
  refine pz (s:={s with drawn:=d,heap:=h2.push (siO S (.ref (s.heap.objs.size+1)) 0 es.size ep)}) (fun c' s' h=>h) (walkC (A:=A.in1) (by simp[hh]) (aD (bF (bF hSl))) (aD (di _)) es ep t ps hp) hn nfp (ag _ hL2)
   ⟨⟨⟨o,ag _ ho2,hc,hd⟩,hf⟩,ag _ hT2,hI⟩ fun s' acc c' k1 k2 k3 k4 e it=>?_
  refine fin _ s' acc c' hl ((hp.map _).trans (by rw[es_map])) (fun b o q=>?_) k2 k4 e it;have hb:=aw q;refine k1 b o ?_ (ag _ (kp2 b o q));simp only[aI,bE,or_false,not_or];exact⟨aD hb,aD (bF (bF hb))⟩
end
theorem Bp(ks:List Key):(met ks).Nodup:=by
 unfold met;have g:∀(l acc:List Key),acc.Nodup->(l.foldl more acc).Nodup:=by
  intro l
  induction l with
  |nil=>exact fun _ h=>h
  |cons k l ih=>
   intro acc h;refine ih _ ?_;unfold more;split
   ·exact h
   ·rename_i c
    refine b7.mpr ⟨h,by simp,fun a ha b hb=>?_⟩;rw[aq]at hb;subst hb;intro z;subst z;exact c (jV.mpr ha)
 exact g ks [] eF
theorem mG{α:Type}[DecidableEq α]:∀{m l:List α},m.Nodup->(∀x∈m,x∈l)->l.length=m.length->l.Perm m
 | [],l,_,_,h=>by
  rw[dw]at h;rw[qN h]
 |a::m,l,nd,hs,h=>by
  have ha:a∈l:=hs a au;have p:=zF ha;rw[dv]at nd;have hl:=p.length_eq;rw[bg]at hl h;have q:=mG (m:=m) (l:=l.erase a) nd.2 (fun x hx=>(zG (fun z:x=a=>nd.1 (by rw[<-z];exact hx))).mpr (hs x (aF _ hx))) (by omega);exact p.trans (q.cons a)
end Q
namespace L2
open PySem PySem.Spec PyProof.Rows Q
section
variable {X:Cx}
theorem Inv.same{pins:List (Addr×Obj)}{σ:List (Option V)}{H:Hp}{s s':Shared}(I:Inv X pins σ H s)(h1:s'.heap=s.heap)(h2:s'.gens=s.gens)(h3:s'.os=s.os):Inv X pins σ H s':=by
 obtain⟨h,g,d,t,o⟩:=s;obtain⟨h',g',d',t',o'⟩:=s';obtain rfl:h'=h:=h1;obtain rfl:g'=g:=h2;obtain rfl:o'=o:=h3;exact⟨I.ok,I.os,I.bare,I.base,I.loc,I.cell,I.free,I.freeC,I.pin,I.hok,I.len⟩
noncomputable def tSortSet(K:aa)(ta:TA):TE:=fun σ H Q=>ta σ H fun vs H1=>∃(p:Addr)(ns:List Int),vs=[V.ref p]/\SqL K H1 p (ns.map V.int)/\ns.length<64/\
 ∀(ms:List Int) l,ms.Nodup->(∀x,x∈ms↔x∈ns)->H1 l=none->Q (.ref l) (upd H1 l (.lst (sortI ms)))
theorem tI:cW "sorted"=some (.builtin "sorted"):=by decide+kernel
theorem zb:cW "set"=some (.type "set"):=by decide+kernel
end
section
variable {X:Cx}
noncomputable def tSortSetL(K:aa)(ta:TA):TE:=fun σ H Q=>ta σ H fun vs H1=>∃(p:Addr)(ys:List V)(ps:List (List Int))(m:Nat),vs=[V.ref p]/\SqL K H1 p ys/\ps.length<=18/\(∀k∈ps,k.length=m)/\IntKeys H1 ys ps/\
 ∀(zs:List V)(qs:List (List Int)) l,qs.Nodup->(∀x,x∈qs↔x∈ps)->IntKeys H1 zs qs->H1 l=none->Q (.ref l) (upd H1 l (.lst (Al .non qs zs)))
end
end L2
set_option maxHeartbeats 1000000
namespace L2
open PySem PySem.Spec PyProof.Rows
section
variable {X:Cx}{pos:Pos}
noncomputable def gLst(K:aa)(n:Nat)(t:TGs):TG:=fun v σ H Q=>∃a xs,v=.ref a/\SqL K H a xs/\xs.length=n/\t xs σ H Q
theorem pg_lst{es:List Expr}{k:Nat}{t:TGs}{n:Nat}(hc:X.calm=true)(h:PGs X es t)
  (hn:(du es X.env).length=n:=by rfl) (hst:(du es X.env).findIdx? (·.1)=none:=by rfl):PG X (.Tuple es k pos) (gLst X.K n t):=by
 intro pins s σ H v u Q I r hw;obtain⟨a,xs,e1,hq,hl,hw⟩:=hw;subst e1;cases r;obtain⟨its,rv,ht,hz⟩:=I.list hq;rw[assign_Tuple];refine af (hG ?_);unfold unpack;rw[show(du es X.env).length=its.toArray.size by simp[hn,<-hl,rv.length],hst];refine af (cc (PySem.W.kun_itemsOf (I.ok.hd hc) ht.isList fun h' hx=>?_));have I1:Inv X pins σ H {s with heap:=h'}:=I.kept (t':=s.toks) fun b o e=>hx b o (aD (aw e)) e;exact h pins _ σ H xs _ Q I1 (by simpa using rv) hw
end
end L2
set_option maxHeartbeats 3200000
namespace Q
open PySem PySem.Spec PySem.W PyProof.Rows L2
theorem qP:∀{vs:List Value}{ms:List Str},i4 vs ms->bC (ms.map V.str) vs
 |_,_,.nil=>.nil
 |_,_,.cons _ t h=>.cons ⟨t,rfl⟩ (qP h)
theorem yd{vs xs:List Value}(p:vs.Perm xs):∀{ks:List Str},i4 xs ks->∃ms:List Str,ms.Perm ks/\i4 vs ms:=by
 induction p with
 |nil=>intro ks h;exact⟨ks,d8 _,h⟩
 |cons x p ih=>
  intro ks h;cases h with
  |cons k t h=>
   obtain⟨ms,a,b⟩:=ih h;exact⟨k::ms,a.cons k,.cons k t b⟩
 |swap x y l=>
  intro ks h;cases h with
  |cons k t h=>cases h with
   |cons k' t' h=>exact⟨k'::k::_,Cj _ _ _,.cons k' t' (.cons k t h)⟩
 |trans p q ih1 ih2=>
  intro ks h;obtain⟨ms,a,b⟩:=ih2 h;obtain⟨ms',a',b'⟩:=ih1 b;exact⟨ms',a'.trans a,b'⟩
section
variable {prog:Program}{w:World}{A:Around}{E:Value->Shared->Prop}{s:Shared}
theorem uv{S:Addr}{o:Obj}{es:Array (Int×Value)}{ep:Nat}{t:bx}{ks:List Str}{Q:Value->Shared->Prop}(hh:A.handled=none)(ho:s.heap.get? S=some o)(hc:o.cls=.type "set")(hd:o.data=.set es ep t)(hf:t.fits es.size=true)(h64:es.size<64)(hT:gO t)(hled:w.params.followText "set-order"=false->t.led=true)
  (hk:i4 (es.toList.map (·.2)) ks)(nd:ks.Nodup)
  (h:∀(ms:List Str)(vs:List Value)(s':Shared)(l:Addr)(c:Nat),ms.Perm ks->i4 vs ms->(∀b o,s.heap.get? b=some o->s'.heap.get? b=some o)->s'.gens=s.gens->s'.os=s.os->s.heap.objs.size<=l->s'.heap.get? l=some (seqObj "list" (mZ (nY ms) vs).toArray c)->Q (.ref l) s'):
  wpAny (model prog w) A (call (.builtin "sorted") [.ref S]) Q E s:=by
 refine Calls.call_function_entry kind_sorted plain_sorted entry_sorted (args_sorted1 _) ?_;unfold Builtin.«sorted»;refine af (m:=checkCount "sorted" 1 1 _) (aj (af (vd (by simp[hh]) ho hc hd hf (eV h64 (by decide)) hT hled fun vs s' hp kp k2 k3 k4=>af (wpAny_newList ?_ ?_))))
 ·obtain⟨ms,m1,m2⟩:=yd hp hk
  have hl:vs.length=ms.length:=lq m2;have hv:vs.length<64:=by
   have :=hp.length_eq
   simp at this;omega
  have hg:(s'.heap.push (seqObj "list" vs.toArray 0)).get? s'.heap.objs.size=some (seqObj "list" vs.toArray 0):=aC _ rfl;have ndm:ms.Nodup:=m1.nodup_iff.mpr nd;show wpAny _ _ _ _ _ {s' with heap:=s'.heap.push (seqObj "list" vs.toArray 0)};refine af (cc (gQ slot_list_sort ⟨_,hg,rfl⟩ entry_list_sort (sort_by (lt:=nY ms) (h0:=s'.heap) (by rw[hl];exact oO ndm) hg (fun b o e=>⟨ag _ e,aD (aw e)⟩) hv (fun h2=>zg m2 h2) ⟨_,rfl,?_⟩) (args_list_sort _)));refine aj ⟨_,rfl,?_⟩;obtain⟨c,hc'⟩:=sortedHeap_at (out:=(mZ (nY ms) vs).toArray) hg;refine h ms vs _ _ c m1 m2 (fun b o e=>?_) k2 k3 (gj k4) hc';have e':=kp b o e;have hb:=aw e';show(sortedHeap (s'.heap.push (seqObj "list" vs.toArray 0)) s'.heap.objs.size vs (mZ (nY ms) vs).toArray).get? b=some o;rw[sortedHeap_old (aD hb) (by rw[size_push'];exact bF hb)];exact ag _ e'
 ·have :=hp.length_eq
  simp at this;exact aP (by omega:vs.length<=64) (by decide)
end
section
variable {prog:Program}{w:World}
theorem xy{k:Str}{v:Value}(h:(bo prog w).is (.inr k) v=true):∃t,v=.str k t:=by
 rw[pv]at h;exact mo h
theorem Bu{l:List (Int×Value)}(h:ElemsOf (bo prog w) l)(hi:∀e∈l,∀k,(bo prog w).is k e.2=true->∃n:Str,k=.inr n):∃ms:List Str,i4 (l.map (·.2)) ms:=by
 induction l with
 |nil=>exact⟨[],.nil⟩
 |cons e l ih=>
  obtain⟨ms,r⟩:=ih h.tail fun e' he'=>hi e' (aF _ he');obtain⟨⟨k,hk,_⟩,_⟩:=h.head;obtain⟨n,rfl⟩:=hi e au k hk;obtain⟨t,e2⟩:=xy hk;refine⟨n::ms,?_⟩;rw[aY,e2];exact .cons n t r
theorem Ab:∀{vs:List Value}{ms:List Str},i4 vs ms->∀n,n∈ms↔∃v∈vs,(bo prog w).is (.inr n) v=true:=by
 intro vs ms r
 induction r with
 |nil=>simp
 |cons k t r ih=>
  intro n;rw[aI,ih n];constructor
  ·rintro(rfl|⟨v,hv,e⟩)
   ·exact⟨_,au,m9 _ _ _ _⟩
   ·exact⟨v,aF _ hv,e⟩
  ·rintro⟨v,hv,e⟩
   rcases aI.mp hv with rfl|hv
   ·obtain⟨t',e'⟩:=xy e
    cases e';exact .inl rfl
   ·exact .inr ⟨v,hv,e⟩
theorem yj{h:Heap}{a:Addr}{ns:List Str}{led:Bool}(x:og (bo prog w) h a (has (met (ns.map .inr))) (met (ns.map .inr)).length led):
  ∃o es ep t ms,h.get? a=some o/\o.cls=.type "set"/\o.data=.set es ep t/\t.fits es.size=true/\es.size=(met (ns.map .inr)).length/\gO t/\t.led=led/\i4 (es.toList.map (·.2)) ms/\ms.Nodup/\∀n,n∈ms↔n∈ns:=by
 obtain⟨o,es,ep,t,ho,hx,hd,hl,hm,hb,hf,hn,hT,hL⟩:=x;have hle:=Bq (ns.map (dq:Str->Key));rw[ae]at hle;have inl:∀e∈es.toList,∀k,(bo prog w).is k e.2=true->∃n:Str,n∈ns/\k=.inr n:=fun e he k hk=>by
  have :=sX.mp (jV.mp ((hm k).mpr ⟨e,he,hk⟩))
  obtain⟨n,hn,rfl⟩:=aE.mp this;exact⟨n,hn,rfl⟩
 obtain⟨ms,r⟩:=Bu hl fun e he k hk=>let⟨n,_,e⟩:=inl e he k hk;⟨n,e⟩;have mem:∀n,n∈ms↔n∈ns:=fun n=>by
  rw[Ab (prog:=prog) (w:=w) r n];constructor
  ·rintro⟨v,hv,e⟩
   obtain⟨e',he',rfl⟩:=aE.mp hv;obtain⟨n',hn',z⟩:=inl e' he' _ e;cases z;exact hn'
  ·intro h
   obtain⟨e,he,hk⟩:=(hm (.inr n)).mp (jV.mpr (sX.mpr (cD h)));exact⟨e.2,cD he,hk⟩
 have len:ms.length=es.size:=by
  have :=lq r
  simp at this;omega
 have p:(ms.map (dq:Str->Key)).Perm (met (ns.map .inr)):=mG (Bp _) (fun x hx=>by
  obtain⟨n,hn,rfl⟩:=aE.mp (sX.mp hx);exact cD ((mem n).mpr hn)) (by rw[ae];omega)
 have nd:(ms.map (dq:Str->Key)).Nodup:=p.nodup_iff.mpr (Bp _);exact⟨o,es,ep,t,ms,ho,hx.1,hd,hf,by omega,hT,hL,r,(oG.mp nd).imp fun h z=>h (congrArg _ z),mem⟩
end
end Q
namespace L2
open PySem PySem.Spec PyProof.Rows Q
section
variable {X:Cx}
noncomputable def qV(ks:List Str):List V:=sortBy .non ks (ks.map V.str)
noncomputable def mD(K:aa)(ta:TA):TE:=fun σ H Q=>ta σ H fun vs H1=>∃(p:Addr)(ns:List Str),vs=[V.ref p]/\SqL K H1 p (ns.map V.str)/\ns.length<1000/\(∃ms:List Str,ms.length<64/\∀x∈ns,x∈ms)/\
 ∀(ms:List Str) l,ms.Nodup->(∀x,x∈ms↔x∈ns)->H1 l=none->Q (.ref l) (upd H1 l (.lst (qV ms)))
theorem iK{α:Type}[DecidableEq α]:∀{l m:List α},l.Nodup->(∀x∈l,x∈m)->l.length<=m.length
 | [],_,_,_=>aL _
 |a::l,m,nd,h=>by
  rw[dv]at nd;have ha:=h a au;have p:=(zF ha).length_eq;have :=iK (m:=m.erase a) nd.2 fun x hx=>(zG fun z:x=a=>nd.1 (z▸hx)).mpr (h x (aF _ hx));rw[bg]at p⊢;omega
theorem uD{a:Expr}{ta:TA}{p p' pos pos':Pos}(hc:X.calm=true)(hg:Gl X "sorted")(hm:X.mg "sorted"=none)(hg':Gl X "set")(hm':X.mg "set"=none)(ha:PA X [a] ta)(hs:bu [a] X.env=[(false,eval a X.env)]:=by rfl):
  PE X (.Call (.Name "sorted" p) [.Call (.Name "set" p') [a] [] pos'] [] pos) (mD X.K ta):=by
 intro pins s σ H Q I h;refine Call_ (gG I hg hm tI (k9 (dW ?_) rfl rfl));refine Call_ (gG I hg' hm' zb (bM (thn (ha pos' pins s σ H _ I h) fun us s1 ⟨vs,H1,I1,r1,q1⟩=>?_) hs rfl));obtain⟨pl,ns,e,hq,h1k,⟨mm,h64,hmm⟩,q⟩:=q1;subst e;obtain⟨u,rfl,rx⟩:=vals1 r1;cases rx;obtain⟨its,r',plist,_⟩:=I1.list hq;have hlen:=r'.length;rw[ae]at hlen;have r2:bC ((ns.map (dq:Str->Key)).map kV) its:=by
  rw[bQ];exact r'
 refine yh (ks:=ns.map .inr) (I1.ok.hd hc) plist.isList (by rw[ax,ae];exact hlen) (fun i v e=>xx r2 i v (by simpa using e)) (by rw[ax,<-hlen];unfold eE;omega) fun h' tk hS kp=>?_;obtain⟨o,es,ep,t,ms,ho,hx,hd,hf,hsz,hT,hL,r,nd,mem⟩:=yj hS;have hmz:ms.length=es.size:=by
  have :=lq r
  simp at this;omega
 have hle64:=iK nd fun x hx=>hmm x ((mem x).mp hx);refine aj ?_;refine uv (s:={s1 with heap:=h',toks:=tk}) (I1.ok.hd hc) ho hx hd hf (by omega) hT (fun z=>by rw[hL,z];rfl) r nd fun ms' vs s' l c hp hv kp' k2 k3 k4 k5=>?_;have nd':ms'.Nodup:=hp.nodup_iff.mpr nd;have hlm:=hp.length_eq;have kk:∀b o,s1.heap.get? b=some o->s'.heap.get? b=some o:=fun b o e=>kp' b o (kp b o (aw e) e);have hlt:s1.heap.objs.size<h'.objs.size:=aw ho;have hle:s1.heap.objs.size<=l:=aP (gj hlt) k4;have hz2:(qV ms').length<=sizeLine:=by
  unfold qV sortBy;rw[ae,ord_len _ nd'];exact lr (by omega)
 exact⟨.ref l,_,(I1.laid (h':=s'.heap) (t':=s1.toks) kk hle (show cF X.prog X.w _ _ _ (.lst (qV ms'))from⟨hz2,_,c,Bd nd' (by rw[ae]) (qP hv),k5⟩)).same rfl k2 k3,rfl,q _ _ nd' (fun x=>(hp.mem_iff).trans (mem x)) (I1.hok.fresh hle)⟩
end
end L2
set_option maxHeartbeats 1000000
namespace L2
open PySem PySem.Spec PyProof.Rows
theorem Bw{P:Program}{w:World}{k:Key}{u:Value}(h:(bo P w).is k u=true):RelV (kV k) u:=by
 rw[pv]at h;cases k with
 |inl i=>exact Value.isInt_shape h
 |inr x=>exact mo h
section
variable {X:Cx}{pins:List (Addr×Obj)}{σ:St}{H:Hp}{s:Shared}{d:Addr}{kvs:List (Key×V)}{o:Obj}
theorem Inv.freeze(I:Inv X pins σ H s)(e:H d=some (.dK kvs))(ho:s.heap.get? d=some o):Inv X pins σ (upd H d (.frz o (.dK kvs))) s:=by
 have ne:∀b u,H b=some u->(∀k,u≠.dK k)->b≠d:=fun b u q z y=>by subst y;rw[e]at q;cases q;exact z _ rfl
 have hk:∀b u,b≠d->H b=some u->upd H d (.frz o (.dK kvs)) b=some u:=fun b u z q=>by rw[aH z];exact q
 have st:∀b u,H b=some u->cF X.prog X.w (upd H d (.frz o (.dK kvs))) s.heap b u:=fun b u q=>(I.hok b u q).j8 (fun _ _ _ q=>q) (fun c q=>hk c _ (ne c _ q fun _ z=>nomatch z) q) fun c xs q=>hk c _ (ne c _ q fun _ z=>nomatch z) q;refine(I.un (t':=s.toks) (h':=s.heap) ⟨fun b u q n _ _=>q,fun b u q n _ _=>⟨u.slots,q⟩,fun b u q n _=>?_,fun b u q _=>⟨u,q⟩,fun b xs q=>hk b _ (ne b _ q fun _ z=>nomatch z) q,fun b ob u q=>hk b _ (ne b _ q fun _ z=>nomatch z) q,fun b ps q=>⟨#[],by rw[hk b _ (ne b _ q fun _ z=>nomatch z) q];simp⟩⟩ fun b u q=>?_)
 ·rw[aH (fun z=>by rw[z,e]at n;cases n)]
  exact n
 ·by_cases hb:b=d
  ·subst hb
   rw[av]at q;cases q;exact⟨ho,st b _ e⟩
  ·rw[aH hb]at q
   exact st b u q
theorem Inv.frozen{es:Array DictEntry}{ep:Nat}(I:Inv X pins σ H s)(e:H d=some (.frz o (.dK kvs)))(hd:o.data=.dict es ep):s.heap.get? d=some o/\(d==cT)=false/\∃vs,KV kvs vs/\s.heap.DictAt (bo X.prog X.w) d vs ep:=by
 obtain⟨ho,z,lo,vs,r,o',es',ep',ho',hx,hd',rest⟩:=(show s.heap.get? d=some o/\kvs.length<=sizeLine/\(d==cT)=false/\∃vs,KV kvs vs/\s.heap.DictOf (bo X.prog X.w) d vs from I.hok d _ e);rw[ho]at ho';cases ho';rw[hd]at hd';cases hd';exact⟨ho,lo,vs,r,o,es,ho,hx,hd,rest⟩
theorem wx:∀{kvs:List (Key×V)}{vs:List (Key×Value)},KV kvs vs->∀{i:Nat}{k:Key}{v:V},kvs[i]? =some (k,v)->∃u,vs[i]? =some (k,u)/\RelV v u
 |_,_,.nil,_,_,_,h=>nomatch h
 |_,_,.cons (b:=(k',u)) r _,0,_,_,h=>by
  cases h;obtain⟨e,q⟩:=r;cases e;exact⟨u,rfl,q⟩
 |_,_,.cons _ t,i+1,_,_,h=>wx t (i:=i) h
end
noncomputable def Itk(d:Addr)(o:Obj)(kvs:List (Key×V)):It:=
 ⟨fun i H=>H d=some (.frz o (.dK kvs))/\i<kvs.length,fun i H x H'=>H'=H/\∃k v,kvs[i]? =some (k,v)/\x=kV k,fun i H=>H d=some (.frz o (.dK kvs))/\kvs.length<=i⟩
theorem x9{P:Program}{w:World}{K:aa}{tg:Expr}{d it:Addr}{o:Obj}{kvs:List (Key×V)}{es:Array DictEntry}{ep:Nat}(hd:o.data=.dict es ep):Turn P w K tg (Itk d o kvs) [it] it (fun i h=>h.IsKeyIter it d i kvs.length ep) where
 mem:=by simp
 obj:=fun i h st b hb=>by
  have e:b=it:=by simpa using hb
  subst e;obtain⟨o,e,c,d⟩:=st;exact⟨o,e,fun v z=>by rw[d]at z;cases z⟩
 keep:=fun i h h' st k=>st.at fun o e=>k it (by simp) o e
 item:=by
  intro X hP hw hK hc i pins s σ H E I hf st hg;subst hP hw hK;obtain⟨hH,hi⟩:=hg;obtain⟨ho,lo,vs,r,hm⟩:=I.frozen hH hd;obtain⟨⟨k,v⟩,hx⟩:∃p,kvs[i]? =some p:=⟨kvs[i],by simp[hi]⟩;obtain⟨u,hu,_⟩:=wx r hx;obtain⟨f0,f1,f2,f3,f4,f5⟩:=hf it (by simp);rw[r.length]at st;refine wpAny_pyNext_dict_item st hm hu fun key h' hkey st' sb=>?_;have I1:Inv X pins σ H {s with heap:=h'}:=I.turned (t':=s.toks) (fun b o hb e=>(sb.2 b hb).trans e) f0 f1 f3 f4 f5;obtain⟨o',e,c,d'⟩:=id st';exact⟨key,rfl,rD (s:={s with heap:=h'}) e c d' (by decide) ⟨kV k,H,I1,Bw hkey,⟨rfl,k,v,hx,rfl⟩,by rw[r.length];exact st',fun b hb=>(hf b hb).1⟩⟩
 done:=by
  intro X hP hw hK hc i pins s σ H E I hf st hg;subst hP hw hK;obtain⟨hH,hi⟩:=hg;obtain⟨ho,lo,vs,r,hm⟩:=I.frozen hH hd;obtain⟨f0,f1,f2,f3,f4,f5⟩:=hf it (by simp);rw[r.length]at st hi;exact wpAny_pyNext_dict_end (I.ok.hd hc) st hm (by simpa using hi) fun h' eb=>⟨rfl,I.turned (t':=s.toks) (fun b o hb e=>eb b o hb e) f0 f1 f3 f4 f5⟩
 self:=fun _ _ _ _ _ st h=>wpAny_pyIter_keyiter st h
noncomputable def Iti(d:Addr)(o:Obj)(kvs:List (Key×V)):It:=
 ⟨fun i H=>H d=some (.frz o (.dK kvs))/\i<kvs.length,fun i H x H'=>∃p k v,H p=none/\H'=upd H p (.tup [kV k,v])/\x=.ref p/\kvs[i]? =some (k,v),fun i H=>H d=some (.frz o (.dK kvs))/\kvs.length<=i⟩
theorem vP{P:Program}{w:World}{K:aa}{es':List Expr}{kk:Nat}{pp:Pos}{d it:Addr}{o:Obj}{kvs:List (Key×V)}{es:Array DictEntry}{ep:Nat}(hd:o.data=.dict es ep):
  Turn P w K (.Tuple es' kk pp) (Iti d o kvs) [it] it (fun i h=>∃ok ov,IsItemIter h it d i kvs.length ep ok ov) where
 mem:=by simp
 obj:=fun i h st b hb=>by
  have e:b=it:=by simpa using hb
  subst e;obtain⟨ok,ov,e⟩:=st;exact⟨_,e,fun v z=>by cases z⟩
 keep:=fun i h h' st k=>let⟨ok,ov,e⟩:=st;⟨ok,ov,k it (by simp) _ e⟩
 item:=by
  intro X hP hw hK hc i pins s σ H E I hf st hg;subst hP hw hK;obtain⟨hH,hi⟩:=hg;obtain⟨ho,lo,vs,r,hm⟩:=I.frozen hH hd;obtain⟨⟨k,v⟩,hx⟩:∃p,kvs[i]? =some p:=⟨kvs[i],by simp[hi]⟩;obtain⟨u,hu,ru⟩:=wx r hx;obtain⟨f0,f1,f2,f3,f4,f5⟩:=hf it (by simp);obtain⟨ok,ov,st⟩:=st;rw[r.length]at st;refine wpAny_pyNext_items_item st hm hu fun key h' hkey st' ht hz kp=>?_;have hp:H s.heap.objs.size=none:=I.hok.fresh (ar _);have I1:Inv X pins σ (upd H s.heap.objs.size (.tup [kV k,v])) {s with heap:=h'}:=by
   have nit:∀b u,H b=some u->b≠it:=fun b u e z=>by rw[z,f0]at e;cases e
   refine I.step (g':=s.gens) (d':=s.drawn) (ch:=[it]) (fun c hc=>?_) (fun c o _ _ hc' q _=>kp c o (fun z=>hc' (by simp[z])) q)
    (fun c o _ _ hc' q _=>⟨o.slots,kp c o (fun z=>hc' (by simp[z])) q⟩) (fun c o _ q n=>by rw[aH (aD (aw q))];exact n)
    (fun c o hc' q=>⟨o,kp c o (fun z=>hc' (by simp[z])) q⟩) (fun c vs q=>by rw[aH (bb q hp)];exact q) (fun c o v q=>by rw[aH (bb q hp)];exact q)
    (fun c ps q=>⟨#[],by rw[aH (bb q hp),q];simp⟩) (fun m hm=>?_) (fun c v q=>?_) I.bare
   ·have e:c=it:=by simpa using hc
    subst e;exact⟨f3,f1,f4,f5⟩
   ·obtain⟨o,es',ep,q,r⟩:=hm
    exact⟨o,es',ep,kp _ o (cR f1) q,r⟩
   ·by_cases hb:c=s.heap.objs.size
    ·subst hb
     rw[av]at q;cases q;exact⟨by show 2<=sizeLine;decide,[key,u],.cons (Bw hkey) (.cons ru .nil),⟨_,ht,rfl,_,rfl⟩⟩
    ·rw[aH hb]at q
     refine(I.hok c v q).j8 (fun d o hc' q'=>kp d o (fun hd=>?_) q') (fun d q'=>by rw[aH (bb q' hp)];exact q') fun d vs q'=>by rw[aH (bb q' hp)];exact q'
     rcases hc' with zz|zz
     ·exact nit c v q (zz.symm.trans hd)
     ·exact nit d _ zz hd
  have fz:(upd H s.heap.objs.size (.tup [kV k,v])) it=none:=by rw[aH (aD (aw st))];exact f0
  refine⟨_,rfl,wpAny_letOwnedTupleGo_items (s:={s with heap:=h'}) st' fun h'' st'' hs''=>?_⟩;have I2:Inv X pins σ (upd H s.heap.objs.size (.tup [kV k,v])) {s with heap:=h''}:=I1.turned (t':=s.toks) (fun c o hb q=>hs''.extBut c o hb q) fz f1 f3 f4 f5;exact⟨.ref s.heap.objs.size,_,I2,rfl,⟨_,k,v,hp,rfl,rfl,hx⟩,⟨_,_,by rw[r.length];exact st''⟩,fun c hc=>by
   have e:c=it:=by simpa using hc
   rw[e];exact fz⟩
 done:=by
  intro X hP hw hK hc i pins s σ H E I hf st hg;subst hP hw hK;obtain⟨hH,hi⟩:=hg;obtain⟨ho,lo,vs,r,hm⟩:=I.frozen hH hd;obtain⟨f0,f1,f2,f3,f4,f5⟩:=hf it (by simp);obtain⟨ok,ov,st⟩:=st;rw[r.length]at st hi;exact wpAny_pyNext_items_end (I.ok.hd hc) st hm (by simpa using hi) fun h' eb=>⟨rfl,I.turned (t':=s.toks) (fun b o hb e=>eb b o hb e) f0 f1 f3 f4 f5⟩
 self:=fun _ _ _ _ _ st h=>let⟨_,_,e⟩:=st;PySem.W.kcp_self e h
noncomputable def Frz(H:Hp)(d:Addr)(kvs:List (Key×V))(R:Obj->Hp->Prop):Prop:=(H d=some (.dK kvs)/\∀o,R o (upd H d (.frz o (.dK kvs))))\/∃o,H d=some (.frz o (.dK kvs))/\R o H
section
variable {X:Cx}{pins:List (Addr×Obj)}{σ:St}{H:Hp}{s:Shared}{d:Addr}{kvs:List (Key×V)}{tg:Expr}{es:List Expr}{kk:Nat}{pp apos cpos:Pos}
theorem Inv.xB{R:Obj->Hp->Prop}(I:Inv X pins σ H s)(h:Frz H d kvs R):∃o es ep H2,Inv X pins σ H2 s/\H2 d=some (.frz o (.dK kvs))/\o.data=.dict es ep/\R o H2:=by
 rcases h with⟨e,h⟩ |⟨o,e,h⟩
 ·obtain⟨_,_,vs,r,o,es,ep,ho,_,hd,_⟩:=BL I.hok e
  exact⟨o,es,ep,_,I.freeze e ho,av,hd,h o⟩
 ·obtain⟨ho,_,_,vs,r,o',es,ep,ho',_,hd,_⟩:=(show s.heap.get? d=some o/\kvs.length<=sizeLine/\(d==cT)=false/\∃vs,KV kvs vs/\s.heap.DictOf (bo X.prog X.w) d vs from I.hok d _ e)
  rw[ho]at ho';cases ho';exact⟨o,es,ep,H,I,e,hd,h⟩
noncomputable def BC(tl:TE):TI:=fun σ H R=>tl σ H fun x H1=>∃d kvs,x=.ref d/\Frz H1 d kvs fun o H2=>R (Itk d o kvs) H2
noncomputable def wD(tl:TE):TI:=fun σ H R=>tl σ H fun x H1=>∃d kvs,x=.ref d/\Frz H1 d kvs fun o H2=>R (Iti d o kvs) H2
theorem pi_keys{l:Expr}{tl:TE}(hl:PE X l tl):PI X tg l (BC tl):=by
 intro pins s σ H R I h;refine thn (hl pins s σ H _ I h) fun v s1 ⟨x,H1,I1,r1,q1⟩=>?_;obtain⟨d,kvs,rfl,q⟩:=q1;cases r1;obtain⟨o,es,ep,H2,I2,hH,hd,hR⟩:=I1.xB q;obtain⟨ho,lo,vs,r,hm⟩:=I2.frozen hH hd;refine wpAny_pyIter_dict lo hm ?_;refine⟨s1.heap.objs.size,[s1.heap.objs.size],_,_,H2,rfl,I2.kept (t':=s1.toks) fun b o e=>ag _ e,x9 hd,⟨_,aC _ rfl,rfl,by rw[r.length];rfl⟩,fun b hb=>?_,hR⟩;have e:b=s1.heap.objs.size:=by simpa using hb
 subst e;exact I2.n8 (ar _) (I2.hok.fresh (ar _))
theorem AX{b:Expr}{tl:TE}(hl:PE X b tl)(hbase:hJ b "items" X.env (eval b X.env)=eval b X.env)(hline:(apos.endLine==cpos.line)=true):PI X (.Tuple es kk pp) (.Call (.Attribute b "items" apos) [] [] cpos) (wD tl):=by
 intro pins s σ H R I h;refine wpAny_Call_method0_late hbase hline (thn (hl pins s σ H _ I h) fun v s1 ⟨x,H1,I1,r1,q1⟩=>?_);obtain⟨d,kvs,rfl,q⟩:=q1;cases r1;obtain⟨o,es,ep,H2,I2,hH,hd,hR⟩:=I1.xB q;obtain⟨ho,lo,vs,r,hm⟩:=I2.frozen hH hd;refine⟨"dict","dict.items",i5,t8,PySem.F.type_dict_items,hm.dictOf.typeIs,hm.dictOf.mapOf.noDict,dX rfl (zA ?_)⟩;refine mj t8 hm.dictOf.typeIs PySem.F.entry_dict_items (PySem.F.args_dict_items_1 _) (meets_dict_items (bo X.prog X.w) d lo) ⟨⟨vs,hm.dictOf⟩,?_⟩;refine wpAny_pyIter_items (s:={s1 with heap:=s1.heap.push {cls:=.type "dict_items",data:=.fields #[.ref d]}}) (v:=s1.heap.objs.size) ⟨_,aC _ rfl,rfl,rfl⟩ (hm.push _) ?_;have I3:Inv X pins σ H2 {s1 with heap:=s1.heap.push {cls:=.type "dict_items",data:=.fields #[.ref d]}}:=I2.kept (t':=s1.toks) fun b o e=>ag _ e;refine⟨_,[_],_,_,H2,rfl,I3.kept (t':=s1.toks) fun b o e=>ag _ e,vP hd,⟨.none,.none,?_⟩,fun b hb=>?_,hR⟩
 ·rw[r.length]
  exact aC _ rfl
 have e:b=(s1.heap.push {cls:=.type "dict_items",data:=.fields #[.ref d]}).objs.size:=by simpa using hb
 subst e;exact I3.n8 (ar _) (I3.hok.fresh (ar _))
end
section
variable {prog:Program}{w:World}{A:Around}{E:Value->Shared->Prop}{s:Shared}
theorem BD{z:Addr}{Q:Bool->Shared->Prop}(hT:s.TypeIs (.ref z) "list_reverseiterator")(h:Q false s):wpAny (model prog w) A (dR (.ref z)) Q E s:=by
 unfold dR;refine af (mr (r:=none) hT (by rw[f9,dy];kernel_rfl) ?_);show wpAny _ _ (specialOf (.ref z) "__length_hint__">>=_) _ _ _;refine af (mr (r:=some (.builtin "list_reverseiterator.__length_hint__")) hT (by rw[f9,dy];kernel_rfl) ?_);dsimp only;have hs:splitId "list_reverseiterator.__length_hint__"=some ("list_reverseiterator","__length_hint__"):=by decide+kernel
 rw[hs];dsimp only;refine af (vq (b:=true) hT (by rw[gy];kernel_rfl) ?_);refine mx (fun hab=>absurd hab (by decide)) (fun _=>?_);refine mx (fun _=>?_) (fun hab=>absurd (by decide+kernel) hab);refine mx (fun hab=>absurd hab (by decide+kernel)) (fun _=>aj h)
theorem AH{S it l:Addr}{items:Array Value}{R:Result->Shared->Prop}(hh:A.handled=none)(hit:s.heap.IsRevIter it l ((items.size:Int)-1))(hl:s.heap.IsList l items)(hne:l≠it)(hSi:S≠it)(hSl:S≠l)(hn:items.size<=sizeLine)(hS:s.heap.get? S=some {cls:=.type "list",data:=.seq #[]})
  (hR:∀h' tk acc' c',(∀b o,b≠S->b≠it->s.heap.get? b=some o->h'.get? b=some o)->h'.get? S=some {cls:=.type "list",dict:=none,data:=.seq acc' c',slots:= #[]}->x4 (fun i v=>items[items.size-1-i]? =some v) acc' items.size->R (.ok (.ret .none)) {s with heap:=h',toks:=tk}):
  wpAny (model prog w) A.in1 (Builtin.«list.__init__» ⟨[.ref S,.ref it],[]⟩)
   (fun fin s'=>match fin with |.done f=>R (.ok f) s'|.again c'=>c'.quiet=true/\i3 (model prog w) A c' R s') (fun e s'=>R (.error e) s') s:=by
 show wpAny _ _ (do let old<-qt (.ref S);Builtin.List.listUpdate (.ref S) (fun _=> #[]);letGo old.toList.reverse;cS (.ref S) (.ref it) .none) _ _ s;refine af ?_;unfold qt;refine af (zi hS rfl (aj ?_));show wpAny _ _ (updateSeq S (fun _=> #[])>>=fun _=>letGo (#[]:Array Value).toList.reverse>>=fun _=>cS (.ref S) (.ref it) .none) _ _ s;refine af (wpAny_updateSeq hS rfl ?_);have hS₂:=cH (bS (fun _=>(#[]:Array Value))) hS rfl;have oth:∀b o,b≠S->s.heap.get? b=some o->(s.heap.update S (bS (fun _=>(#[]:Array Value)))).get? b=some o:=fun b o hb e=>(bz _ _ (cR hb)).trans e;refine af (wpAny_letGo ?_);have hit2:Heap.IsRevIter (s.heap.update S (bS (fun _=>(#[]:Array Value)))) it l ((items.size:Int)-1):=hit.at fun o e=>oth it o hSi.symm e;unfold cS;refine af (mh (T:="list_reverseiterator") (qo (s:={s with heap:=s.heap.update S _}) hit2) ?_);have h1:gL (.ref S) (.ref it)=false:=by simp[gL,hSi]
 have h2:(dB "list_reverseiterator"==dB "list")=false:=by decide
 have h3:(dB "list_reverseiterator"==dB "tuple")=false:=by decide
 simp only[h1,h2,h3,vL,bH,if_false];refine af (oh (s:={s with heap:=s.heap.update S _}) hit2 ?_);refine af (cc (BD (qo (s:={s with heap:=s.heap.update S _}) hit2) ?_));refine mx (fun hab=>absurd hab aQ) (fun _=>aj ⟨fU F.plain_extend_loop _,?_⟩);have W:=Walks.listRev (prog:=prog) (w:=w) (A:=A.in1) hh it l hne items;refine codeAny_extend_loopS W.toS hn S (by simp only[aI,bE,or_false,not_or];exact⟨hSi,hSl⟩) .none items.size 0 _ _ _ (kh _) (aL _) ⟨aL _,by rw[show(items.size:Int)-1-((0:Nat):Int)=(items.size:Int)-1 by omega];exact hit2,hl.at fun o e=>oth l o hSl.symm e⟩ hS₂ (x4.nil _) fun s' acc' c' hm hS' hacc=>?_;rw[Moved.eq_with hm];refine hR s'.heap s'.toks acc' c' (fun b o hb hi e=>hm.heap b o (fun hmem=>?_) (oth b o hb e)) hS' hacc;rcases aI.mp hmem with e'|hmem
 ·exact hb e'
 ·exact hi (aq.mp hmem)
theorem qI{it l:Addr}{items:Array Value}{Q:Value->Shared->Prop}(hh:A.handled=none)(hit:s.heap.IsRevIter it l ((items.size:Int)-1))(hl:s.heap.IsList l items)(hne:l≠it)(hn:items.size<=sizeLine)
  (hQ:∀h' tk acc' c',(∀b o,b≠it->s.heap.get? b=some o->h'.get? b=some o)->h'.get? s.heap.objs.size=some {cls:=.type "list",dict:=none,data:=.seq acc' c',slots:= #[]}->x4 (fun i v=>items[items.size-1-i]? =some v) acc' items.size->Q (.ref s.heap.objs.size) {s with heap:=h',toks:=tk}):
  wpAny (model prog w) A (call (.type "list") [.ref it]) Q E s:=by
 refine callType_codes (Q₁:=fun obj s₁=>obj=.ref s.heap.objs.size/\s₁={s with heap:=s.heap.push {cls:=.type "list",data:=.seq #[]}}) F.called_list (F.typeCall_list_1 _) F.entry_list_init
  (code_list_new _ ⟨rfl,rfl⟩) fun obj s₁ h₁=>?_
 obtain⟨rfl,rfl⟩:=h₁;have hS:(s.heap.push {cls:=.type "list",data:=.seq #[]}).get? s.heap.objs.size=some {cls:=.type "list",data:=.seq #[]}:=aC _ rfl;have l1:it<s.heap.objs.size:=let⟨_,e,_⟩:=hit;aw e;have l2:l<s.heap.objs.size:=let⟨_,e,_⟩:=hl;aw e;refine⟨⟨_,hS,rfl⟩,F.args_list_init_2 _ _,AH (A:=A.in1) hh (hit.at fun o e=>ag _ e) (hl.at fun o e=>ag _ e) hne (cC l1) (cC l2) hn hS fun h' tk acc' c' hk hS' hacc=>⟨rfl,hQ h' tk acc' c' (fun b o hb e=>hk b o (aD (aw e)) hb (ag _ e)) hS' hacc⟩⟩
end
theorem yp{its:List Value}{acc:Array Value}(h:x4 (fun i v=>its.toArray[its.toArray.size-1-i]? =some v) acc its.toArray.size):acc.toList=its.reverse:=by
 obtain⟨h1,h2⟩:=h;rw[ax]at h1;apply dg
 ·rw[dM]
  exact h1
 ·intro i a b
  have :=h2 i acc[i] (by simp)
  rw[ax,zu,ah (by simp at b;omega)]at this;rw[List.getElem_reverse];simpa using(be this).symm
theorem pB:∀{kvs:List (Key×V)}{vs:List (Key×Value)}{P:Program}{w:World},KV kvs vs->∀{l:List Value},l.length=vs.length->(∀(i:Nat) v,l[i]? =some v->∃k x,vs[i]? =some (k,x)/\(bo P w).is k v=true)->bC (kvs.map fun kv=>kV kv.1) l
 |_,_,_,_,.nil,l,h,_=>by
  rw[dw]at h;rw[qN h];exact .nil
 | (k0,v0)::kvs,(k1,v1)::vs,P,w,.cons r t,l,h,hq=>by
  cases l with
  |nil=>cases h
  |cons u l=>
   obtain⟨k,x,e,hk⟩:=hq 0 u rfl;cases e;obtain⟨e,_⟩:=r;cases e;exact .cons (Bw hk) (pB t (ji h) fun i v e=>hq (i+1) v e)
section
variable {X:Cx}
theorem y0:eh X (.builtin "len") (fun xs H Q=>∃a kvs,xs=[V.ref a]/\Rd H a (.dK kvs)/\Q (.int kvs.length) H):=by
 intro pins s σ H xs us Q I r h;obtain⟨a,kvs,rfl,ha,q⟩:=h;obtain⟨u,rfl,ru⟩:=vals1 r;cases ru;exact d_len I ha fun t s' I'=>⟨.int kvs.length,H,I',⟨t,rfl⟩,q⟩
theorem wV(hc:X.calm=true):eh X (.type "list") (fun xs H Q=>∃a kvs,xs=[V.ref a]/\Rd H a (.dK kvs)/\∀l,H l=none->Q (.ref l) (upd H l (.lst (kvs.map fun kv=>kV kv.1)))):=by
 intro pins s σ H xs us Q I r h;obtain⟨a,kvs,rfl,ha,q⟩:=h;obtain⟨u,rfl,ru⟩:=vals1 r;cases ru;obtain⟨hz,lo,vs,rv,dd⟩:=jG I.hok ha;obtain⟨ep,hm⟩:=dd.dictAt;refine PySem.W.kdl_call (PySem.W.kdl_dict lo) (I.ok.hd hc) hm (by rw[<-rv.length];exact hz) fun h' tk acc' c' hk hS hacc=>?_;refine⟨.ref _,_,I.laid (t':=tk) (o:=.lst (kvs.map fun kv=>kV kv.1)) hk (ar _) ⟨by rw[ae];exact hz,acc'.toList,c',pB rv (by rw[bZ];exact hacc.1) fun i v e=>hacc.2 i v (by rw[<-km];exact e),hS⟩,rfl,q _ (I.hok.fresh (ar _))⟩
theorem wX:eh X (.type "dict") (fun xs H Q=>∃a kvs,xs=[V.ref a]/\Rd H a (.dK kvs)/\∀l,H l=none->Q (.ref l) (upd H l (.dK kvs))):=by
 intro pins s σ H xs us Q I r h;obtain⟨a,kvs,rfl,ha,q⟩:=h;obtain⟨u,rfl,ru⟩:=vals1 r;cases ru;obtain⟨hz,lo,vs,rv,dd⟩:=jG I.hok ha;refine kt_call_dict lo dd (by rw[<-rv.length];exact hz) fun h' hd hs=>?_;have hk:∀b o,s.heap.get? b=some o->h'.get? b=some o:=fun b o e=>hs.extBut b o (aD (aw e)) (ag _ e);exact⟨.ref _,_,I.laid (t':=s.toks) (o:=.dK kvs) hk (ar _) ⟨hz,beq_eq_false_iff_ne.mpr (cR (aD I.big)),vs,rv,hd⟩,rfl,q _ (I.hok.fresh (ar _))⟩
noncomputable def zY(K:aa)(ta:TA):TE:=fun σ H Q=>ta σ H fun vs H1=>∃a xs,vs=[.ref a]/\SqL K H1 a xs/\∀p,H1 p=none->Q (.ref p) (upd H1 p (.lst xs.reverse))
theorem boot_reversed:cW "reversed"=some (.type "reversed"):=by decide+kernel
theorem pe_lrev{a:Expr}{ta:TA}{p p' pos pos':Pos}(hc:X.calm=true)(hg':Gl X "list")(hm':X.mg "list"=none)(hg:Gl X "reversed")(hm:X.mg "reversed"=none)(ha:PA X [a] ta)(hs:bu [a] X.env=[(false,eval a X.env)]:=by rfl):
  PE X (.Call (.Name "list" p) [.Call (.Name "reversed" p') [a] [] pos'] [] pos) (zY X.K ta):=by
 intro pins s σ H Q I h;refine Call_ (gG I hg' hm' fc (bM (dW ?_) rfl rfl));refine Call_ (gG I hg hm boot_reversed (bM (thn (ha pos' pins s σ H _ I h) fun us s1 ⟨vs,H1,I1,r1,q1⟩=>?_) hs rfl));obtain⟨b,xs,rfl,hq,q⟩:=q1;obtain⟨u,rfl,ru⟩:=r1.one;cases ru;obtain⟨its,rv,pl,hz⟩:=I1.list hq;have hl:=rv.length;refine call_reversed_list pl.isList ?_;refine aj ?_;have I2:Inv X pins σ H1 {s1 with heap:=s1.heap.push (revObj b ((its.toArray.size:Int)-1))}:=I1.kept (t':=s1.toks) fun b o e=>ag _ e;obtain⟨o,eo,ho⟩:=id pl.isList;have hb:b<s1.heap.objs.size:=aw eo;refine qI (s:={s1 with heap:=s1.heap.push (revObj b ((its.toArray.size:Int)-1))}) (I1.ok.hd hc) ⟨_,aC _ rfl,rfl,rfl⟩ (pl.isList.at fun o e=>ag _ e) (aD hb) (by rw[ax];omega) fun h' tk acc' c' hk hS hacc=>?_;have hsz:s1.heap.objs.size<=(s1.heap.push (revObj b ((its.toArray.size:Int)-1))).objs.size:=by rw[cB];exact eL _
 exact⟨.ref _,_,I1.laid (t':=tk) (o:=.lst xs.reverse) (fun c o e=>hk c o (aD (aw e)) (ag _ e)) hsz ⟨by rw[dM];exact hz,acc'.toList,c',by rw[yp hacc];exact rv.reverse,hS⟩,rfl,q _ (I1.hok.fresh hsz)⟩
end
noncomputable def Itv(K:aa)(a:Addr)(xs:List V):It:=
 ⟨fun i H=>SqL K H a xs/\i<xs.length,fun i H x H'=>H'=H/\xs.reverse[i]? =some x,fun i H=>xs.length<=i⟩
theorem zR{P:Program}{w:World}{K:aa}{tg:Expr}(a it:Addr)(xs:List V):Turn P w K tg (Itv K a xs) [it] it (fun i h=>h.IsRevIter it a ((xs.length:Int)-1-i)/\i<=xs.length) where
 mem:=by simp
 obj:=fun i h st b hb=>by
  have e:b=it:=by simpa using hb
  subst e;obtain⟨⟨o,e,c,d⟩,_⟩:=st;exact⟨o,e,fun v z=>by rw[d]at z;cases z⟩
 keep:=fun i h h' st k=>⟨st.1.at fun o e=>k it (by simp) o e,st.2⟩
 item:=by
  intro X hP hw hK hc i pins s σ H E I hf st hg;subst hP hw hK;obtain⟨hq,hi⟩:=hg;obtain⟨its,rv,p,hz⟩:=I.list hq;have hl:=rv.length;obtain⟨u,hu,ru⟩:=rv.get (ah (show xs.length-1-i<xs.length by omega));obtain⟨f0,f1,f2,f3,f4,f5⟩:=hf it (by simp);obtain⟨st,_⟩:=st;rw[show(xs.length:Int)-1-i=((xs.length-1-i:Nat):Int) by omega]at st;refine wpAny_pyNext_rev_item st p.isList (x:=u) (by simpa using hu) fun h' st' sb=>?_;have I1:Inv X pins σ H {s with heap:=h'}:=I.turned (t':=s.toks) (fun b o hb e=>(sb.2 b hb).trans e) f0 f1 f3 f4 f5;obtain⟨o,e,c,d⟩:=id st';refine⟨u,rfl,rD (s:={s with heap:=h'}) e c d (by decide) ⟨_,H,I1,ru,⟨rfl,?_⟩,⟨?_,by omega⟩,fun b hb=>(hf b hb).1⟩⟩
  ·rw[zv hi,ah]
  ·rw[show(xs.length:Int)-1-((i+1:Nat):Int)=((xs.length-1-i:Nat):Int)-1 by omega]
   exact st'
 done:=by
  intro X hP hw hK hc i pins s σ H E I hf st hg;subst hP hw hK;obtain⟨f0,f1,f2,f3,f4,f5⟩:=hf it (by simp);obtain⟨st,h2⟩:=st;have hg:xs.length<=i:=hg;rw[show(xs.length:Int)-1-i= -1 by omega]at st;exact wpAny_pyNext_rev_end (I.ok.hd hc) st fun h' eb=>⟨rfl,I.turned (t':=s.toks) (fun b o hb e=>eb b o hb e) f0 f1 f3 f4 f5⟩
 self:=fun _ _ _ _ _ st h=>oh st.1 h
section
variable {X:Cx}{tg:Expr}
noncomputable def iRev(K:aa)(t:TA):TI:=fun σ H R=>t σ H fun vs H1=>∃a xs,vs=[.ref a]/\SqL K H1 a xs/\R (Itv K a xs) H1
theorem pi_rev{l:Expr}{t:TA}{p pos:Pos}(hg:Gl X "reversed")(hm:X.mg "reversed"=none)(ha:PA X [l] t)(hs:bu [l] X.env=[(false,eval l X.env)]:=by rfl):PI X tg (.Call (.Name "reversed" p) [l] [] pos) (iRev X.K t):=by
 intro pins s σ H R I h;refine Call_ (gG I hg hm boot_reversed (bM (thn (ha pos pins s σ H _ I h) fun us s1 ⟨vs,H1,I1,r1,q1⟩=>?_) hs rfl));obtain⟨a,xs,rfl,hq,q⟩:=q1;obtain⟨u,rfl,ru⟩:=r1.one;cases ru;obtain⟨its,rv,pl,hz⟩:=I1.list hq;have hl:=rv.length;refine call_reversed_list pl.isList ?_;refine oh (s:={s1 with heap:=s1.heap.push (revObj a ((its.toArray.size:Int)-1))}) (l:=a) ⟨_,aC _ rfl,rfl,rfl⟩ ?_;refine⟨s1.heap.objs.size,[s1.heap.objs.size],_,_,H1,rfl,I1.kept (t':=s1.toks) fun b o e=>ag _ e,zR a _ xs,⟨⟨_,aC _ rfl,rfl,?_⟩,aL _⟩,fun b hb=>?_,q⟩
 ·show Data.fields #[.ref a,rawInt ((its.toArray.size:Int)-1)]=_
  rw[ax,hl];simp
 ·have e:b=s1.heap.objs.size:=by simpa using hb
  subst e;exact I1.n8 (ar _) (I1.hok.fresh (ar _))
end
end L2
namespace PySem
open Sem (wp)
theorem tf:zj (.type "list") "keys"=pure none:=by rw[f9,dy];kernel_rfl
theorem qB:zj (.type "list") "__getattr__"=pure none:=by rw[f9,dy];kernel_rfl
section
variable {prog:Program}{w:World}{A:Around}{E:Value->Shared->Prop}{h:Heap}{g:Array zx}{d:Drawn}{t:Nat}{os:OsState}{a:Addr}{o:Obj}
theorem wy{tk:Tok}{xs:Array Value}{n:Nat}{Q:Fin->Shared->Prop}(hx:h.get? a=some {cls:=.type "list",data:=.seq xs n}) (hh:A.handled=none) (hq:∀h' t' x ox,(∀b u,h.get? b=some u->h'.get? b=some u)->h'.get? x=some ox->ox.cls=.type "AttributeError"->E (.ref x) ⟨h',g,d,t',os⟩):
  wpAny (model prog w) A (Builtin.«object.__getattribute__» ⟨[.ref a,.str "keys" tk],[]⟩) Q E ⟨h,g,d,t,os⟩:=by
 have hT:(⟨h,g,d,t,os⟩:Shared).TypeIs (.ref a) "list":=⟨_,hx,rfl⟩;have f4:=tf;repeat(any_goals (first |assumption|wp_step))
 generalize hmm:(cP _++cP "keys"++cP "'")=msg;have hml:msg.length<=sizeLine:=by rw[<-hmm];decide+kernel
 unfold raiseAttrError;refine af ?_;refine wpAny_mkStr ?_ hml;refine af ?_;simp only[newExc,newTuple];refine af (cj ?_ (by size_fits));refine af (m:=oo _ _) (wpAny_of_eq (a:=bG) (by first |rfl| (simp only[oo];rfl)) ?_);refine cj ?_ (by size_fits);have sub:isSubtype (.type "AttributeError") (.type "AttributeError")=pure true:=by rw[gy];kernel_rfl
 have om:ownMembersOf (dB "AttributeError") [qh msg t]= #[unsetMember,unsetMember]:=by rfl
 rw[om];dsimp only;repeat(any_goals (first |assumption|wp_step))
 simp only[zl];refine af (wpAny_handled ?_);rw[hh];refine af (aj (wpAny_throw ?_));refine hq _ _ _ _ (fun b u e=>?_) (cH _ (aC _ rfl) rfl) rfl;have hb:=aw e;rw[bz _ _ (cC (by rw[cB];exact bF hb))];exact ag _ (ag _ e)
theorem yM{xs:Array Value}{n:Nat}{Q:Option Value->Shared->Prop}(hx:h.get? a=some {cls:=.type "list",data:=.seq xs n}) (hh:A.handled=none) (hq:∀h' t',(∀b u,h.get? b=some u->h'.get? b=some u)->Q none ⟨h',g,d,t',os⟩):
  wpAny (model prog w) A (getAttr? (.ref a) "keys") Q E ⟨h,g,d,t,os⟩:=by
 have hT:∀t,(⟨h,g,d,t,os⟩:Shared).TypeIs (.ref a) "list":=fun _=>⟨_,hx,rfl⟩;have f2:=fL.lookup;have f3:=fL.bind (.ref a);have f5:=qB;have hT1:=hT (t+1);unfold getAttr? getAttrBy?;repeat(any_goals (first |assumption|wp_step))
 refine codeAny_call_builtin fL.plain F.entry_list_ga (fL.check _ _ _ _ _ _ _ _ hT1 (F.args_list_getattribute_2 _ _) (wy hx hh fun h' t' x ox kp hox hcx=>?_));have sub:isSubtype (.type "AttributeError") (.type "AttributeError")=pure true:=by rw[gy];kernel_rfl
 have hTx:∀t,(⟨h',g,d,t,os⟩:Shared).TypeIs (.ref x) "AttributeError":=fun _=>⟨ox,hox,hcx⟩;have hTx1:=hTx t';have q:=hq h' t' kp;repeat(any_goals (first |assumption|wp_step))
end
end PySem
namespace L2
open PySem PySem.Spec PyProof.Rows
theorem stored_new{kvs:List (Key×Value)}{k:Key}{v:Value}(h:k∉kvs.map (·.1)):stored kvs k v=kvs++[(k,v)]:=by
 unfold stored;rw[if_neg];intro z;obtain⟨q,hq,e⟩:=eO.mp z;exact h (aE.mpr ⟨q,hq,of_decide_eq_true e⟩)
theorem jb:entryFor table "dict.update.loop"=some Builtin.«dict.update.loop»:=entryFor_of_tree (by kernel_rfl)
theorem eM:plainId "dict.update.loop"=true:=by decide+kernel
section
variable {prog:Program}{w:World}{A:Around}{E:Value->Shared->Prop}{s:Shared}
noncomputable def PrAt(P:Program)(w:World)(h:Heap)(its:List Value)(ps:List (Key×Value)):Prop:=∀(i:Nat)(k:Key)(v:Value),ps[i]? =some (k,v)->∃(p:Addr)(o:Obj)(ku:Value)(n:Nat),its[i]? =some (bA p)/\h.get? p=some o/\o.cls=.type "tuple"/\o.data=.seq #[ku,v] n/\(bo P w).is k ku=true
theorem rG{d it l:Addr}{its:List Value}{ps:List (Key×Value)}{R:Result->Shared->Prop}(hh:A.handled=none)(hl:its.length=ps.length)(nd:(ps.map (·.1)).Nodup)(hn:ps.length<=sizeLine)(hdi:d≠it)(hli:l≠it)(hld:l≠d):
  ∀(m i:Nat)(s:Shared)(t0:Tok),ps.length-i=m->i<=ps.length->s.heap.IsListIter it l i->s.heap.IsList l its.toArray->s.heap.DictOf (bo prog w) d (ps.take i)->PrAt prog w s.heap its ps->(∀p,bA p∈its->p≠d/\p≠it)->
   (∀h' tk,(∀b o,b≠d->b≠it->s.heap.get? b=some o->h'.get? b=some o)->h'.DictOf (bo prog w) d ps->R (.ok (.ret .none)) {s with heap:=h',toks:=tk})->
   i3 (model prog w) A (.builtin "dict.update.loop" ⟨[.ref d,.ref it,.int i t0,.none],[]⟩) R s
 | 0,i,s,t0,hm,hi,st,sl,hd,hp,hne,hR=>by
  obtain rfl:i=ps.length:=by omega
  rw[bN]at hd;refine dF jb ?_;rw[cN eM _];show wpAny _ A.in1 (pyNext (.ref it)>>=_) _ _ s;refine af (wpAny_pyNext_list_end hh st sl (by simp[hl]) fun h' eb=>?_);show wpAny _ _ (Builtin.Dict.addKeywords d []>>=_) _ _ _;exact af (aj (aj (hR h' s.toks (fun b o _ hb e=>eb b o hb e) (hd.extBut eb hdi))))
 |m+1,i,s,t0,hm,hi,st,sl,hd,hp,hne,hR=>by
  have hlt:i<ps.length:=by omega
  obtain⟨⟨k,v⟩,hx⟩:∃q,ps[i]? =some q:=⟨ps[i],by simp[hlt]⟩;obtain⟨p,o,ku,n,e1,e2,e3,e4,e5⟩:=hp i k v hx;have hpn:=hne p (bj e1);refine dF jb ?_;rw[cN eM _];show wpAny _ A.in1 (pyNext (.ref it)>>=_) _ _ s;refine af (wpAny_pyNext_list_item st sl (x:=.ref p) (by simpa using e1) fun h' st' sb=>?_);have e2':h'.get? p=some o:=(sb.2 p hpn.2).trans e2;refine af (cc ?_);refine af ?_;refine wpAny_tryCatch ?_;unfold Builtin.Dict.pairItems;refine af (mh (T:="tuple") ⟨o,e2',e3⟩ ?_);rw[if_pos (by decide)];refine af ?_;unfold seqItems?;refine af (wpAny_load e2' ?_);rw[e4];refine aj (aj ?_);show wpAny _ _ (holding [ku,v] (dictSet d ku v)) _ _ _;have hd':h'.DictOf (bo prog w) d (ps.take i):=hd.extBut sb.extBut hdi;refine cc (wpAny_dictSet_pairs (s:={s with heap:=h'}) (hsz:=by rw[aW];omega) e5 hd' fun h2 hd2 sb2=>?_);have nk:k∉(ps.take i).map (·.1):=fun z=>by
   obtain⟨q,hq,e⟩:=aE.mp z;obtain⟨j,hj,ej⟩:=aR.mp hq;rw[aW]at hj;rw[ef]at ej;have a1:(ps.map (·.1))[j]'(by rw[ae];omega)=(ps.map (·.1))[i]'(by rw[ae];exact hlt):=by
    rw[bR,bR,ej,e];rw[ah hlt]at hx;rw[be hx]
   have :=(bY nd).mp a1
   omega
  rw[stored_new nk,show ps.take i++[(k,v)]=ps.take (i+1) by rw[bP,hx];rfl]at hd2;have kp:∀b o,b≠d->b≠it->s.heap.get? b=some o->h2.get? b=some o:=fun b o hb hb2 e=>(sb2.2 b hb).trans ((sb.2 b hb2).trans e);refine aj ⟨fU eM _,?_⟩;refine rG (its:=its) (ps:=ps) hh hl nd hn hdi hli hld m (i+1) {s with heap:=h2,toks:=s.toks+1} _ (by omega) hlt (st'.at fun o e=>(sb2.2 it hdi.symm).trans e) (sl.at fun o e=>kp l o hld hli e) hd2 (fun j k' v' hj=>?_) hne fun h3 tk kp3 hd3=>hR h3 tk (fun b o hb hb2 e=>kp3 b o hb hb2 (kp b o hb hb2 e)) hd3;obtain⟨p',o',ku',n',f1,f2,f3,f4,f5⟩:=hp j k' v' hj;have hpn':=hne p' (bj f1);exact⟨p',o',ku',n',f1,kp p' o' hpn'.1 hpn'.2 f2,f3,f4,f5⟩
theorem qE{l:Addr}{its:List Value}{n0:Nat}{ps:List (Key×Value)}{Q:Value->Shared->Prop}(hh:A.handled=none)(hx:s.heap.get? l=some {cls:=.type "list",data:=.seq its.toArray n0}) (hl:its.length=ps.length) (nd:(ps.map (·.1)).Nodup) (hn:ps.length<=sizeLine) (hp:PrAt prog w s.heap its ps)
  (hQ:∀h' tk,(∀b o,s.heap.get? b=some o->h'.get? b=some o)->h'.DictOf (bo prog w) s.heap.objs.size ps->Q (.ref s.heap.objs.size) {s with heap:=h',toks:=tk}):
  wpAny (model prog w) A (call (.type "dict") [.ref l]) Q E s:=by
 refine callType_codes (Q₁:=fun obj s₁=>obj=.ref s.heap.objs.size/\s₁={s with heap:=s.heap.push {cls:=.type "dict",data:=.dict #[]}}) F.kt_called_dict (F.kt_typeCall_dict_1 _) F.entry_dict_init (kt_code_dict_new _ ⟨rfl,rfl⟩) ?_;rintro obj s₁ ⟨rfl,rfl⟩;have hnew:(s.heap.push {cls:=.type "dict",data:=.dict #[]}).DictOf (bo prog w) s.heap.objs.size []:=x5 s.heap;have hx1:(s.heap.push {cls:=.type "dict",data:=.dict #[]}).get? l=some {cls:=.type "list",data:=.seq its.toArray n0}:=ag _ hx;refine⟨hnew.typeIs,F.args_dict_init_2 _ _,?_⟩;unfold Builtin.«dict.__init__»;refine af ?_;unfold Builtin.Dict.selfAndRest;refine af (wpAny_notOrdered_dict hnew.typeIs ?_);show wpAny _ _ (pure (s.heap.objs.size,[bA l])) _ _ _;refine aj ?_;show wpAny _ _ (qp "dict.__init__" s.heap.objs.size (.ref l) [] .none) _ _ _;unfold qp;refine af (mh (T:="list") ⟨_,hx1,rfl⟩ ?_);rw[if_pos (by decide)];refine af (yM hx1 hh fun h2 t2 kp=>?_);rw[if_pos (by rfl)];refine af (mi ?_);have hl2:h2.IsList l its.toArray:=⟨_,kp _ _ hx1,rfl,_,rfl⟩;refine af (gv (s:={s with heap:=h2,toks:=t2}) hl2 ?_);refine aj ⟨fU eM _,?_⟩;have lsz:l<s.heap.objs.size:=aw hx;have dsz:s.heap.objs.size<h2.objs.size:=aw (kp _ _ (aC (o:={cls:=.type "dict",data:=.dict #[]}) _ rfl));have kp1:∀b o,s.heap.get? b=some o->h2.get? b=some o:=fun b o e=>kp b o (ag _ e);obtain⟨od,es,ep,ho,rest⟩:=hnew;refine rG (A:=A.in1) (its:=its) (ps:=ps) hh hl nd hn (aD dsz) (aD (eV lsz dsz)) (aD lsz) ps.length 0 {s with heap:=h2.push {cls:=.type "list_iterator",data:=.fields #[.ref l,.int 0 0]},toks:=t2} 0 (kh _) (aL _) ⟨_,aC _ rfl,rfl,rfl⟩ (hl2.at fun o e=>ag _ e) ⟨od,es,ep,ag _ (kp _ _ ho),rest⟩ (fun j k v hj=>?_) (fun p hpm=>?_) fun h3 tk kp3 hd3=>⟨rfl,hQ h3 tk (fun b o e=>kp3 b o (aD (aw e)) (aD (eV (aw e) dsz)) (ag _ (kp1 b o e))) hd3⟩
 ·obtain⟨p',o',ku',n',f1,f2,f3,f4,f5⟩:=hp j k v hj
  exact⟨p',o',ku',n',f1,ag _ (kp1 _ _ f2),f3,f4,f5⟩
 ·obtain⟨j,hj,ej⟩:=aR.mp hpm
  obtain⟨⟨k,v⟩,hq⟩:∃q,ps[j]? =some q:=⟨ps[j]'(by omega),ah _⟩;obtain⟨p',o',ku',n',f1,f2,_⟩:=hp j k v hq;rw[ah hj,ej]at f1;cases f1;have :=aw f2;exact⟨aD this,aD (eV this dsz)⟩
end
section
variable {X:Cx}
theorem wW(hc:X.calm=true):eh X (.type "dict") (fun xs H Q=>∃a ys kvs,xs=[V.ref a]/\H a=some (.lst ys)/\Paired (fun y (kv:Key×V)=>∃p,y=V.ref p/\H p=some (.tup [kV kv.1,kv.2])) ys kvs/\(kvs.map (·.1)).Nodup/\∀l,H l=none->Q (.ref l) (upd H l (.dK kvs))):=by
 intro pins s σ H xs us Q I r h;obtain⟨a,ys,kvs,rfl,hq,hp,nd,q⟩:=h;obtain⟨u,rfl,ru⟩:=vals1 r;cases ru;obtain⟨hz,its,n,rv,_,e⟩:=I.sY hq;have key:∀{ys:List V}{kvs:List (Key×V)},Paired (fun y (kv:Key×V)=>∃p,y=V.ref p/\H p=some (.tup [kV kv.1,kv.2])) ys kvs->∀{its:List Value},bC ys its->∃ps,KV kvs ps/\PrAt X.prog X.w s.heap its ps:=by
  intro ys kvs hp
  induction hp with
  |nil=>
   intro its rv;cases rv;exact⟨[],.nil,fun i k v z=>nomatch z⟩
  |cons r t ih=>
   intro its rv;obtain⟨p,rfl,hH⟩:=r;cases rv with
   |cons r1 rv=>
    cases r1;obtain⟨ps,a1,a2⟩:=ih rv;obtain⟨_,tv,r2,o,e1,e2,n,e3⟩:=I.hok p _ hH;obtain⟨u1,u2,rfl,s1,s2⟩:=r2.two;refine⟨(_,u2)::ps,.cons ⟨rfl,s2⟩ a1,fun i k v z=>?_⟩;cases i with
    |zero=>
     cases z;exact⟨p,o,u1,n,rfl,e1,e2,e3,jC s1⟩
    |succ i=>exact a2 i k v z
 obtain⟨ps,a1,a2⟩:=key hp rv;have l1:=rv.length;have l2:=hp.length;have l3:=a1.length;have hz2:kvs.length<=sizeLine:=by omega
 refine qE (ps:=ps) (n0:=n) (I.ok.hd hc) e (by omega) (by rw[<-a1.keys];exact nd) (by omega) a2 fun h' tk hk hd=>?_;exact⟨.ref _,_,I.laid (t':=tk) (o:=.dK kvs) hk (ar _) ⟨hz2,beq_eq_false_iff_ne.mpr (cR (aD I.big)),ps,a1,hd⟩,rfl,q _ (I.hok.fresh (ar _))⟩
end
section
variable {X:Cx}{pins:List (Addr×Obj)}{σ:St}{H:Hp}{s:Shared}{d:Addr}{kvs:List (Key×V)}{o:Obj}
theorem Inv.sf(I:Inv X pins σ H s)(h0:∀o u,X.H₀ d≠some (.frz o u))(e:H d=some (.frz o (.dK kvs))):Inv X pins σ (upd H d (.dK kvs)) s:=by
 have ne:∀b u,H b=some u->(∀o v,u≠.frz o v)->b≠d:=fun b u q z y=>by subst y;rw[e]at q;cases q;exact z _ _ rfl
 have hk:∀b u,b≠d->H b=some u->upd H d (.dK kvs) b=some u:=fun b u z q=>by rw[aH z];exact q
 have st:∀b u,cF X.prog X.w H s.heap b u->cF X.prog X.w (upd H d (.dK kvs)) s.heap b u:=fun b u q=>q.j8 (fun _ _ _ q=>q) (fun c q=>hk c _ (ne c _ q fun _ _ z=>nomatch z) q) fun c xs q=>hk c _ (ne c _ q fun _ _ z=>nomatch z) q;have fr:∀b,H b=none->upd H d (.dK kvs) b=none:=fun b n=>by rw[aH (fun z=>by rw[z,e]at n;cases n)];exact n
 refine⟨I.ok,I.os,I.bare,⟨I.base.keep,I.base.slot,fun b u q n hx=>fr b (I.base.free b u q n hx),I.base.there,fun b xs q=>hk b _ (ne b _ (I.base.tups b xs q) fun _ _ z=>nomatch z) (I.base.tups b xs q),fun b ob u q=>hk b _ (fun z=>h0 ob u (by rw[<-z];exact q)) (I.base.frzs b ob u q),fun b ps q=>?_⟩,I.loc,I.cell,fr _ I.free,fun x c q=>fr c (I.freeC x c q),fun p hp=>?_,fun b u q=>?_,I.len⟩
 ·obtain⟨m,z⟩:=I.base.tbls b ps q
  exact⟨m,hk b _ (ne b _ z fun _ _ z=>nomatch z) z⟩
 ·obtain⟨p1,p2,p3⟩:=I.pin p hp
  exact⟨p1,fr _ p2,p3⟩
 ·by_cases hb:b=d
  ·subst hb
   rw[av]at q;cases q;obtain⟨_,z⟩:=(show s.heap.get? b=some o/\cF X.prog X.w H s.heap b (.dK kvs)from I.hok b _ e);exact st b _ z
  ·rw[aH hb]at q
   exact st b u (I.hok b u q)
theorem Inv.warm(I:Inv X pins σ H s)(e:H d=some (.dK kvs)):∀o u,X.H₀ d≠some (.frz o u):=fun o u z=>by
 have :=I.base.frzs d o u z
 rw[e]at this;cases this
end
section
variable {X:Cx}{e:Expr}{st:Stmt}{t:TE}{ts:TS}
noncomputable def zU(t:TE):TE:=fun σ H Q=>∃d kvs,H d=some (.dK kvs)/\t σ H fun x H'=>∃o,H' d=some (.frz o (.dK kvs))/\Q x (upd H' d (.dK kvs))
theorem pe_thaw(h:PE X e t):PE X e (zU t):=by
 intro pins s σ H Q I hw;obtain⟨d,kvs,hd,hw⟩:=hw;refine thn (h pins s σ H _ I hw) fun v s1 ⟨x,H1,I1,r1,o,h1,q⟩=>?_;exact⟨x,_,I1.sf (I.warm hd) h1,r1,q⟩
noncomputable def Ap(t:TS):TS:=fun D σ H=>∃d kvs,H d=some (.dK kvs)/\t {D with nx:=fun σ' H'=>∃o,H' d=some (.frz o (.dK kvs))/\D.nx σ' (upd H' d (.dK kvs))} σ H
theorem ps_thaw(h:PS X st ts):PS X st (Ap ts):=by
 intro pins s σ H D I hw;obtain⟨d,kvs,hd,hw⟩:=hw;refine da (h pins s σ H _ I hw) (fun f s1 z=>?_) fun _ _ z=>z;cases f with
 |next =>
  obtain⟨σ',H',I',o,h1,q⟩:=z;exact⟨σ',_,I'.sf (I.warm hd) h1,q⟩
 |_=>exact z
end
end L2
set_option genInjectivity false
set_option genSizeOf false
namespace R
open PySem PySem.Spec PyProof.Rows L2
inductive Bf where
 |len|isinstance|all|list|tuple|min|max|int|lenk|listk|dictl|dictc
 deriving DecidableEq
noncomputable def Bf.name:Bf->Str
 |.len=>"len" |.isinstance=>"isinstance" |.all=>"all" |.list=>"list" |.tuple=>"tuple" |.min=>"min" |.max=>"max" |.int=>"int" |.lenk=>"len" |.listk=>"list" |.dictl=>"dict" |.dictc=>"dict"
noncomputable def Bf.val:Bf->Value
 |.len=>.builtin "len" |.isinstance=>.builtin "isinstance" |.all=>.builtin "all" |.list=>.type "list" |.tuple=>.type "tuple" |.min=>.builtin "min" |.max=>.builtin "max" |.int=>.type "int" |.lenk=>.builtin "len" |.listk=>.type "list" |.dictl=>.type "dict" |.dictc=>.type "dict"
theorem Bf.boot:∀b:Bf,cW b.name=some b.val
 |.len=>PySem.boot_len|.isinstance=>boot_isinstance|.all=>boot_all|.list=>fc|.tuple=>ql
 |.min=>by decide+kernel|.max=>by decide+kernel|.int=>qL|.lenk=>PySem.boot_len|.listk=>fc|.dictl=>iE|.dictc=>iE
theorem Bf.plain:∀b:Bf,b.name≠"__name__"/\(b.name==("__debug__":Str))=false:=by
 intro b;cases b<;>exact⟨by decide+kernel,by decide+kernel⟩
inductive Ty where
 |int|bool|str|list|tuple|dict|valueError
 deriving DecidableEq
noncomputable def Ty.name:Ty->Str
 |.int=>"int" |.bool=>"bool" |.str=>"str" |.list=>"list" |.tuple=>"tuple" |.dict=>"dict" |.valueError=>"ValueError"
noncomputable def Ty.t:Ty->String
 |.int=>"int" |.bool=>"bool" |.str=>"str" |.list=>"list" |.tuple=>"tuple" |.dict=>"dict" |.valueError=>"ValueError"
theorem Ty.boot:∀b:Ty,cW b.name=some (.type b.t)
 |.int=>qL|.bool=>PyProof.Rows.boot_bool|.str=>PyProof.Rows.boot_str|.list=>fc|.tuple=>ql|.dict=>iE|.valueError=>by decide+kernel
theorem Ty.plain:∀b:Ty,b.name≠"__name__"/\(b.name==("__debug__":Str))=false:=by
 intro b;cases b<;>exact⟨by decide+kernel,by decide+kernel⟩
noncomputable def iI(K:aa):Operator->R2
 |.Add=>fun x y H Q=>(rI0 fun i j=>.int (i+j)) x y H Q\/(∃i j,x=.str i/\y=.str j/\i.length+j.length<=sizeLine/\Q (.str (i++j)) H)\/rCat x y H Q\/xl K x y H Q\/xm K x y H Q
 |.Sub=>rI0 fun i j=>.int (i-j)
 |.Mult=>fun x y H Q=>(rI w8 fun i j=>.int (i*j)) x y H Q\/rRep x y H Q\/AI x y H Q
 |.Mod=>rI (fun _ j=>0<j) fun i j=>.int (i%j)
 |.FloorDiv=>rI CDiv fun i j=>.int (i/j)
 |.Pow=>rI B7 fun i j=>.int (i^j.toNat)
 |.RShift=>rI (fun _ j=>0<=j) fun i j=>.int (i/2^j.toNat)
 |.LShift=>rI B7 fun i j=>.int (i*2^j.toNat)
 |.BitAnd=>rI0 fun i j=>.int (Builtin.bitAnd i j)
 |.BitXor=>rI0 fun i j=>.int (Builtin.bitXor i j)
 |_=>fun _ _ _ _=>False
noncomputable def fu(K:aa):CmpOp->R2
 |.Eq=>rEqD K
 |.NotEq=>rNeD K
 |.Lt=>rI0 fun i j=>.bl (decide (i<j))
 |.LtE=>rI0 fun i j=>.bl (decide (i<=j))
 |.Gt=>rI0 fun i j=>.bl (decide (j<i))
 |.GtE=>rI0 fun i j=>.bl (decide (j<=i))
 |.Is=>fun x y H Q=>y=.non/\Q (.bl (decide (x=.non))) H
 |.IsNot=>fun x y H Q=>y=.non/\Q (.bl (!decide (x=.non))) H
 |.In=>fun x y H Q=>((∃i j,x=.str i/\y=.str j/\Q (.bl (!(eQ j i 0 j.length 1).isEmpty)) H))\/rIn K false x y H Q
 |.NotIn=>fun x y H Q=>((∃i j,x=.str i/\y=.str j/\Q (.bl (!(!(eQ j i 0 j.length 1).isEmpty))) H))\/rIn K true x y H Q
noncomputable def rUn(K:aa):UnaryOp->V->Hp->VK->Prop
 |.USub=>rU fun i=>.int (-i)
 |_=>fun _ _ _=>False
noncomputable def rSlc(K:aa):V->Option Int->Option Int->Hp->VK->Prop:=fun x lo hi H Q=>rSlL K x lo hi H Q\/rSlS x lo hi H Q
noncomputable def rBf(K:aa):Bf->List V->Hp->VK->Prop
 |.len=>fun xs H Q=>(∃p ys,xs=[.ref p]/\(SqL K H p ys\/SqT K H p ys)/\Q (.int ys.length) H)\/(∃z:Str,xs=[.str z]/\z.length<=sizeLine/\Q (.int z.length) H)
 |.isinstance=>fun xs H Q=>(∃x T t b,xs=[x,.ty T]/\jn K H x t/\fI K t (.type T)=some b/\Q (.bl b) H)\/(∃x C t b,xs=[x,.ref C]/\jn K H x t/\fI K t (.ref C)=some b/\Q (.bl b) H)
 |.all=>fun xs H Q=>∃(p:Addr)(bs:List Bool),xs=[.ref p]/\SqL K H p (bs.map V.bl)/\Q (.bl (bs.all id)) H
 |.list=>fun xs H Q=>∃p ys,xs=[.ref p]/\(SqL K H p ys\/SqT K H p ys)/\∀l,H l=none->Q (.ref l) (upd H l (.lst ys))
 |.tuple=>fun xs H Q=>∃p ys,xs=[.ref p]/\((SqL K H p ys/\∀l,H l=none->Q (.ref l) (upd H l (.tup ys)))\/(SqT K H p ys/\Q (.ref p) H))
 |.min=>fun xs H Q=>∃i j,xs=[.int i,.int j]/\Q (.int (if j<i then j else i)) H
 |.max=>fun xs H Q=>∃i j,xs=[.int i,.int j]/\Q (.int (if j>i then j else i)) H
 |.int=>fun xs H Q=>(∃i,xs=[.int i]/\Q (.int i) H)\/∃k,xs=[.bl k]/\Q (.int (if k then 1 else 0)) H
 |.lenk=>fun xs H Q=>∃a kvs,xs=[V.ref a]/\Rd H a (.dK kvs)/\Q (.int kvs.length) H
 |.listk=>fun xs H Q=>∃a kvs,xs=[V.ref a]/\Rd H a (.dK kvs)/\∀l,H l=none->Q (.ref l) (upd H l (.lst (kvs.map fun kv=>kV kv.1)))
 |.dictl=>fun xs H Q=>∃a ys kvs,xs=[V.ref a]/\H a=some (.lst ys)/\Paired (fun y (kv:Key×V)=>∃p,y=V.ref p/\H p=some (.tup [kV kv.1,kv.2])) ys kvs/\(kvs.map (·.1)).Nodup/\∀l,H l=none->Q (.ref l) (upd H l (.dK kvs))
 |.dictc=>fun xs H Q=>∃a kvs,xs=[V.ref a]/\Rd H a (.dK kvs)/\∀l,H l=none->Q (.ref l) (upd H l (.dK kvs))
inductive Mm where
 |append|clear|reverse|pop|index|extend
 deriving DecidableEq
noncomputable def Mm.name:Mm->Str
 |.append=>"append" |.clear=>"clear" |.reverse=>"reverse" |.pop=>"pop" |.index=>"index" |.extend=>"extend"
noncomputable def Mm.id:Mm->String
 |.append=>"list.append" |.clear=>"list.clear" |.reverse=>"list.reverse" |.pop=>"list.pop" |.index=>"list.index" |.extend=>"list.extend"
noncomputable def rMm:Mm->V->List V->Hp->VK->Prop
 |.append=>xn
 |.clear=>fun _ _ _ _=>False
 |.reverse=>fun _ _ _ _=>False
 |.pop=>fun x xs H Q=>rPop x xs H Q\/AJ x xs H Q
 |.index=>fun _ _ _ _=>False
 |.extend=>xk
noncomputable def baseOk:Expr->Bool
 |.Name .. =>true|.Subscript .. =>true
 |_=>false
inductive X2 where
 |idxk|ink|nink|getk
 deriving DecidableEq
noncomputable def X2.t:X2->TE->TE->TE
 |.idxk=>z7
 |.ink=>tDIn
 |.nink=>ow
 |.getk=>vS
noncomputable def X2.tt:X2->TE->TE->TT
 |.ink=>fun a b=>oP (tDIn a b)
 |.nink=>fun a b=>oP (ow a b)
 |_=>fun _ _ _ _ _=>False
mutual
inductive CE where
 |var (i:Nat)
 |con (c:Const)
 |glo (x:Str)
 |ty (t:Ty)
 |bin (op:Operator) (a b:CE)
 |un (op:UnaryOp) (a:CE)
 |cmp (op:CmpOp) (a b:CE)
 |chain (op op':CmpOp) (a b c:CE)
 |not (a:CE)
 |and (a b:CE)
 |or (a b:CE)
 |ite (c a b:CE)
 |idx (a i:CE)
 |cut (a:CE) (lo hi:CO)
 |tup (es:CL)
 |lst (es:CL)
 |dic (ps:CP)
 |call (f:Str) (es:CL)
 |bfn (b:Bf) (es:CL)
 |meth0 (m:Mm) (o:CE)
 |meth1 (m:Mm) (o a:CE)
 |divb (a b:CE)
 |rev (a:CE)
 |sset (a:CE)
 |lrev (a:CE)
 |x2 (k:X2) (a b:CE)
 |get2 (o a b:CE)
 |sf (a:CE)
 |comp (own:List Str) (fr:List Nat) (tg:CG) (it:CI) (cond:CO) (elt:CE)
inductive CL where
 |nil
 |cons (e:CE) (es:CL)
inductive CP where
 |nil
 |cons (k v:CE) (r:CP)
inductive CO where
 |no
 |yes (e:CE)
inductive CG where
 |name (i:Nat)
 |tup (gs:CGs)
 |ltup (gs:CGs)
 |sub (o i:CE)
inductive CGs where
 |nil
 |cons (g:CG) (gs:CGs)
inductive CI where
 |seq (e:CE)
 |lseq (e:CE)
 |tseq (e:CE)
 |range1 (e:CE)
 |range2 (a b:CE)
 |zip (a b:CE)
 |dkeys (e:CE)
 |ditems (e:CE)
 |lrevd (e:CE)
end
noncomputable def CL.len:CL->Nat
 |.nil=>0
 |.cons _ r=>r.len+1
noncomputable def CGs.len:CGs->Nat
 |.nil=>0
 |.cons _ r=>r.len+1
mutual
inductive CS where
 |asg (g:CG) (e:CE)
 |asgc (i:Nat) (e:CE)
 |expr (e:CE)
 |iff (c:CE) (a b:CB)
 |whl (c:CE) (b:CB)
 |forr (g:CG) (it:CI) (b:CB)
 |ret (e:CE)
 |retN
 |pass|brk|cont
 |rais (x:Str) (es:CL)
 |putk (o i e:CE)
 |thawS (s:CS)
inductive CB where
 |nil
 |hole
 |cons (s:CS) (r:CB)
end
noncomputable def Bx(sc:Scope)(x:Str):Bool:=sc.names.lookup x==some .local||sc.names.lookup x==some .cell||sc.names.lookup x==some .free
noncomputable def kO(sc:Scope)(x:Str):Bool:=sc.names.lookup x==some .globalImplicit
noncomputable def q0(x:Str):Bool:=(x==("__debug__":Str))==false&&(x==("__classdict__":Str))==false
noncomputable def okCon:Const->Bool
 |.none=>true|.bool _=>true|.int _=>true|.str _=>true|_=>false
noncomputable def cv:Const->V
 |.none=>.non|.bool b=>.bl b|.int i=>.int i|.str x=>.str x|_=>.non
noncomputable def namesOf(N own:List Str)(fr:List Nat):List Str:=own++fr.map fun j=>N.getD j ""
noncomputable def iR(own:List Str)(fr:List Nat)(σ:L2.St):L2.St:=own.map (fun _=>none)++fr.map fun j=>(σ[j]?).getD none
noncomputable def iV:Expr->Bool
 |.Slice .. =>true
 |_=>false
noncomputable def isSet:Expr->Bool
 |.Set .. =>true
 |_=>false
noncomputable def mJ:Expr->Bool
 |.ListComp .. =>true|.SetComp .. =>true|.DictComp .. =>true
 |_=>false
noncomputable def jD:Expr->Bool
 |.Tuple .. =>true
 |_=>false
noncomputable def sS(sc sc':Scope)(N own:List Str)(fr:List Nat):Bool:=
 decide (sc'.kind=.function)&&sc'.names.all (fun y=>decide (y.2=.cell->sc'.names.lookup y.1=some .cell))&&sc'.names.all (fun y=>decide (y.2=.local->sc'.names.lookup y.1=some .local))&&
 sc'.names.all (fun y=>decide (y.2=.free->sc.names.lookup y.1=some .cell\/sc.names.lookup y.1=some .free))&&decide ((namesOf N own fr).Nodup)&&
 fr.all (fun j=>decide (j<N.length)&&sc'.names.lookup (N.getD j "")==some .free)&&own.all (fun x=>sc'.names.lookup x==some .local||sc'.names.lookup x==some .cell)
theorem cI{P:Prop}(h:false=true):P:=(aQ h).elim
theorem an{a b:Bool}(h:(a&&b)=true):a=true/\b=true:=by rwa [aN]at h
theorem mI{a:Bool}(h:(!a)=true):a=false:=by simpa using h
theorem fS{a b c:Bool}(h:(a&&b&&c)=true):a=true/\b=true/\c=true:=let⟨h,z⟩:=an h;let⟨x,y⟩:=an h;⟨x,y,z⟩
theorem j9{a b c d:Bool}(h:(a&&b&&c&&d)=true):a=true/\b=true/\c=true/\d=true:=let⟨h,z⟩:=an h;let⟨x,y,w⟩:=fS h;⟨x,y,w,z⟩
theorem and5{a b c d e:Bool}(h:(a&&b&&c&&d&&e)=true):a=true/\b=true/\c=true/\d=true/\e=true:=let⟨h,z⟩:=an h;let⟨x,y,w,v⟩:=j9 h;⟨x,y,w,v,z⟩
section
variable {e:Expr}{s:Stmt}
noncomputable def l1{α:Type}(l:List α)(f:α->Bool):Bool:=match l with
 |a::r=>r.isEmpty&&f a
 | []=>false
theorem gW{α:Type}{l:List α}{f:α->Bool}(h:l1 l f=true):∃a,l=[a]/\f a=true:=by
 cases l with
 |nil=>exact cI h
 |cons a r=>
  obtain⟨h1,h⟩:=an h;cases r with
  |nil=>exact⟨a,rfl,h⟩
  |cons=>exact cI h1
noncomputable def l2{α:Type}(l:List α)(f:α->α->Bool):Bool:=match l with
 |a::r=>l1 r (f a)
 | []=>false
theorem pA{α:Type}{l:List α}{f:α->α->Bool}(h:l2 l f=true):∃a b,l=[a,b]/\f a b=true:=by
 cases l with
 |nil=>exact cI h
 |cons a r=>
  obtain⟨b,rfl,h⟩:=gW h;exact⟨a,b,rfl,h⟩
noncomputable def dNm(e:Expr)(f:Str->Pos->Bool):Bool:=match e with
 |.Name x p=>f x p
 |_=>false
theorem iX{f}(h:dNm e f=true):∃x p,e=.Name x p/\f x p=true:=by cases e<;>first |exact⟨_,_,rfl,h⟩ |exact cI h
noncomputable def dCn(e:Expr)(f:Const->Bool):Bool:=match e with
 |.Constant c _ _=>f c
 |_=>false
theorem wL{f}(h:dCn e f=true):∃c j p,e=.Constant c j p/\f c=true:=by cases e<;>first |exact⟨_,_,_,rfl,h⟩ |exact cI h
noncomputable def dBi(e:Expr)(f:Expr->Operator->Expr->Bool):Bool:=match e with
 |.BinOp a op b _=>f a op b
 |_=>false
theorem BS{f}(h:dBi e f=true):∃a op b p,e=.BinOp a op b p/\f a op b=true:=by cases e<;>first |exact⟨_,_,_,_,rfl,h⟩ |exact cI h
noncomputable def dUn(e:Expr)(f:UnaryOp->Expr->Bool):Bool:=match e with
 |.UnaryOp op a _=>f op a
 |_=>false
theorem tu{f}(h:dUn e f=true):∃op a p,e=.UnaryOp op a p/\f op a=true:=by cases e<;>first |exact⟨_,_,_,rfl,h⟩ |exact cI h
noncomputable def dCm(e:Expr)(f:Expr->List CmpOp->List Expr->Bool):Bool:=match e with
 |.Compare a os es _=>f a os es
 |_=>false
theorem wM{f}(h:dCm e f=true):∃a os es p,e=.Compare a os es p/\f a os es=true:=by cases e<;>first |exact⟨_,_,_,_,rfl,h⟩ |exact cI h
noncomputable def dC1(e:Expr)(f:Expr->CmpOp->Expr->Bool):Bool:=dCm e fun a os es=>l1 os fun op=>l1 es fun b=> !isSet b&&f a op b
theorem mO{f}(h:dC1 e f=true):∃a op b p,e=.Compare a [op] [b] p/\isSet b=false/\f a op b=true:=by
 obtain⟨a,os,es,p,rfl,k⟩:=wM h;obtain⟨op,rfl,l⟩:=gW k;obtain⟨b,rfl,m⟩:=gW l;obtain⟨h1,n⟩:=an m;exact⟨a,op,b,p,rfl,mI h1,n⟩
noncomputable def dBo(e:Expr)(f:BoolOp->Expr->Expr->Bool):Bool:=match e with
 |.BoolOp op es p=>match es with
  |a::r=>match r with
   |b::r=>match r with
    | []=>f op a b
    |c::r=>f op a (.BoolOp op (b::c::r) p)
   | []=>false
  | []=>false
 |_=>false
theorem mP{f}(h:dBo e f=true):∃op a x p,f op a x=true/\(e=.BoolOp op [a,x] p\/∃b c r,x=.BoolOp op (b::c::r) p/\e=.BoolOp op (a::b::c::r) p):=by
 cases e<;>first |exact cI h|skip
 rename_i op es p;cases es with
 |nil=>exact cI h
 |cons a r=>cases r with
  |nil=>exact cI h
  |cons b r=>cases r with
   |nil=>exact⟨op,a,b,p,h,.inl rfl⟩
   |cons c r=>exact⟨op,a,_,p,h,.inr ⟨b,c,r,rfl,rfl⟩⟩
noncomputable def dIf(e:Expr)(f:Expr->Expr->Expr->Bool):Bool:=match e with
 |.IfExp c a b _=>f c a b
 |_=>false
theorem dIf_of{f}(h:dIf e f=true):∃c a b p,e=.IfExp c a b p/\f c a b=true:=by cases e<;>first |exact⟨_,_,_,_,rfl,h⟩ |exact cI h
noncomputable def dSu(e:Expr)(f:Expr->Expr->Bool):Bool:=match e with
 |.Subscript a i _=>f a i
 |_=>false
theorem kR{f}(h:dSu e f=true):∃a i p,e=.Subscript a i p/\f a i=true:=by cases e<;>first |exact⟨_,_,_,rfl,h⟩ |exact cI h
noncomputable def dSl(e:Expr)(f:Option Expr->Option Expr->Option Expr->Bool):Bool:=match e with
 |.Slice a b c _=>f a b c
 |_=>false
theorem BO{f}(h:dSl e f=true):∃a b c p,e=.Slice a b c p/\f a b c=true:=by cases e<;>first |exact⟨_,_,_,_,rfl,h⟩ |exact cI h
noncomputable def dTu(e:Expr)(f:List Expr->Bool):Bool:=match e with
 |.Tuple es _ _=>f es
 |_=>false
theorem wJ{f}(h:dTu e f=true):∃es k p,e=.Tuple es k p/\f es=true:=by cases e<;>first |exact⟨_,_,_,rfl,h⟩ |exact cI h
noncomputable def dLi(e:Expr)(f:List Expr->Bool):Bool:=match e with
 |.List es _=>f es
 |_=>false
theorem dLi_of{f}(h:dLi e f=true):∃es p,e=.List es p/\f es=true:=by cases e<;>first |exact⟨_,_,rfl,h⟩ |exact cI h
noncomputable def dDi(e:Expr)(f:List (Option Expr)->List Expr->Bool):Bool:=match e with
 |.Dict ks vs _=>f ks vs
 |_=>false
theorem dDi_of{f}(h:dDi e f=true):∃ks vs p,e=.Dict ks vs p/\f ks vs=true:=by cases e<;>first |exact⟨_,_,_,rfl,h⟩ |exact cI h
noncomputable def dCa(e:Expr)(f:Expr->List Expr->Pos->Bool):Bool:=match e with
 |.Call g es ks p=>ks.isEmpty&&f g es p
 |_=>false
theorem BR{f}(h:dCa e f=true):∃g es p,e=.Call g es [] p/\f g es p=true:=by
 cases e<;>first |exact cI h|skip
 rename_i g es ks p;obtain⟨h1,h⟩:=an h;cases ks with
 |nil=>exact⟨g,es,p,rfl,h⟩
 |cons=>exact cI h1
noncomputable def dFn(e:Expr)(f:Str->List Expr->Bool):Bool:=dCa e fun g es _=>dNm g fun x _=>f x es
theorem gJ{f}(h:dFn e f=true):∃x np es p,e=.Call (.Name x np) es [] p/\f x es=true:=by
 obtain⟨g,es,p,rfl,k⟩:=BR h;obtain⟨x,np,rfl,l⟩:=iX k;exact⟨x,np,es,p,rfl,l⟩
noncomputable def dAt(e:Expr)(f:Expr->Str->Pos->Bool):Bool:=match e with
 |.Attribute a x p=>f a x p
 |_=>false
theorem dAt_of{f}(h:dAt e f=true):∃a x p,e=.Attribute a x p/\f a x p=true:=by cases e<;>first |exact⟨_,_,_,rfl,h⟩ |exact cI h
noncomputable def dMt(m:Str)(e:Expr)(f:Expr->List Expr->Bool):Bool:=dCa e fun g es cp=>dAt g fun o m' ap=>decide (m=m')&&(ap.endLine==cp.line)&&f o es
theorem pN{m:Str}{f}(h:dMt m e f=true):∃o ap es cp,e=.Call (.Attribute o m ap) es [] cp/\(ap.endLine==cp.line)=true/\f o es=true:=by
 obtain⟨g,es,cp,rfl,k⟩:=BR h;obtain⟨o,m',ap,rfl,l⟩:=dAt_of k;obtain⟨h1,h2,n⟩:=fS l;cases of_decide_eq_true h1;exact⟨o,ap,es,cp,rfl,h2,n⟩
noncomputable def dLc(e:Expr)(f:Expr->List Comprehension->Scope->Pos->Bool):Bool:=match e with
 |.ListComp a gs sc p=>f a gs sc p
 |_=>false
theorem wK{f}(h:dLc e f=true):∃a gs sc p,e=.ListComp a gs sc p/\f a gs sc p=true:=by cases e<;>first |exact⟨_,_,_,_,rfl,h⟩ |exact cI h
noncomputable def dJs(e:Expr)(f:List Expr->Bool):Bool:=match e with
 |.JoinedStr es _=>f es
 |_=>false
noncomputable def dFv(e:Expr)(f:Expr->Int->Option Expr->Bool):Bool:=match e with
 |.FormattedValue a c s _=>f a c s
 |_=>false
noncomputable def dAs(s:Stmt)(f:Expr->Expr->Pos->Bool):Bool:=match s with
 |.Assign ts e p=>l1 ts fun g=>f g e p
 |_=>false
theorem wN{f}(h:dAs s f=true):∃g e p,s=.Assign [g] e p/\f g e p=true:=by
 cases s<;>first |exact cI h|skip
 obtain⟨g,rfl,h⟩:=gW h;exact⟨g,_,_,rfl,h⟩
noncomputable def dEx(s:Stmt)(f:Expr->Bool):Bool:=match s with
 |.Expr e _=>f e
 |_=>false
theorem dEx_of{f}(h:dEx s f=true):∃e p,s=.Expr e p/\f e=true:=by cases s<;>first |exact⟨_,_,rfl,h⟩ |exact cI h
noncomputable def dIs(s:Stmt)(f:Expr->List Stmt->List Stmt->Bool):Bool:=match s with
 |.If c a b _=>f c a b
 |_=>false
theorem dIs_of{f}(h:dIs s f=true):∃c a b p,s=.If c a b p/\f c a b=true:=by cases s<;>first |exact⟨_,_,_,_,rfl,h⟩ |exact cI h
noncomputable def dWh(s:Stmt)(f:Expr->List Stmt->Bool):Bool:=match s with
 |.While c a b _=>b.isEmpty&&f c a
 |_=>false
theorem dWh_of{f}(h:dWh s f=true):∃c a p,s=.While c a [] p/\f c a=true:=by
 cases s<;>first |exact cI h|skip
 rename_i c a b p;obtain⟨h1,h⟩:=an h;cases b with
 |nil=>exact⟨c,a,p,rfl,h⟩
 |cons=>exact cI h1
noncomputable def dFo(s:Stmt)(f:Expr->Expr->List Stmt->Bool):Bool:=match s with
 |.For g i a b _=>b.isEmpty&&f g i a
 |_=>false
theorem dFo_of{f}(h:dFo s f=true):∃g i a p,s=.For g i a [] p/\f g i a=true:=by
 cases s<;>first |exact cI h|skip
 rename_i g i a b p;obtain⟨h1,h⟩:=an h;cases b with
 |nil=>exact⟨g,i,a,p,rfl,h⟩
 |cons=>exact cI h1
noncomputable def dRt(s:Stmt)(f:Option Expr->Bool):Bool:=match s with
 |.Return e _=>f e
 |_=>false
theorem BP{f}(h:dRt s f=true):∃e p,s=.Return e p/\f e=true:=by cases s<;>first |exact⟨_,_,rfl,h⟩ |exact cI h
noncomputable def dRa(s:Stmt)(f:Str->List Expr->Bool):Bool:=match s with
 |.Raise e c _=>match e with
  |some e=>c.isNone&&dFn e f
  |none=>false
 |_=>false
theorem dRa_of{f}(h:dRa s f=true):∃x np es cp p,s=.Raise (some (.Call (.Name x np) es [] cp)) none p/\f x es=true:=by
 cases s<;>first |exact cI h|skip
 rename_i e c p;cases e with
 |none=>exact cI h
 |some e=>
  obtain⟨h1,k⟩:=an h;obtain⟨x,np,es,cp,rfl,l⟩:=gJ k;cases c with
  |none=>exact⟨x,np,es,cp,p,rfl,l⟩
  |some=>exact cI h1
noncomputable def dTr(s:Stmt)(f:List Stmt->Str->Str->List Stmt->Bool):Bool:=match s with
 |.Try b hs o r _=>o.isEmpty&&r.isEmpty&&l1 hs fun h=>match h with
  |.ExceptHandler t n ss _=>match t with
   |some t=>match n with
    |some n=>dNm t fun x _=>f b x n ss
    |none=>false
   |none=>false
 |_=>false
theorem dTr_of{f}(h:dTr s f=true):∃b x np n ss hp p,s=.Try b [.ExceptHandler (some (.Name x np)) (some n) ss hp] [] [] p/\f b x n ss=true:=by
 cases s<;>first |exact cI h|skip
 rename_i b hs o r p;obtain⟨h1,h2,k⟩:=fS h;obtain⟨⟨t,n,ss,hp⟩,rfl,l⟩:=gW k;cases o with
 |cons=>exact cI h1
 |nil=>cases r with
  |cons=>exact cI h2
  |nil=>cases t with
   |none=>exact cI l
   |some t=>cases n with
    |none=>exact cI l
    |some n=>
     obtain⟨x,np,rfl,m⟩:=iX l;exact⟨b,x,np,n,ss,hp,p,rfl,m⟩
end
noncomputable def u1{α:Type}(l:List α)(f:α->List α->Bool):Bool:=match l with
 |a::r=>f a r
 | []=>false
theorem uj{α:Type}{l:List α}{f:α->List α->Bool}(h:u1 l f=true):∃a r,l=a::r/\f a r=true:=by
 cases l with
 |nil=>exact cI h
 |cons a r=>exact⟨a,r,rfl,h⟩
noncomputable def om{α:Type}(o:Option α)(f:α->Bool):Bool:=match o with
 |some x=>f x
 |none=>false
theorem xu{α:Type}{o:Option α}{f:α->Bool}(h:om o f=true):∃x,o=some x/\f x=true:=by
 cases o with
 |none=>exact cI h
 |some x=>exact⟨x,rfl,h⟩
theorem nil_of{α:Type}{l:List α}(h:l.isEmpty=true):l=[]:=List.isEmpty_iff.mp h
noncomputable def dFF(f g:Str)(sc:Scope)(e:Expr)(k:Expr->Bool):Bool:=dFn e fun f' es=>l1 es fun x=>dFn x fun g' es=>l1 es fun a=>decide (f'=f)&&decide (g'=g)&&kO sc f&&kO sc g&&k a
theorem BQ{f g:Str}{sc:Scope}{e:Expr}{k}(h:dFF f g sc e k=true):∃p a q r t,e=.Call (.Name f p) [.Call (.Name g q) [a] [] r] [] t/\kO sc f=true/\kO sc g=true/\k a=true:=by
 obtain⟨_,p,_,t,rfl,i⟩:=gJ h;obtain⟨x,rfl,j⟩:=gW i;obtain⟨_,q,_,r,rfl,l⟩:=gJ j;obtain⟨a,rfl,m⟩:=gW l;obtain⟨h1,h2,h3,h4,n⟩:=and5 m;cases of_decide_eq_true h1;cases of_decide_eq_true h2;exact⟨p,a,q,r,t,rfl,h3,h4,n⟩
noncomputable def isX:Expr->Bool
 |.Subscript .. =>true|.Compare .. =>true|.Call .. =>true
 |_=>false
noncomputable def X2.d(k:X2)(e:Expr)(f:Expr->Expr->Bool):Bool:=isX e&&match k with
 |.idxk=>dSu e fun a i=> !iV i&&f a i
 |.ink=>dC1 e fun a op b=>decide (op=.In)&&f a b
 |.nink=>dC1 e fun a op b=>decide (op=.NotIn)&&f a b
 |.getk=>dMt (cP "get") e fun o es=>l1 es fun a=>baseOk o&&f o a
noncomputable def isM1(e:Expr):Bool:=dUn e fun op c=>decide (op=.USub)&&dCn c fun k=>decide (k=.int 1)
noncomputable def mBase(e:Expr):Bool:=(dNm e fun _ _=>true)||(dFn e fun _ es=> !es.isEmpty)
mutual
noncomputable def cb(sc:Scope)(N:List Str):CE->Expr->Bool
 |.var i,e=>dNm e fun x _=>N[i]? ==some x&&Bx sc x&&q0 x
 |.con c,e=>dCn e fun c'=>okCon c&&decide (c=c')
 |.glo x,e=>dNm e fun y _=>decide (x=y)&&kO sc x&&q0 x
 |.ty t,e=>dNm e fun y _=>decide (t.name=y)&&kO sc y
 |.bin op a b,e=>dBi e fun a' op' b'=>decide (op=op')&&cb sc N a a'&&cb sc N b b'
 |.un op a,e=>dUn e fun op' a'=>decide (op=op')&&cb sc N a a'
 |.cmp op a b,e=>dC1 e fun a' op' b'=>decide (op=op')&&cb sc N a a'&&cb sc N b b'
 |.chain o1 o2 a b c,e=>dCm e fun a' os es=>l2 os fun p q=>l2 es fun b' c'=>decide (o1=p)&&decide (o2=q)&& !isSet c'&&(cb sc N a a'&&cb sc N b b'&&cb sc N c c')
 |.not a,e=>dUn e fun op a'=>decide (op=.Not)&&cb sc N a a'
 |.and a b,e=>dBo e fun op a' x=>decide (op=.And)&&cb sc N a a'&&cb sc N b x
 |.or a b,e=>dBo e fun op a' x=>decide (op=.Or)&&cb sc N a a'&&cb sc N b x
 |.ite c a b,e=>dIf e fun c' a' b'=>cb sc N c c'&&cb sc N a a'&&cb sc N b b'
 |.idx a i,e=>dSu e fun a' i'=> !iV i'&&cb sc N a a'&&cb sc N i i'
 |.cut a lo hi,e=>dSu e fun a' s=>dSl s fun l u t=>t.isNone&&cb sc N a a'&&(chkO sc N lo l&&chkO sc N hi u)
 |.tup es,e=>dTu e fun es'=>mR sc N es es'
 |.lst es,e=>dLi e fun es'=>mR sc N es es'
 |.dic ps,e=>dDi e fun ks vs=>decide (ks.length<=15)&&chkP sc N ps ks vs
 |.call f es,e=>dFn e fun f' es'=>decide (f=f')&&kO sc f&&q0 f&&mR sc N es es'
 |.bfn b es,e=>dFn e fun f' es'=>decide (b.name=f')&&kO sc f'&& !es'.isEmpty&&mR sc N es es'
 |.meth0 m o,e=>dMt m.name e fun o' es=>es.isEmpty&&baseOk o'&&cb sc N o o'
 |.meth1 m o a,e=>dMt m.name e fun o' es=>l1 es fun a'=>baseOk o'&&cb sc N o o'&&cb sc N a a'
 |.divb a b,e=>dBi e fun a' op' b'=>decide (op'=.FloorDiv)&&cb sc N a a'&&cb sc N b b'
 |.rev a,e=>dSu e fun a' s=>dSl s fun x y z=>x.isNone&&y.isNone&&(om z isM1&&cb sc N a a')
 |.sset a,e=>dFF "sorted" "set" sc e (cb sc N a)
 |.lrev a,e=>dFF "list" "reversed" sc e (cb sc N a)
 |.x2 k a b,e=>k.d e fun a' b'=>cb sc N a a'&&cb sc N b b'
 |.sf a,e=>mJ e&&cb sc N a e
 |.get2 o a b,e=>dMt (cP "get") e fun o' es=>l2 es fun a' b'=>baseOk o'&&cb sc N o o'&&(cb sc N a a'&&cb sc N b b')
 |.comp own fr tg it cond elt,e=>dLc e fun elt' gs sc' _=>l1 gs fun g=>decide (g.is_async=0)&&sS sc sc' N own fr&& !isSet g.iter&&(chkI sc N it g.iter g.target&&ve sc' (namesOf N own fr) false tg g.target&&chkC sc' (namesOf N own fr) cond g.ifs&&cb sc' (namesOf N own fr) elt elt')
noncomputable def mR(sc:Scope)(N:List Str):CL->List Expr->Bool
 |.nil,es=>es.isEmpty
 |.cons e r,es=>u1 es fun e' r'=>cb sc N e e'&&mR sc N r r'
noncomputable def chkP(sc:Scope)(N:List Str):CP->List (Option Expr)->List Expr->Bool
 |.nil,ks,vs=>ks.isEmpty&&vs.isEmpty
 |.cons k v r,ks,vs=>u1 ks fun k' ks'=>u1 vs fun v' vs'=>om k' fun k'=>cb sc N k k'&&cb sc N v v'&&chkP sc N r ks' vs'
noncomputable def chkO(sc:Scope)(N:List Str):CO->Option Expr->Bool
 |.no,o=>o.isNone
 |.yes e,o=>om o (cb sc N e)
noncomputable def chkC(sc:Scope)(N:List Str):CO->List Expr->Bool
 |.no,o=>o.isEmpty
 |.yes e,o=>l1 o (cb sc N e)
noncomputable def ve(sc:Scope)(N:List Str)(all:Bool):CG->Expr->Bool
 |.name i,e=>dNm e fun x _=>N[i]? ==some x&&(sc.names.lookup x==some .local||sc.names.lookup x==some .cell)
 |.tup gs,e=>dTu e fun es=>nj sc N all gs es
 |.ltup gs,e=>dTu e fun es=>nj sc N all gs es
 |.sub o i,e=>dSu e fun o' i'=> !iV i'&&cb sc N o o'&&cb sc N i i'
noncomputable def nj(sc:Scope)(N:List Str)(all:Bool):CGs->List Expr->Bool
 |.nil,es=>es.isEmpty
 |.cons g gs,es=>u1 es fun e' es'=>ve sc N all g e'&&nj sc N all gs es'
noncomputable def chkI(sc:Scope)(N:List Str):CI->Expr->Expr->Bool
 |.seq e,e',_=>cb sc N e e'
 |.lseq e,e',_=>cb sc N e e'
 |.tseq e,e',_=>cb sc N e e'
 |.range1 e,x,_=>dFn x fun f es=>l1 es fun e'=>decide (f="range")&&kO sc f&&cb sc N e e'
 |.range2 a b,x,_=>dFn x fun f es=>l2 es fun a' b'=>decide (f="range")&&kO sc f&&cb sc N a a'&&cb sc N b b'
 |.zip a b,x,tg'=>dFn x fun f es=>l2 es fun a' b'=>decide (f="zip")&&kO sc f&&cb sc N a a'&&cb sc N b b'&&jD tg'
 |.dkeys e,e',_=>cb sc N e e'
 |.ditems e,x,tg'=>dMt (cP "items") x fun o es=>es.isEmpty&&baseOk o&&cb sc N e o&&jD tg'
 |.lrevd e,x,_=>dFn x fun f es=>l1 es fun e'=>decide (f="reversed")&&kO sc f&&cb sc N e e'
end
noncomputable def isCe:CE->Bool
 |.comp .. =>true
 |_=>false
mutual
noncomputable def chkS(sc:Scope)(N:List Str):CS->Stmt->Bool
 |.asg g e,s=>dAs s fun g' e' _=>ve sc N true g g'&&cb sc N e e'&& !mJ e'&& !(jD g'&&jD e')
 |.asgc i e,s=>isCe e&&dAs s fun g e' _=>dNm g fun x p=>dLc e' fun a b c d=>N[i]? ==some x&&(sc.names.lookup x==some .local||sc.names.lookup x==some .cell)&&cb sc N e (.ListComp a b c d)&&
   (sc.names.lookup x==some .cell||(decide (p.line=d.line)&& !(c.names.any fun y=>decide (y.1=x)&&(decide (y.2=.local)||decide (y.2=.cell)))))
 |.expr e,s=>dEx s fun e'=>cb sc N e e'&& !mJ e'
 |.iff c a b,s=>dIs s fun c' a' b'=>cb sc N c c'&&oa sc N a a'&&oa sc N b b'
 |.whl c b,s=>dWh s fun c' b'=>cb sc N c c'&&oa sc N b b'
 |.forr g it b,s=>dFo s fun g' it' b'=>ve sc N true g g'&&chkI sc N it it' g'&& !isSet it'&&oa sc N b b'
 |.ret e,s=>dRt s fun o=>om o (cb sc N e)
 |.retN,s=>dRt s fun o=>o.isNone
 |.rais x es,s=>dRa s fun x' es'=>decide (x=x')&&kO sc x&&q0 x&&(!es'.isEmpty&&mR sc N es es')
 |.thawS c,s=>chkS sc N c s
 |.putk o i e,s=>dAs s fun g e' _=>dSu g fun o' i'=>cb sc N o o'&&cb sc N i i'&&cb sc N e e'&& !mJ e'
 |.pass,s=>match s with
  |.Pass _=>true
  |_=>false
 |.brk,s=>match s with
  |.Break _=>true
  |_=>false
 |.cont,s=>match s with
  |.Continue _=>true
  |_=>false
noncomputable def oa(sc:Scope)(N:List Str):CB->List Stmt->Bool
 |.hole,_=>true
 |.nil,ss=>ss.isEmpty
 |.cons s r,ss=>u1 ss fun s' r'=>chkS sc N s s'&&oa sc N r r'
end
structure Gam where
 val:Str->Option V
 fn:Str->Nat->Option (Sp×List V)
 ini:Str->Nat->Option (Addr×Sp×List V)
 dic:Addr->Option (List (Key×V))
 mak:Str->Nat->Option (Addr×Sp×List V)
 mth:Str->Nat->Option (Addr×Sp×List V)
noncomputable def wF(K:aa)(tl:TE):TI:=fun σ H R=>tl σ H fun x H1=>(∃a,x=.ref a/\(∃xs,SqL K H1 a xs)/\R (Itl K a) H1)\/(∃a,x=.ref a/\(∃xs,SqT K H1 a xs)/\R (Itt K a) H1)\/(∃z,x=.str z/\R (Its z) H1)
noncomputable def vQ(K:aa)(t:TE):TT:=fun σ H Q=>t σ H fun x H1=>∃k,TruV K x H1 k/\Q k H1
mutual
noncomputable def wpE(G:Gam)(K:aa)(E:XS):CE->TE
 |.var i=>nV i
 |.con c=>tC (cv c)
 |.glo x=>fun σ H Q=>∃v,G.val x=some v/\Q v H
 |.ty t=>tC (.ty t.t)
 |.bin op a b=>tOp (iI K op) (wpE G K E a) (wpE G K E b)
 |.un op a=>tUn (rUn K op) (wpE G K E a)
 |.cmp op a b=>tOp (fu K op) (wpE G K E a) (wpE G K E b)
 |.chain o1 o2 a b c=>oS (fu K o1) (fu K o2) (wpE G K E a) (wpE G K E b) (wpE G K E c)
 |.not a=>zX (wpE G K E a)
 |.and a b=>z9 (wpE G K E a) (wpE G K E b)
 |.or a b=>tOrV (wpE G K E a) (wpE G K E b)
 |.ite c a b=>tIf (wpT G K E c) (wpE G K E a) (wpE G K E b)
 |.idx a i=>tOp (rIx K) (wpE G K E a) (wpE G K E i)
 |.cut a lo hi=>tSl (rSlc K) (wpE G K E a) (wpO G K E lo) (wpO G K E hi)
 |.tup es=>tTup (wpL G K E es)
 |.lst es=>tLst (wpL G K E es)
 |.dic ps=>fun σ H Q=>(ps=.nil/\z0 σ H Q)\/(ps≠.nil/\tDisp (wpP G K E ps) σ H Q)
 |.call f es=>fun σ H Q=>∃sp dvs,G.fn f es.len=some (sp,dvs)/\um sp dvs (E σ) (wpL G K E es) σ H Q
 |.bfn b es=>tCB (rBf K b) (wpL G K E es)
 |.meth0 m o=>tBM0 K "list" (rMm m) (wpE G K E o)
 |.meth1 m o a=>tBM K "list" (rMm m) (wpE G K E o) (i9 (wpE G K E a) oQ)
 |.divb a b=>tOp rDivB (wpE G K E a) (wpE G K E b)
 |.rev a=>tRev K (wpE G K E a)
 |.sset a=>mD K (i9 (wpE G K E a) oQ)
 |.lrev a=>zY K (i9 (wpE G K E a) oQ)
 |.x2 k a b=>k.t (wpE G K E a) (wpE G K E b)
 |.sf a=>zU (wpE G K E a)
 |.get2 o a b=>vR (wpE G K E o) (wpE G K E a) (wpE G K E b)
 |.comp own fr tg it cond elt=>oR (wpI G K E it) (wpG G K N0 tg) (wpC G K N0 cond) (wpE G K N0 elt) (iR own fr)
noncomputable def wpT(G:Gam)(K:aa)(E:XS):CE->TT
 |.cmp op a b=>oP (tOp (fu K op) (wpE G K E a) (wpE G K E b))
 |.chain o1 o2 a b c=>oP (oS (fu K o1) (fu K o2) (wpE G K E a) (wpE G K E b) (wpE G K E c))
 |.not a=>tNot (wpT G K E a)
 |.and a b=>tAnd (wpT G K E a) (wpT G K E b)
 |.or a b=>tOr (wpT G K E a) (wpT G K E b)
 |.ite _ _ _=>fun _ _ _=>False
 |.var i=>vQ K (nV i)
 |.con c=>vQ K (tC (cv c))
 |.glo x=>vQ K (fun σ H Q=>∃v,G.val x=some v/\Q v H)
 |.idx a i=>vQ K (tOp (rIx K) (wpE G K E a) (wpE G K E i))
 |.call f es=>vQ K (fun σ H Q=>∃sp dvs,G.fn f es.len=some (sp,dvs)/\um sp dvs (E σ) (wpL G K E es) σ H Q)
 |.bfn b es=>vQ K (tCB (rBf K b) (wpL G K E es))
 |.x2 k a b=>k.tt (wpE G K E a) (wpE G K E b)
 |_=>fun _ _ _=>False
noncomputable def wpL(G:Gam)(K:aa)(E:XS):CL->TA
 |.nil=>oQ
 |.cons e es=>i9 (wpE G K E e) (wpL G K E es)
noncomputable def wpP(G:Gam)(K:aa)(E:XS):CP->List (TE×TE)
 |.nil=>[]
 |.cons k v r=>(wpE G K E k,wpE G K E v)::wpP G K E r
noncomputable def wpO(G:Gam)(K:aa)(E:XS):CO->TO
 |.no=>si
 |.yes e=>zW (wpE G K E e)
noncomputable def wpC(G:Gam)(K:aa)(E:XS):CO->TT
 |.no=>yb
 |.yes e=>wpT G K E e
noncomputable def wpG(G:Gam)(K:aa)(E:XS):CG->TG
 |.name i=>lK i
 |.tup gs=>gTup K gs.len (zL G K E gs)
 |.ltup gs=>gLst K gs.len (zL G K E gs)
 |.sub o i=>gSub (wpE G K E o) (wpE G K E i) rSetL
noncomputable def zL(G:Gam)(K:aa)(E:XS):CGs->TGs
 |.nil=>gNil
 |.cons g gs=>u4 (wpG G K E g) (zL G K E gs)
noncomputable def wpI(G:Gam)(K:aa)(E:XS):CI->TI
 |.seq e=>wF K (wpE G K E e)
 |.lseq e=>BB K (wpE G K E e)
 |.tseq e=>iTup K (wpE G K E e)
 |.range1 e=>BA (i9 (wpE G K E e) oQ)
 |.range2 a b=>Bz (i9 (wpE G K E a) (i9 (wpE G K E b) oQ))
 |.zip a b=>iZip K (i9 (wpE G K E a) (i9 (wpE G K E b) oQ))
 |.dkeys e=>BC (wpE G K E e)
 |.ditems e=>wD (wpE G K E e)
 |.lrevd e=>iRev K (i9 (wpE G K E e) oQ)
end
mutual
noncomputable def wpS(G:Gam)(K:aa)(E:XS):CS->TS
 |.asg g e=>yc (wpE G K E e) (wpG G K E g)
 |.asgc i e=>yc (wpE G K E e) (lK i)
 |.expr e=>zZ (wpE G K E e)
 |.iff c a b=>tIfS (wpT G K E c) (wpB G K E a) (wpB G K E b)
 |.whl c b=>zT (wpT G K E c) (wpB G K E b)
 |.forr g it b=>tFor (wpI G K E it) (wpG G K E g) (wpB G K E b)
 |.ret e=>tRet (wpE G K E e)
 |.retN=>zV
 |.rais x es=>fun D σ H=>∃C,G.val x=some (.ref C)/\bW K (.ref C)=true/\PySem.W.excIn K C bmV "ValueError.__new__"=true/\wpL G K E es σ H fun vs H1=>vs.length<=sizeLine/\E σ (.ref C) none H1
 |.thawS c=>Ap (wpS G K E c)
 |.putk o i e=>AF (wpE G K E o) (wpE G K E i) (wpE G K E e)
 |.pass=>uk
 |.brk=>z8
 |.cont=>tCont
noncomputable def wpB(G:Gam)(K:aa)(E:XS):CB->TS
 |.nil=>uk
 |.hole=>fun _ _ _=>False
 |.cons s r=>tSeq (wpS G K E s) (wpB G K E r)
end
noncomputable abbrev Sat(G:Gam)(K:aa)(sp:Sp)(c:CB)(N:List Str):Prop:=∀vs H Q E,sp vs H Q E->wpB G K (fun _=>E) c {nx:=fun _ H'=>Q .non H',rt:=Q} (L2.start N vs) H
noncomputable def gf:List Str:=["len","isinstance","all","any","list","tuple","int","bool","str","dict","range","enumerate","sorted","set","min","max","ValueError","sum","zip","reversed"]
structure Ok(CX:CXT)(G:Gam)(E:XS)(sc:Scope)(N:List Str)(all:Bool)(X:Cx):Prop where
 names:X.N=N
 top:all=true->X.stack=X.env::X.outer/\X.env.frame=some X.env.locals/\X.ex=[]
 nd:N.Nodup
 loc:∀x,sc.names.lookup x=some .local->X.env.scope.names.lookup x=some .local
 cel:∀x,sc.names.lookup x=some .cell->X.env.scope.names.lookup x=some .cell
 fre:∀x,sc.names.lookup x=some .free->X.env.scope.names.lookup x=some .cell\/X.env.scope.names.lookup x=some .free
 glo:∀x,sc.names.lookup x=some .globalImplicit->X.env.scope.names.lookup x=some .globalImplicit
 all:all=true->∀x,X.fn x=true
 own:∀x,sc.names.lookup x=some .cell->X.fn x=true
 calm:X.calm=true
 hu:X.A.units+50<cLine
 val:∀x v,G.val x=some v->∃u,X.mg x=some u/\RelV v u
 fn:∀x n sp dvs,G.fn x n=some (sp,dvs)->∃f fd ps ds k,gP X.prog X.w X.K X.mg X.base CX k f fd ps sp/\iC k X.A/\X.mg x=some (.ref f)/\bW X.K (.ref f)=true/\Binds X.K fd ps ds/\bC dvs ds
 ini:∀x n C sp dvs,G.ini x n=some (C,sp,dvs)->∃f fd ps ds k,MkX X.K C f/\gP X.prog X.w X.K X.mg X.base CX k f fd ps sp/\iC (k+1) X.A/\X.mg x=some (.ref C)/\Binds X.K fd ps ds/\bC dvs ds
 dic:∀a kvs,G.dic a=some kvs->DkIn X.prog X.w X.K a kvs
 mak:∀x n C sp dvs,G.mak x n=some (C,sp,dvs)->∃f fd ps ds k,Mk X.K C f/\gP X.prog X.w X.K X.mg X.base CX k f fd ps sp/\iC (k+1) X.A/\X.mg x=some (.ref C)/\Binds X.K fd ps ds/\bC dvs ds
 mth:∀m n C sp dvs,G.mth m n=some (C,sp,dvs)->∃f fd ps ds k,Cls X.K C/\Meth X.K C m f/\gP X.prog X.w X.K X.mg X.base CX k f fd ps sp/\iC k X.A/\Binds X.K fd ps ds/\bC dvs ds
 blt:∀x∈gf,X.mg x=none
 px:PassesOwn (model X.prog X.w) X.A X.env X.xe
 pass:vp CX X E
 made:MadeS X E
 madeX:B6 X E
 cx:CX=CXx X.prog X.w
theorem Bf.mem:∀b:Bf,b.name∈gf:=by intro b;cases b<;>decide+kernel
theorem Ty.mem:∀b:Ty,b.name∈gf:=by intro b;cases b<;>decide+kernel
section
variable {CX:CXT}{G:Gam}{E:XS}{sc:Scope}{N:List Str}{all:Bool}{X:Cx}
theorem Ok.vis(o:Ok CX G E sc N all X){x:Str}(h:Bx sc x=true):Vis X.env.scope x:=by
 unfold Bx at h;rw[cX,cX,beq_iff_eq,beq_iff_eq,beq_iff_eq]at h;rcases h with(h|h) |h
 ·exact .inl (o.loc x h)
 ·exact .inr (.inl (o.cel x h))
 ·rcases o.fre x h with q|q
  ·exact .inr (.inl q)
  ·exact .inr (.inr q)
theorem Ok.gl(o:Ok CX G E sc N all X){x:Str}(h:kO sc x=true):Gl X x:=by
 unfold kO at h;rw[beq_iff_eq]at h;exact o.glo x h
theorem jy{x:Str}(h:q0 x=true):(x==("__debug__":Str))=false/\(x==("__classdict__":Str))=false:=by
 unfold q0 at h;rw[aN,beq_iff_eq,beq_iff_eq]at h;exact h
theorem rBin_ok:∀op,OpR X (cO op) (iI X.K op)
 |.Add=>op_add.or (wm.or (op_cat.or (op_catT.or op_cat0)))
 |.Sub=>op_sub
 |.Mult=>op_mul.or (op_rep.or op_repS)
 |.Mod=>op_mod
 |.FloorDiv=>op_fdiv
 |.Pow=>op_pow
 |.RShift=>op_shr
 |.MatMult=>fun _ _ _ _ _ _ _ _ _ _ _ _ h=>h.elim
 |.Div=>fun _ _ _ _ _ _ _ _ _ _ _ _ h=>h.elim
 |.LShift=>op_shl
 |.BitOr=>fun _ _ _ _ _ _ _ _ _ _ _ _ h=>h.elim
 |.BitXor=>op_xor
 |.BitAnd=>op_and
theorem jQ(hu:X.A.units+50<cLine):∀op,OpR X (b9 op) (fu X.K op)
 |.Eq=>op_eqD (by omega)
 |.NotEq=>op_neD (by omega)
 |.Lt=>op_lt
 |.LtE=>op_le
 |.Gt=>op_gt
 |.GtE=>op_ge
 |.Is=>op_isN
 |.IsNot=>op_notN
 |.In=>yE.or yF
 |.NotIn=>sQ.or sR
theorem rUn_ok:∀op,UnR X (unaryOp op) (rUn X.K op)
 |.USub=>zN
 |.Not=>fun _ _ _ _ _ _ _ _ _ h=>h.elim
 |.UAdd=>fun _ _ _ _ _ _ _ _ _ h=>h.elim
 |.Invert=>fun _ _ _ _ _ _ _ _ _ h=>h.elim
theorem rSlc_ok:SlR X (rSlc X.K):=sl_list.or sl_str
theorem rBf_ok(hc:X.calm=true)(hu:X.A.units+50<cLine):∀b,eh X (Bf.val b) (rBf X.K b)
 |.len=>tF.or tE
 |.isinstance=>vg.or tG
 |.all=>BW hc
 |.list=>tD
 |.tuple=>qH
 |.min=>yY hc
 |.max=>yZ hc
 |.int=>za
 |.lenk=>y0
 |.listk=>wV hc
 |.dictl=>wW hc
 |.dictc=>wX
theorem Mm.slot:∀m:Mm,Slot "list" m.name m.id
 |.append=>PySem.F.slot_list_append|.clear=>PySem.F.slot_list_clear|.reverse=>PySem.F.slot_list_reverse|.pop=>PySem.F.slot_list_pop|.index=>PySem.F.slot_list_index|.extend=>PySem.F.slot_list_extend
theorem Mm.ty:∀m:Mm,typeOf (.builtin m.id)=pure (.type "method_descriptor")
 |.append=>PySem.F.type_list_append|.clear=>PySem.F.type_list_clear|.reverse=>PySem.F.type_list_reverse|.pop=>PySem.F.type_list_pop|.index=>PySem.F.type_list_index|.extend=>PySem.F.type_list_extend
theorem AK:∀m:Mm,MtR X m.id (rMm m)
 |.append=>yJ|.clear=>fun _ _ _ _ _ _ _ _ _ _ _ _ h=>h.elim|.reverse=>fun _ _ _ _ _ _ _ _ _ _ _ _ h=>h.elim|.pop=>MtR.or mt_pop Bn|.index=>fun _ _ _ _ _ _ _ _ _ _ _ _ h=>h.elim|.extend=>yI
theorem l9{o:Expr}(h:baseOk o=true)(nm:Str)(env:Env)(t:Sem Value):hJ o nm env t=t:=by
 cases o<;>first
  |rfl
  | (exact absurd h (by simp[baseOk]))
theorem bK{c:CE}{e:Expr}(h:cb sc N c e=true)(es:List Expr)(env:Env):bu (e::es) env=(false,eval e env)::bu es env:=by
 cases e<;>first
  |rfl
  | (cases c<;>exact cI h)
theorem mQ{c:CE}{r:CL}{es:List Expr}(h:mR sc N (.cons c r) es=true):∃e' r',es=e'::r'/\cb sc N c e'=true/\mR sc N r r'=true:=
 let⟨e',r',a,k⟩:=uj h
 ⟨e',r',a,an k⟩
theorem pQ{es:List Expr}(h:mR sc N .nil es=true):es=[]:=nil_of h
theorem pP:∀{l:CL}{es:List Expr},mR sc N l es=true->∀(env:Env)(pos:Pos),(backTo pos (bu es env)).any (·.1)=false
 |.nil,es,h,env,pos=>by rw[pQ h];rfl
 |.cons c r,es,h,env,pos=>by
  obtain⟨e',r',rfl,h1,h2⟩:=mQ h;rw[bK h1];show(false||(backTo pos (bu r' env)).any (·.1))=false;rw[pP h2];rfl
theorem Ad{l:CL}{es:List Expr}(h:mR sc N l es=true)(hn:(!es.isEmpty)=true):∃e es',es=e::es'/\∀(env:Env)(pos:Pos),bu (e::es') env=(false,eval e env)::bu es' env/\(backTo pos (bu es' env)).any (·.1)=false:=by
 cases l with
 |nil=>
  obtain rfl:=pQ h;exact cI hn
 |cons c r=>
  obtain⟨e',r',rfl,h1,h2⟩:=mQ h;exact⟨e',r',rfl,fun env pos=>⟨bK h1 _ _,pP h2 _ _⟩⟩
theorem sT{e:Expr}(h:isSet e=false)(env:Env):∀x,gz e env x=pure x:=by
 intro x;cases e<;>first
  |rfl
  | (exact absurd h (by simp[isSet]))
theorem eZ{e:Expr}(h:isSet e=false)(op:CmpOp):ke op e=false:=by
 cases e<;>first
  |rfl
  | (exact absurd h (by simp[isSet]))
theorem AW{e:Expr}(h:iV e=false):xT e:=by
 intro o i;cases e<;>first
  |rfl
  | (exact absurd h (by simp[iV]))
theorem noSl{e:Expr}(h:iV e=false):NoSl e:=by
 intro o i;cases e<;>first
  |rfl
  | (exact absurd h (by simp[iV]))
theorem sU{e:Expr}(h:mJ e=false)(t:Option Expr)(l:Nat)(env:Env):k6 e t l env=pure false:=by
 cases e<;>first
  |rfl
  | (exact absurd h (by simp[mJ]))
theorem pi_any{tg l:Expr}{tl:TE}(hl:PE X l tl):PI X tg l (wF X.K tl):=by
 intro pins s σ H R I h;refine thn (hl pins s σ H _ I h) fun v s1 ⟨x,H1,I1,r1,q1⟩=>?_;have key:∀{tl':TE}{wi:TI},True:=fun{_ _}=>trivial;rcases q1 with q1|q1|q1
 ·obtain⟨a,e,⟨xs,hq⟩,q⟩:=q1
  subst e;cases r1;obtain⟨its,rv,p,hz⟩:=I1.list hq;refine gv p.isList ?_;refine⟨s1.heap.objs.size,[s1.heap.objs.size],_,_,H1,rfl,I1.kept (t':=s1.toks) fun b o e=>ag _ e,qR a _,⟨_,aC _ rfl,rfl,rfl⟩,fun b hb=>?_,q⟩;have e:b=s1.heap.objs.size:=by simpa using hb
  subst e;exact I1.n8 (ar _) (I1.hok.fresh (ar _))
 ·obtain⟨a,e,⟨xs,hq⟩,q⟩:=q1
  subst e;cases r1;obtain⟨its,rv,p,hz⟩:=I1.tuple hq;refine wpAny_pyIter_tuple (show s1.heap.IsTuple a its.toArray from p) ?_;refine⟨s1.heap.objs.size,[s1.heap.objs.size],_,_,H1,rfl,I1.kept (t':=s1.toks) fun b o e=>ag _ e,oN a _,⟨_,aC _ rfl,rfl,rfl⟩,fun b hb=>?_,q⟩;have e:b=s1.heap.objs.size:=by simpa using hb
  subst e;exact I1.n8 (ar _) (I1.hok.fresh (ar _))
 ·obtain⟨z,e,q⟩:=q1
  subst e;obtain⟨t,rfl⟩:=r1;refine wpAny_pyIter_strU ?_;refine⟨s1.heap.objs.size,[s1.heap.objs.size],_,_,H1,rfl,I1.kept (t':=s1.toks) fun b o e=>ag _ e,zQ z _ t,⟨_,aC _ rfl,rfl,rfl⟩,fun b hb=>?_,q⟩;have e:b=s1.heap.objs.size:=by simpa using hb
  subst e;exact I1.n8 (ar _) (I1.hok.fresh (ar _))
end
set_option maxHeartbeats 4000000
section
variable {CX:CXT}{G:Gam}
structure jX(sc sc':Scope)(N own:List Str)(fr:List Nat):Prop where
 kind:sc'.kind=.function
 cellk:∀y∈sc'.names,y.2=.cell->sc'.names.lookup y.1=some .cell
 own1:∀y∈sc'.names,y.2=.local->sc'.names.lookup y.1=some .local
 free:∀y∈sc'.names,y.2=.free->sc.names.lookup y.1=some .cell\/sc.names.lookup y.1=some .free
 nd:(namesOf N own fr).Nodup
 fr:∀j∈fr,j<N.length/\sc'.names.lookup (N.getD j "")=some .free
 own2:∀x∈own,sc'.names.lookup x=some .local\/sc'.names.lookup x=some .cell
theorem oX{sc sc':Scope}{N own:List Str}{fr:List Nat}(h:sS sc sc' N own fr=true):jX sc sc' N own fr:=by
 unfold sS at h;simp only[aN,dh,decide_eq_true_eq,beq_iff_eq,cX]at h;obtain⟨⟨⟨⟨⟨⟨h1,h2⟩,h3⟩,h4⟩,h5⟩,h6⟩,h7⟩:=h;exact⟨h1,h2,h3,h4,h5,h6,h7⟩
theorem jX.comp{E:XS}{sc sc':Scope}{N own:List Str}{fr:List Nat}{all:Bool}{X:Cx}(S:jX sc sc' N own fr)(o:Ok CX G E sc N all X):jY X (namesOf N own fr) sc':=
 ⟨S.kind,S.cellk,S.own1,fun y hy hf=>by
  rcases S.free y hy hf with q|q
  ·exact .inl (o.cel _ q)
  ·exact o.fre _ q⟩
theorem jX.mkOk{E:XS}{sc sc':Scope}{N own:List Str}{fr:List Nat}{all:Bool}{X:Cx}(S:jX sc sc' N own fr)(o:Ok CX G E sc N all X):MkOk X (namesOf N own fr) sc' (iR own fr):=by
 intro σ hl;refine⟨by simp[iR,namesOf],fun i x v h1 h2=>?_⟩;unfold iR at h2;unfold namesOf at h1;by_cases hi:i<own.length
 ·rw[eY (by simpa using hi),aZ]at h2
  cases q:own[i]? with
  |none=>rw[q]at h2;cases h2
  |some z=>rw[q]at h2;cases h2
 ·rw[cA (by simpa using hi),aZ,ae]at h2
  rw[cA (by simpa using hi),aZ]at h1;cases q:fr[i-own.length]? with
  |none=>rw[q]at h2;cases h2
  |some j=>
   rw[q]at h1 h2;have hx:N.getD j ""=x:=be h1;have hv:(σ[j]?).getD none=some v:=be h2;obtain⟨hj,hf⟩:=S.fr j (bj q);refine⟨by rw[<-hx];exact hf,j,?_,?_⟩
   ·rw[o.names,<-hx,aK,ah hj];rfl
   ·cases w:σ[j]? with
    |none=>rw[w]at hv;cases hv
    |some z=>rw[w]at hv;exact congrArg some hv
noncomputable abbrev HX(CX:CXT):Prop:=∀o H s e s',CX o H s E0 e s'->False
theorem Ok.comp{E:XS}{sc sc':Scope}{N own:List Str}{fr:List Nat}{all:Bool}{X:Cx}(hCX:HX CX)(S:jX sc sc' N own fr)(o:Ok CX G E sc N all X)(C:Addr)(s₀:Shared)(H₀:Hp)(fp:List Addr):
  Ok CX G N0 sc' (namesOf N own fr) false (cJ X (namesOf N own fr) sc' C s₀ H₀ fp) where
 names:=rfl
 nd:=S.nd
 loc:=fun x h=>lookup_relabel_local (env:=X.env) h
 cel:=fun x h=>dZ (env:=X.env) h (by decide)
 own:=fun x h=>eO.mpr ⟨(x,.cell),bh h,by simp⟩
 fre:=fun x h=>(eA (env:=X.env) h).symm
 glo:=fun x h=>dZ (env:=X.env) h (by decide)
 all:=fun h=>absurd h (by decide)
 calm:=o.calm
 hu:=o.hu
 val:=o.val
 fn:=o.fn
 ini:=o.ini
 dic:=o.dic
 mak:=o.mak
 mth:=o.mth
 blt:=o.blt
 px:=PassesOwn.never
 pass:=fun _ _ _ _ _ _ _ h=>(hCX _ _ _ _ _ h).elim
 made:=fun _ _ _ _ _ _ _ _ _ _ h=>h.elim
 madeX:=fun _ _ _ _ _ _ _ _ _ h=>h.elim
 cx:=o.cx
 top:=fun h=>absurd h (by decide)
theorem o6{sc:Scope}{N:List Str}{all:Bool}{g:CG}{e:Expr}(h:ve sc N all g e=true)(es:List Expr)(env:Env):du (e::es) env=(false,assign e env)::du es env:=by
 cases e<;>first
  |rfl
  | (cases g<;>exact cI h)
theorem pR{sc:Scope}{N:List Str}{all:Bool}{g:CG}{r:CGs}{es:List Expr}(h:nj sc N all (.cons g r) es=true):∃e' r',es=e'::r'/\ve sc N all g e'=true/\nj sc N all r r'=true:=
 let⟨e',r',a,k⟩:=uj h
 ⟨e',r',a,an k⟩
theorem rJ{sc:Scope}{N:List Str}{all:Bool}{es:List Expr}(h:nj sc N all .nil es=true):es=[]:=nil_of h
theorem jH{sc:Scope}{N:List Str}{all:Bool}:∀{gs:CGs}{es:List Expr},nj sc N all gs es=true->∀env,(du es env).length=gs.len/\(du es env).findIdx? (·.1)=none
 |.nil,es,h,env=>by rw[rJ h];exact⟨rfl,rfl⟩
 |.cons g r,es,h,env=>by
  obtain⟨e',r',rfl,h1,h2⟩:=pR h;obtain⟨a,b⟩:=jH h2 env;rw[o6 h1];refine⟨by rw[bg,a,CGs.len],?_⟩;rw[List.findIdx?_cons];simp[b]
end
section
variable {CX:CXT}{G:Gam}
noncomputable abbrev IHE(CX:CXT)(G:Gam)(c:CE):Prop:=∀(e:Expr){E:XS}{sc:Scope}{N:List Str}{all:Bool}{X:Cx},Ok CX G E sc N all X->cb sc N c e=true->PE X e (wpE G X.K E c)
noncomputable abbrev IHT(CX:CXT)(G:Gam)(c:CE):Prop:=∀(e:Expr){E:XS}{sc:Scope}{N:List Str}{all:Bool}{X:Cx},Ok CX G E sc N all X->cb sc N c e=true->PT X e (wpT G X.K E c)
noncomputable def isBo:Expr->Bool
 |.BoolOp .. =>true
 |_=>false
noncomputable abbrev IHW(CX:CXT)(G:Gam)(c:CE):Prop:=∀(e:Expr){E:XS}{sc:Scope}{N:List Str}{all:Bool}{X:Cx},Ok CX G E sc N all X->cb sc N c e=true->isBo e=true->PW X e (wpT G X.K E c)
noncomputable abbrev IHL(CX:CXT)(G:Gam)(c:CL):Prop:=∀(es:List Expr){E:XS}{sc:Scope}{N:List Str}{all:Bool}{X:Cx},Ok CX G E sc N all X->mR sc N c es=true->PA X es (wpL G X.K E c)
noncomputable abbrev IHP(CX:CXT)(G:Gam)(c:CP):Prop:=∀(ks:List (Option Expr))(vs:List Expr){E:XS}{sc:Scope}{N:List Str}{all:Bool}{X:Cx},Ok CX G E sc N all X->chkP sc N c ks vs=true->∀pos,
  PPs X pos ks vs (wpP G X.K E c)/\ks.all (·.isSome)=true/\ks.length=vs.length/\(c≠.nil->ks≠[])
noncomputable abbrev IHO(CX:CXT)(G:Gam)(c:CO):Prop:=∀(e:Option Expr){E:XS}{sc:Scope}{N:List Str}{all:Bool}{X:Cx},Ok CX G E sc N all X->chkO sc N c e=true->PO X e (wpO G X.K E c)
noncomputable abbrev IHC(CX:CXT)(G:Gam)(c:CO):Prop:=∀(es:List Expr){E:XS}{sc:Scope}{N:List Str}{all:Bool}{X:Cx},Ok CX G E sc N all X->chkC sc N c es=true->PTs X es (wpC G X.K E c)
noncomputable abbrev IHG(CX:CXT)(G:Gam)(c:CG):Prop:=∀(e:Expr){E:XS}{sc:Scope}{N:List Str}{all:Bool}{X:Cx},Ok CX G E sc N all X->ve sc N all c e=true->PG X e (wpG G X.K E c)
noncomputable abbrev zh(CX:CXT)(G:Gam)(c:CGs):Prop:=∀(es:List Expr){E:XS}{sc:Scope}{N:List Str}{all:Bool}{X:Cx},Ok CX G E sc N all X->nj sc N all c es=true->PGs X es (zL G X.K E c)
noncomputable abbrev IHI(CX:CXT)(G:Gam)(c:CI):Prop:=∀(e tg:Expr){E:XS}{sc:Scope}{N:List Str}{all:Bool}{X:Cx},Ok CX G E sc N all X->chkI sc N c e tg=true->PI X tg e (wpI G X.K E c)
theorem Aw{i:Nat}:IHE CX G (.var i):=by
  intro e E sc N all X o h;obtain⟨x,p,rfl,k⟩:=iX h;obtain⟨h1,h2,h3⟩:=fS k;obtain⟨d1,d2⟩:=jy h3;exact pe_var (by rw[o.names];exact beq_iff_eq.mp h1) (o.vis h2) d1 d2
theorem AB{c:Const}:IHE CX G (.con c):=by
  intro e E sc N all X o h;obtain⟨c',j,p,rfl,k⟩:=wL h;obtain⟨h1,h2⟩:=an k;cases of_decide_eq_true h2;cases c with
  |none=>exact pe_non
  |bool b=>exact pe_bl
  |int i=>exact A1
  |str x=>exact pe_str
  |_=>exact cI h1
theorem AA{x:Str}:IHE CX G (.glo x):=by
  intro e E sc N all X o h;obtain⟨y,p,rfl,k⟩:=iX h;obtain⟨h1,h2,h3⟩:=fS k;cases of_decide_eq_true h1;intro pins s σ H Q I hw;obtain⟨v,hv,q⟩:=hw;obtain⟨u,hu,r⟩:=o.val _ _ hv;exact pe_glob (o.gl h2) hu r (jy h3).1 pins s σ H Q I q
theorem sE_ty{t:Ty}:IHE CX G (.ty t):=by
  intro e E sc N all X o h;obtain⟨y,p,rfl,k⟩:=iX h;obtain⟨h1,h2⟩:=an k;cases of_decide_eq_true h1;exact pe_bltn (o.gl h2) (o.blt _ t.mem) t.boot rfl t.plain.1 t.plain.2
theorem sE_bin{op:Operator}{a b:CE}(ia:IHE CX G a)(ib:IHE CX G b):IHE CX G (.bin op a b):=by
  intro e E sc N all X o h;obtain⟨a',op',b',p,rfl,k⟩:=BS h;obtain⟨h1,h2,h3⟩:=fS k;cases of_decide_eq_true h1;exact pe_op (rBin_ok op) (ia _ o h2) (ib _ o h3)
theorem sE_un{op:UnaryOp}{a:CE}(ia:IHE CX G a):IHE CX G (.un op a):=by
  intro e E sc N all X o h;obtain⟨op',a',p,rfl,k⟩:=tu h;obtain⟨h1,h2⟩:=an k;cases of_decide_eq_true h1;exact pe_un (rUn_ok op) (ia _ o h2)
theorem sE_cmp{op:CmpOp}{a b:CE}(ia:IHE CX G a)(ib:IHE CX G b):IHE CX G (.cmp op a b):=by
  intro e E sc N all X o h;obtain⟨a',op',b',p,rfl,h0,k⟩:=mO h;obtain⟨h1,h2,h3⟩:=fS k;cases of_decide_eq_true h1;exact pe_cmpR (jQ o.hu op) (ia _ o h2) (ib _ o h3) (eZ h0 op)
theorem AD{o1 o2:CmpOp}{a b c:CE}(ia:IHE CX G a)(ib:IHE CX G b)(ic:IHE CX G c):IHE CX G (.chain o1 o2 a b c):=by
  intro e E sc N all X o h;obtain⟨a',os,es,p,rfl,k⟩:=wM h;obtain⟨p',q',rfl,l⟩:=pA k;obtain⟨b',c',rfl,m⟩:=pA l;obtain⟨h1,h2,h3,n⟩:=j9 m;obtain⟨h4,h5,h6⟩:=fS n;cases of_decide_eq_true h1;cases of_decide_eq_true h2;exact A7 (jQ o.hu o1) (jQ o.hu o2) (ia _ o h4) (ib _ o h5) (ic _ o h6) (eZ (mI h3) o2)
theorem sE_not{a:CE}(ia:IHE CX G a):IHE CX G (.not a):=by
  intro e E sc N all X o h;obtain⟨op',a',p,rfl,k⟩:=tu h;obtain⟨h1,h2⟩:=an k;cases of_decide_eq_true h1;exact pe_not (ia _ o h2)
theorem sE_and{a b:CE}(ia:IHE CX G a)(ib:IHE CX G b):IHE CX G (.and a b):=by
  intro e E sc N all X o h;obtain⟨op,a',x,p,k,m⟩:=mP h;obtain⟨h1,h2,h3⟩:=fS k;cases of_decide_eq_true h1;rcases m with rfl|⟨b',c',r,rfl,rfl⟩
  ·exact Ba (ia _ o h2) (A0 (ib _ o h3))
  ·exact Ba (ia _ o h2) (ib _ o h3)
theorem sE_or{a b:CE}(ia:IHE CX G a)(ib:IHE CX G b):IHE CX G (.or a b):=by
  intro e E sc N all X o h;obtain⟨op,a',x,p,k,m⟩:=mP h;obtain⟨h1,h2,h3⟩:=fS k;cases of_decide_eq_true h1;rcases m with rfl|⟨b',c',r,rfl,rfl⟩
  ·exact pe_or (ia _ o h2) (A0 (ib _ o h3))
  ·exact pe_or (ia _ o h2) (ib _ o h3)
theorem sE_ite{c a b:CE}(ic:IHT CX G c)(ia:IHE CX G a)(ib:IHE CX G b):IHE CX G (.ite c a b):=by
  intro e E sc N all X o h;obtain⟨c',a',b',p,rfl,k⟩:=dIf_of h;obtain⟨h1,h2,h3⟩:=fS k;exact A2 (ic _ o h1) (ia _ o h2) (ib _ o h3)
theorem Az{a i:CE}(ia:IHE CX G a)(ii:IHE CX G i):IHE CX G (.idx a i):=by
  intro e E sc N all X o h;obtain⟨a',i',p,rfl,k⟩:=kR h;obtain⟨h1,h2,h3⟩:=fS k;exact pe_ix ix_seq (ia _ o h2) (ii _ o h3) (AW (mI h1))
theorem sE_cut{a:CE}{lo hi:CO}(ia:IHE CX G a)(il:IHO CX G lo)(ih:IHO CX G hi):IHE CX G (.cut a lo hi):=by
  intro e E sc N all X o h;obtain⟨a',s,p,rfl,k⟩:=kR h;obtain⟨l,u,t,p',rfl,m⟩:=BO k;obtain⟨h1,h2,n⟩:=fS m;obtain⟨h3,h4⟩:=an n;cases dt.mp h1;exact AZ rSlc_ok (ia _ o h2) (il _ o h3) (ih _ o h4)
theorem sE_tup{es:CL}(ie:IHL CX G es):IHE CX G (.tup es):=by
  intro e E sc N all X o h;obtain⟨es',j,p,rfl,k⟩:=wJ h;exact pe_tup (ie _ o k)
theorem sE_lst{es:CL}(ie:IHL CX G es):IHE CX G (.lst es):=by
  intro e E sc N all X o h;obtain⟨es',p,rfl,k⟩:=dLi_of h;exact pe_lst (ie _ o k)
theorem sE_dic{ps:CP}(ip:IHP CX G ps):IHE CX G (.dic ps):=by
  intro e E sc N all X o h;obtain⟨ks,vs,p,rfl,k⟩:=dDi_of h;obtain⟨h1,h2⟩:=an k;intro pins s σ H Q I hw;rcases hw with⟨e1,hw⟩ |⟨e1,hw⟩
  ·subst e1
   obtain⟨h3,h4⟩:=an h2;obtain rfl:=nil_of h3;obtain rfl:=nil_of h4;exact A3 pins s σ H Q I hw
  ·obtain⟨p1,p2,p3,p4⟩:=ip ks vs o h2 p
   exact pe_disp p1 p2 p3 (p4 e1) (of_decide_eq_true h1) pins s σ H Q I hw
theorem xg{f:Str}{es:CL}(ie:IHL CX G es):IHE CX G (.call f es):=by
  intro e E sc N all X o h;obtain⟨f',np,es',p,rfl,k⟩:=gJ h;obtain⟨h1,h2,h3,h4⟩:=j9 k;cases of_decide_eq_true h1;intro pins s σ H Q I hw;obtain⟨sp,dvs,hf,hw⟩:=hw;obtain⟨fa,fd,ps,ds,k,F,hr,hm,hk,hb,hd⟩:=o.fn _ _ _ _ hf;cases es' with
  |nil=>
   cases es with
   |nil=>exact yx F hr (o.gl h2) hm hk hb hd o.pass (jy h3).1 pins s σ H Q I hw
   |cons=>exact cI h4
  |cons e1 r1=>
   have hL:=ie _ o h4;obtain⟨_,_,e,hs⟩:=Ad h4 rfl;cases e;exact A8 F hr (o.gl h2) hm hk hb hd o.pass hL (jy h3).1 (hs _ p).1 (hs _ _).2 pins s σ H Q I hw
theorem Bf.kind:∀b:Bf,(∃n,b.val=.builtin n)\/∃n,b.val=.type n:=by intro b;cases b<;>first |exact .inl ⟨_,rfl⟩ |exact .inr ⟨_,rfl⟩
theorem pe_bf{X:Cx}{b:Bf}{np pos:Pos}{es:List Expr}{t:TA}{l:CL}{sc:Scope}{N:List Str}(hB:eh X b.val (rBf X.K b))(hg:Gl X b.name)(hm:X.mg b.name=none)(hL:PA X es t)(hn:(!es.isEmpty)=true)(h:mR sc N l es=true):PE X (.Call (.Name b.name np) es [] pos) (tCB (rBf X.K b) t):=by
 obtain⟨e,es',rfl,hs⟩:=Ad h hn;have hv:=b.boot;rcases b.kind with⟨n,q⟩ |⟨n,q⟩
 ·rw[q]at hB hv
  exact A9 hB hg hm hv hL b.plain.1 b.plain.2 (hs _ pos).1 (hs _ _).2
 ·rw[q]at hB hv
  exact yw hB hg hm hv hL b.plain.1 b.plain.2 (hs _ pos).1 (hs _ _).2
theorem AE{b:Bf}{es:CL}(ie:IHL CX G es):IHE CX G (.bfn b es):=by
  intro e E sc N all X o h;obtain⟨f',np,es',p,rfl,k⟩:=gJ h;obtain⟨h1,h2,h3,h4⟩:=j9 k;cases of_decide_eq_true h1;exact pe_bf (rBf_ok o.calm o.hu b) (o.gl h2) (o.blt _ b.mem) (ie _ o h4) h3 h4
theorem Ay{m:Mm}{b:CE}(ib:IHE CX G b):IHE CX G (.meth0 m b):=by
  intro e E sc N all X o h;obtain⟨o',ap,es,cp,rfl,h0,k⟩:=pN h;obtain⟨h1,h2,h3⟩:=fS k;obtain rfl:=nil_of h1;exact pe_bm0 t9 m.slot m.ty (AK m) (ib _ o h3) (l9 h2 _ _ _) h0
theorem Ax{m:Mm}{b a:CE}(ib:IHE CX G b)(ia:IHE CX G a):IHE CX G (.meth1 m b a):=by
  intro e E sc N all X o h;obtain⟨o',ap,es,cp,rfl,h0,k⟩:=pN h;obtain⟨a',rfl,l⟩:=gW k;obtain⟨h1,h2,h3⟩:=fS l;exact pe_bm t9 m.slot m.ty (AK m) (ib _ o h2) (fV (ia _ o h3) jx (bK h3 _ _)) (l9 h1 _ _ _) (by rw[bK h3];rfl) h0 (bK h3 _ _) rfl
theorem sE_divb{a b:CE}(ia:IHE CX G a)(ib:IHE CX G b):IHE CX G (.divb a b):=by
  intro e E sc N all X o h;obtain⟨a',op',b',p,rfl,k⟩:=BS h;obtain⟨h1,h2,h3⟩:=fS k;cases of_decide_eq_true h1;exact pe_op op_divb (ia _ o h2) (ib _ o h3)
theorem sE_rev{a:CE}(ia:IHE CX G a):IHE CX G (.rev a):=by
  intro e E sc N all X o h;obtain⟨a',s,p,rfl,h1⟩:=kR h;obtain⟨x,y,z,p1,rfl,h2⟩:=BO h1;obtain⟨g1,g2,h3⟩:=fS h2;obtain⟨g3,g4⟩:=an h3;obtain⟨z',rfl,g5⟩:=xu g3;obtain⟨op,c,p2,rfl,g6⟩:=tu g5;obtain⟨g7,g8⟩:=an g6;obtain⟨c',j,p3,rfl,g9⟩:=wL g8;cases of_decide_eq_true g7;cases of_decide_eq_true g9;cases dt.mp g1;cases dt.mp g2;exact pe_rev (ia _ o g4) yv
theorem sE_sset{a:CE}(ia:IHE CX G a):IHE CX G (.sset a):=by
  intro e E sc N all X o h;obtain⟨p,a',q,r,t,rfl,h1,h2,h3⟩:=BQ h;exact uD o.calm (o.gl h1) (o.blt _ (by decide+kernel)) (o.gl h2) (o.blt _ (by decide+kernel)) (fV (ia _ o h3) jx (bK h3 _ _)) (bK h3 _ _)
theorem sE_lrev{a:CE}(ia:IHE CX G a):IHE CX G (.lrev a):=by
  intro e E sc N all X o h;obtain⟨p,a',q,r,t,rfl,h1,h2,h3⟩:=BQ h;exact pe_lrev o.calm (o.gl h1) (o.blt _ (by decide+kernel)) (o.gl h2) (o.blt _ (by decide+kernel)) (fV (ia _ o h3) jx (bK h3 _ _)) (bK h3 _ _)
theorem m1_of{X:Cx}{o e:Expr}{m:Str}{ap cp:Pos}{c:CE}{sc:Scope}{N:List Str}(hb:baseOk o=true)(h0:(ap.endLine==cp.line)=true)(h:cb sc N c e=true):M1 X o m ap e cp:=⟨l9 hb _ _ _,by rw[bK h];rfl,h0,by rw[bK h];rfl⟩
theorem sE_x2{k:X2}{a b:CE}(ia:IHE CX G a)(ib:IHE CX G b):IHE CX G (.x2 k a b):=by
  intro e E sc N all X o h0;obtain⟨_,h⟩:=an h0;have hu:X.A.units+1<cLine:=by have :=o.hu;omega
  cases k with
  |idxk=>
   obtain⟨a',i',p,rfl,k⟩:=kR h;obtain⟨h1,k⟩:=an k;obtain⟨h2,h3⟩:=an k;exact pe_dget hu (ia _ o h2) (ib _ o h3) (noSl (mI h1))
  |ink=>
   obtain⟨a',op,b',p,rfl,h4,k⟩:=mO h;obtain⟨h1,k⟩:=an k;obtain⟨h2,h3⟩:=an k;cases of_decide_eq_true h1;exact A6 (Bb hu (ia _ o h2) (ib _ o h3)) (eZ h4 _)
  |nink=>
   obtain⟨a',op,b',p,rfl,h4,k⟩:=mO h;obtain⟨h1,k⟩:=an k;obtain⟨h2,h3⟩:=an k;cases of_decide_eq_true h1;exact A6 (qZ hu (ia _ o h2) (ib _ o h3)) (eZ h4 _)
  |getk=>
   obtain⟨o',ap,es,cp,rfl,h4,k⟩:=pN h;obtain⟨a',rfl,k⟩:=gW k;obtain⟨h1,k⟩:=an k;obtain⟨h2,h3⟩:=an k;exact A5 hu (ia _ o h2) (ib _ o h3) (m1_of h1 h4 h3)
theorem sT_x2{k:X2}{a b:CE}(ia:IHE CX G a)(ib:IHE CX G b):IHT CX G (.x2 k a b):=by
  intro e E sc N all X o h0;obtain⟨_,h⟩:=an h0;have hu:X.A.units+1<cLine:=by have :=o.hu;omega
  cases k with
  |ink=>
   obtain⟨a',op,b',p,rfl,h4,k⟩:=mO h;obtain⟨h1,k⟩:=an k;obtain⟨h2,h3⟩:=an k;cases of_decide_eq_true h1;exact AN (Bb hu (ia _ o h2) (ib _ o h3)) (eZ h4 _)
  |nink=>
   obtain⟨a',op,b',p,rfl,h4,k⟩:=mO h;obtain⟨h1,k⟩:=an k;obtain⟨h2,h3⟩:=an k;cases of_decide_eq_true h1;exact AN (qZ hu (ia _ o h2) (ib _ o h3)) (eZ h4 _)
  |_=>exact fun _ _ _ _ _ _ z=>z.elim
theorem sE_thaw{a:CE}(ia:IHE CX G a):IHE CX G (.sf a):=by
  intro e E sc N all X o h;exact pe_thaw (ia _ o (an h).2)
theorem sE_get2{b a c:CE}(ib:IHE CX G b)(ia:IHE CX G a)(ic:IHE CX G c):IHE CX G (.get2 b a c):=by
  intro e E sc N all X o h;obtain⟨o',ap,es,cp,rfl,h0,k⟩:=pN h;obtain⟨a',b',rfl,l⟩:=pA k;obtain⟨h1,h2,m⟩:=fS l;obtain⟨h3,h4⟩:=an m;exact A4 (by have :=o.hu;omega) (ib _ o h2) (ia _ o h3) (ic _ o h4) ⟨l9 h1 _ _ _,by rw[bK h3,bK h4];rfl,h0,by rw[bK h3,bK h4];rfl⟩
theorem sE_comp(hCX:HX CX){own:List Str}{fr:List Nat}{tg:CG}{it:CI}{cond:CO}{elt:CE}(ii:IHI CX G it)(ig:IHG CX G tg)(ic:IHC CX G cond)(ie:IHE CX G elt):IHE CX G (.comp own fr tg it cond elt):=by
  intro e E sc N all X o h;obtain⟨elt',gs,sc',p,rfl,k⟩:=wK h;obtain⟨⟨tg',it',ifs',y⟩,rfl,l⟩:=gW k;obtain⟨h1,h2,h3,m⟩:=j9 l;obtain⟨h4,h5,h6,h7⟩:=j9 m;cases of_decide_eq_true h1;have S:=oX h2;exact pe_comp (S.comp o) (S.mkOk o) o.calm (ii _ _ o h4)
   (fun C s₀ H₀ fp _=>⟨ig _ (o.comp hCX S C s₀ H₀ fp) h5,ic _ (o.comp hCX S C s₀ H₀ fp) h6,ie _ (o.comp hCX S C s₀ H₀ fp) h7⟩) (sT (mI h3) _)
theorem sT_cmp{op:CmpOp}{a b:CE}(ia:IHE CX G a)(ib:IHE CX G b):IHT CX G (.cmp op a b):=by
  intro e E sc N all X o h;obtain⟨a',op',b',p,rfl,h0,k⟩:=mO h;obtain⟨h1,h2,h3⟩:=fS k;cases of_decide_eq_true h1;exact pt_cmpR (jQ o.hu op) (ia _ o h2) (ib _ o h3) (eZ h0 op)
theorem Aq{o1 o2:CmpOp}{a b c:CE}(ia:IHE CX G a)(ib:IHE CX G b)(ic:IHE CX G c):IHT CX G (.chain o1 o2 a b c):=by
  intro e E sc N all X o h;obtain⟨a',os,es,p,rfl,k⟩:=wM h;obtain⟨p',q',rfl,l⟩:=pA k;obtain⟨b',c',rfl,m⟩:=pA l;obtain⟨h1,h2,h3,n⟩:=j9 m;obtain⟨h4,h5,h6⟩:=fS n;cases of_decide_eq_true h1;cases of_decide_eq_true h2;exact AO (jQ o.hu o1) (jQ o.hu o2) (ia _ o h4) (ib _ o h5) (ic _ o h6) (eZ (mI h3) o2)
theorem sT_not{a:CE}(ia:IHT CX G a):IHT CX G (.not a):=by
  intro e E sc N all X o h;obtain⟨op',a',p,rfl,k⟩:=tu h;obtain⟨h1,h2⟩:=an k;cases of_decide_eq_true h1;exact pt_not (ia _ o h2)
theorem sT_var{i:Nat}:IHT CX G (.var i):=by
  intro e E sc N all X o h;have q:=Aw e o h;obtain⟨x,p,rfl,k⟩:=iX h;exact iJ q fun _=>rfl
theorem sT_con{c:Const}:IHT CX G (.con c):=by
  intro e E sc N all X o h;have q:=AB e o h;obtain⟨x,j,p,rfl,k⟩:=wL h;exact iJ q fun _=>rfl
theorem sT_glo{x:Str}:IHT CX G (.glo x):=by
  intro e E sc N all X o h;have q:=AA e o h;obtain⟨x,p,rfl,k⟩:=iX h;exact iJ q fun _=>rfl
theorem sT_idx{a i:CE}(ia:IHE CX G a)(ii:IHE CX G i):IHT CX G (.idx a i):=by
  intro e E sc N all X o h;have q:=Az ia ii e o h;obtain⟨x,y,p,rfl,k⟩:=kR h;exact iJ q fun _=>rfl
theorem sT_call{f:Str}{es:CL}(ie:IHL CX G es):IHT CX G (.call f es):=by
  intro e E sc N all X o h;have q:=xg ie e o h;obtain⟨x,np,es,p,rfl,k⟩:=gJ h;exact iJ q fun _=>rfl
theorem sT_bfn{b:Bf}{es:CL}(ie:IHL CX G es):IHT CX G (.bfn b es):=by
  intro e E sc N all X o h;have q:=AE ie e o h;obtain⟨x,np,es,p,rfl,k⟩:=gJ h;exact iJ q fun _=>rfl
theorem Ao{a b:CE}(ia:IHT CX G a)(ib:IHT CX G b)(iw:IHW CX G b):IHW CX G (.and a b):=by
  intro e E sc N all X o h;obtain⟨op,a',x,p,k,m⟩:=mP h;obtain⟨h1,h2,h3⟩:=fS k;cases of_decide_eq_true h1;rcases m with rfl|⟨b',c',r,rfl,rfl⟩
  ·exact fun _=>AL (ia _ o h2) (pw_and1 (ib _ o h3))
  ·exact fun _=>AL (ia _ o h2) (iw _ o h3 rfl)
theorem sT_and{a b:CE}(iw:IHW CX G (.and a b)):IHT CX G (.and a b):=by
  intro e E sc N all X o h;obtain⟨op,a',x,p,k,m⟩:=mP h;exact(iw _ o h (by rcases m with rfl|⟨b',c',r,rfl,rfl⟩<;>rfl)).pt
theorem sW_or{a b:CE}(ia:IHT CX G a)(ib:IHT CX G b)(iw:IHW CX G b):IHW CX G (.or a b):=by
  intro e E sc N all X o h;obtain⟨op,a',x,p,k,m⟩:=mP h;obtain⟨h1,h2,h3⟩:=fS k;cases of_decide_eq_true h1;rcases m with rfl|⟨b',c',r,rfl,rfl⟩
  ·exact fun _=>pw_or (ia _ o h2) (pw_or1 (ib _ o h3))
  ·exact fun _=>pw_or (ia _ o h2) (iw _ o h3 rfl)
theorem sT_or{a b:CE}(iw:IHW CX G (.or a b)):IHT CX G (.or a b):=by
  intro e E sc N all X o h;obtain⟨op,a',x,p,k,m⟩:=mP h;exact(iw _ o h (by rcases m with rfl|⟨b',c',r,rfl,rfl⟩<;>rfl)).pt
theorem sL_nil:IHL CX G .nil:=by
  intro es E sc N all X o h;obtain rfl:=pQ h;exact jx
theorem sL_cons{c:CE}{r:CL}(ic:IHE CX G c)(ir:IHL CX G r):IHL CX G (.cons c r):=by
  intro es E sc N all X o h;obtain⟨e',r',rfl,h1,h2⟩:=mQ h;exact fV (ic _ o h1) (ir _ o h2) (bK h1 _ _)
theorem sP_nil:IHP CX G .nil:=by
  intro ks vs E sc N all X o h pos;obtain⟨h1,h2⟩:=an h;obtain rfl:=nil_of h1;obtain rfl:=nil_of h2;exact⟨pps_nil,rfl,rfl,fun z=>absurd rfl z⟩
theorem sP_cons{k v:CE}{r:CP}(ir:IHP CX G r)(ik:IHE CX G k)(iv:IHE CX G v):IHP CX G (.cons k v r):=by
  intro ks vs E sc N all X o h pos;obtain⟨k',ks',rfl,l⟩:=uj h;obtain⟨v',vs',rfl,m⟩:=uj l;obtain⟨k',rfl,n⟩:=xu m;obtain⟨h1,h2,h3⟩:=fS n;obtain⟨p1,p2,p3,_⟩:=ir _ _ o h3 pos;exact⟨AV (ik _ o h1) (iv _ o h2) p1,by simp[p2],by simp[p3],fun _=>by simp⟩
theorem sO_no:IHO CX G .no:=by
  intro e E sc N all X o h;obtain rfl:=dt.mp h;exact po_none
theorem sO_yes{c:CE}(ic:IHE CX G c):IHO CX G (.yes c):=by
  intro e E sc N all X o h;obtain⟨e',rfl,k⟩:=xu h;exact po_some (ic _ o k)
theorem sC_no:IHC CX G .no:=by
  intro es E sc N all X o h;obtain rfl:=nil_of h;exact pts_nil
theorem sC_yes{c:CE}(ic:IHT CX G c):IHC CX G (.yes c):=by
  intro es E sc N all X o h;obtain⟨e',rfl,k⟩:=gW h;exact pts_one (ic _ o k)
theorem sG_name{i:Nat}:IHG CX G (.name i):=by
  intro e E sc N all X o h;obtain⟨x,p,rfl,k⟩:=iX h;rw[aN,cX,beq_iff_eq,beq_iff_eq,beq_iff_eq]at k;obtain⟨h1,h2⟩:=k;refine xr (by rw[o.names];exact o.nd) (by rw[o.names];exact h1) ?_ ?_
  ·rcases h2 with q|q
   ·exact .inl (o.loc x q)
   ·exact .inr (o.cel x q)
  ·rcases h2 with q|q
   ·exact .inr (o.loc x q)
   ·exact .inl (o.own x q)
theorem sG_tup{gs:CGs}(ig:zh CX G gs):IHG CX G (.tup gs):=by
  intro e E sc N all X o h;obtain⟨es,j,p,rfl,k⟩:=wJ h;obtain⟨a,b⟩:=jH k X.env;exact pg_tup o.calm (ig _ o k) a b
theorem sG_ltup{gs:CGs}(ig:zh CX G gs):IHG CX G (.ltup gs):=by
  intro e E sc N all X o h;obtain⟨es,j,p,rfl,k⟩:=wJ h;obtain⟨a,b⟩:=jH k X.env;exact pg_lst o.calm (ig _ o k) a b
theorem sG_sub{b i:CE}(ib:IHE CX G b)(ii:IHE CX G i):IHG CX G (.sub b i):=by
  intro e E sc N all X o h;obtain⟨o',i',p,rfl,k⟩:=kR h;obtain⟨h1,h2,h3⟩:=fS k;refine pg_sub (ib _ o h2) (ii _ o h3) set_list fun v=>?_;cases i'<;>first
   |rfl
   |exact cI h1
theorem sGs_nil:zh CX G .nil:=by
  intro es E sc N all X o h;obtain rfl:=rJ h;exact pgs_nil
theorem Av{c:CG}{r:CGs}(ic:IHG CX G c)(ir:zh CX G r):zh CX G (.cons c r):=by
  intro es E sc N all X o h;obtain⟨e',r',rfl,h1,h2⟩:=pR h;exact AY (ic _ o h1) (ir _ o h2) (by rw[o6 h1];rfl)
theorem sI_seq{c:CE}(ic:IHE CX G c):IHI CX G (.seq c):=by
  intro e tg E sc N all X o h;exact pi_any (ic _ o h)
theorem sI_lseq{c:CE}(ic:IHE CX G c):IHI CX G (.lseq c):=by
  intro e tg E sc N all X o h;exact pi_list (ic _ o h)
theorem sI_tseq{c:CE}(ic:IHE CX G c):IHI CX G (.tseq c):=by
  intro e tg E sc N all X o h;exact pi_tup (ic _ o h)
theorem ym{c:CE}(ic:IHE CX G c):IHI CX G (.range1 c):=by
  intro e tg E sc N all X o h;obtain⟨f,np,es,p,rfl,k⟩:=gJ h;obtain⟨e',rfl,l⟩:=gW k;obtain⟨h1,h2,h3⟩:=fS l;cases of_decide_eq_true h1;exact yu (o.gl h2) (o.blt _ (by decide+kernel)) (fV (ic _ o h3) jx (bK h3 _ _)) (bK h3 _ _)
theorem yl{a b:CE}(ia:IHE CX G a)(ib:IHE CX G b):IHI CX G (.range2 a b):=by
  intro e tg E sc N all X o h;obtain⟨f,np,es,p,rfl,k⟩:=gJ h;obtain⟨a',b',rfl,l⟩:=pA k;obtain⟨h1,h2,h3,h4⟩:=j9 l;cases of_decide_eq_true h1;exact yt (o.gl h2) (o.blt _ (by decide+kernel)) (fV (ia _ o h3) (fV (ib _ o h4) jx (bK h4 _ _)) (bK h3 _ _)) (by rw[bK h3,bK h4];rfl) (bK h4 _ _)
theorem rB{e:Expr}(h:jD e=true):∃es k p,e=.Tuple es k p:=by cases e<;>first |exact⟨_,_,_,rfl⟩ |exact cI h
theorem sI_zip{a b:CE}(ia:IHE CX G a)(ib:IHE CX G b):IHI CX G (.zip a b):=by
  intro e tg E sc N all X o h;obtain⟨f,np,es,p,rfl,k⟩:=gJ h;obtain⟨a',b',rfl,l⟩:=pA k;obtain⟨h1,h2,h3,h4,h5⟩:=and5 l;cases of_decide_eq_true h1;obtain⟨es,j,p',rfl⟩:=rB h5;exact pi_zip (o.gl h2) (o.blt _ (by decide+kernel)) (fV (ia _ o h3) (fV (ib _ o h4) jx (bK h4 _ _)) (bK h3 _ _)) (bK h3 _ _) (by rw[bK h4];rfl)
theorem Au{c:CE}(ic:IHE CX G c):IHI CX G (.dkeys c):=by
  intro e tg E sc N all X o h;exact pi_keys (ic _ o h)
theorem yn{c:CE}(ic:IHE CX G c):IHI CX G (.ditems c):=by
  intro e tg E sc N all X o h;obtain⟨o',ap,es,cp,rfl,h0,k⟩:=pN h;obtain⟨h1,h2,h3,h4⟩:=j9 k;obtain rfl:=nil_of h1;obtain⟨es,j,p',rfl⟩:=rB h4;exact AX (ic _ o h3) (l9 h2 _ _ _) h0
theorem As{c:CE}(ic:IHE CX G c):IHI CX G (.lrevd c):=by
  intro e tg E sc N all X o h;obtain⟨f,np,es,p,rfl,k⟩:=gJ h;obtain⟨e',rfl,l⟩:=gW k;obtain⟨h1,h2,h3⟩:=fS l;cases of_decide_eq_true h1;exact pi_rev (o.gl h2) (o.blt _ (by decide+kernel)) (fV (ic _ o h3) jx (bK h3 _ _)) (bK h3 _ _)
mutual
theorem aX(hCX:HX CX):∀c:CE,IHE CX G c
 |.var i=>Aw
 |.con c=>AB
 |.glo x=>AA
 |.ty t=>sE_ty
 |.bin op a b=>sE_bin (aX hCX a) (aX hCX b)
 |.un op a=>sE_un (aX hCX a)
 |.cmp op a b=>sE_cmp (aX hCX a) (aX hCX b)
 |.chain o1 o2 a b c=>AD (aX hCX a) (aX hCX b) (aX hCX c)
 |.not a=>sE_not (aX hCX a)
 |.and a b=>sE_and (aX hCX a) (aX hCX b)
 |.or a b=>sE_or (aX hCX a) (aX hCX b)
 |.ite c a b=>sE_ite (fQ hCX c) (aX hCX a) (aX hCX b)
 |.idx a i=>Az (aX hCX a) (aX hCX i)
 |.cut a lo hi=>sE_cut (aX hCX a) (Ai hCX lo) (Ai hCX hi)
 |.tup es=>sE_tup (ju hCX es)
 |.lst es=>sE_lst (ju hCX es)
 |.dic ps=>sE_dic (Ah hCX ps)
 |.call f es=>xg (ju hCX es)
 |.bfn b es=>AE (ju hCX es)
 |.meth0 m b=>Ay (aX hCX b)
 |.meth1 m b a=>Ax (aX hCX b) (aX hCX a)
 |.divb a b=>sE_divb (aX hCX a) (aX hCX b)
 |.rev a=>sE_rev (aX hCX a)
 |.sset a=>sE_sset (aX hCX a)
 |.lrev a=>sE_lrev (aX hCX a)
 |.x2 k a b=>sE_x2 (aX hCX a) (aX hCX b)
 |.sf a=>sE_thaw (aX hCX a)
 |.get2 b a c=>sE_get2 (aX hCX b) (aX hCX a) (aX hCX c)
 |.comp own fr tg it cond elt=>sE_comp hCX (vX hCX it) (oU hCX tg) (Aj hCX cond) (aX hCX elt)
theorem fQ(hCX:HX CX)(c:CE):IHT CX G c:=by
 cases c with
 |cmp op a b=>exact sT_cmp (aX hCX a) (aX hCX b)
 |chain p q a b c=>exact Aq (aX hCX a) (aX hCX b) (aX hCX c)
 |not a=>exact sT_not (fQ hCX a)
 |and a b=>exact sT_and (Ao (fQ hCX a) (fQ hCX b) (sq hCX b))
 |or a b=>exact sT_or (sW_or (fQ hCX a) (fQ hCX b) (sq hCX b))
 |var i=>exact sT_var
 |con c=>exact sT_con
 |glo x=>exact sT_glo
 |idx a i=>exact sT_idx (aX hCX a) (aX hCX i)
 |call f es=>exact sT_call (ju hCX es)
 |bfn b es=>exact sT_bfn (ju hCX es)
 |x2 k a b=>exact sT_x2 (aX hCX a) (aX hCX b)
 |_=>exact fun _ _ _ _ _ _ _ _ _ _ _ _ _ _ z=>z.elim
theorem sq(hCX:HX CX)(c:CE):IHW CX G c:=by
 cases c with
 |and a b=>exact Ao (fQ hCX a) (fQ hCX b) (sq hCX b)
 |or a b=>exact sW_or (fQ hCX a) (fQ hCX b) (sq hCX b)
 |_=>
  intro e E sc N all X o h hb;cases e<;>first
   |exact cI h
   |exact cI hb
theorem ju(hCX:HX CX):∀c:CL,IHL CX G c
 |.nil=>sL_nil
 |.cons c r=>sL_cons (aX hCX c) (ju hCX r)
theorem Ah(hCX:HX CX):∀c:CP,IHP CX G c
 |.nil=>sP_nil
 |.cons k v r=>sP_cons (Ah hCX r) (aX hCX k) (aX hCX v)
theorem Ai(hCX:HX CX):∀c:CO,IHO CX G c
 |.no=>sO_no
 |.yes c=>sO_yes (aX hCX c)
theorem Aj(hCX:HX CX):∀c:CO,IHC CX G c
 |.no=>sC_no
 |.yes c=>sC_yes (fQ hCX c)
theorem oU(hCX:HX CX):∀c:CG,IHG CX G c
 |.name i=>sG_name
 |.tup gs=>sG_tup (sr hCX gs)
 |.ltup gs=>sG_ltup (sr hCX gs)
 |.sub ob i=>sG_sub (aX hCX ob) (aX hCX i)
theorem sr(hCX:HX CX):∀c:CGs,zh CX G c
 |.nil=>sGs_nil
 |.cons c r=>Av (oU hCX c) (sr hCX r)
theorem vX(hCX:HX CX):∀c:CI,IHI CX G c
 |.seq c=>sI_seq (aX hCX c)
 |.lseq c=>sI_lseq (aX hCX c)
 |.tseq c=>sI_tseq (aX hCX c)
 |.range1 c=>ym (aX hCX c)
 |.range2 a b=>yl (aX hCX a) (aX hCX b)
 |.zip a b=>sI_zip (aX hCX a) (aX hCX b)
 |.dkeys e=>Au (aX hCX e)
 |.ditems e=>yn (aX hCX e)
 |.lrevd e=>As (aX hCX e)
end
end
section
variable {CX:CXT}{G:Gam}
theorem wo{sc:Scope}{N:List Str}{all:Bool}{g:CG}{tg e:Expr}(h:ve sc N all g tg=true)(hn:(jD tg&&jD e)=false)(env:Env):swappedStores [tg] e env=pure none:=by
 cases tg with
 |Tuple es k p=>
  cases e<;>first
   |rfl
   | (exact absurd hn (by simp[jD]))
 |List es p=>cases g<;>exact cI h
 |_=>rfl
theorem uo{a:Expr}{b:List Comprehension}{c:Scope}{d p:Pos}{x:Str}{l:Nat}{env:Env}(h:env.kindOf x≠some .local):k6 (.ListComp a b c d) (some (.Name x p)) l env=pure false:=by
 show(pure (env.blockKind== .function&&env.kindOf x==some .local&&p.line==d.line&& !(c.names.any fun(n,k)=>n==x&&(k== .local||k== .cell))):Sem Bool)=pure false;have e:(env.kindOf x==some cQ.local)=false:=by simpa using h
 rw[e,dk,eG,eG]
theorem vT{a:Expr}{b:List Comprehension}{c:Scope}{d p:Pos}{x:Str}{l:Nat}{env:Env}(hk:env.scope.kind=.function)(h:env.kindOf x=some .local)(hl:p.line=d.line)
  (hn:(c.names.any fun y=>decide (y.1=x)&&(decide (y.2=.local)||decide (y.2=.cell)))=false):k6 (.ListComp a b c d) (some (.Name x p)) l env=pure true:=by
 show(pure (env.blockKind== .function&&env.kindOf x==some .local&&p.line==d.line&& !(c.names.any fun(n,k)=>n==x&&(k== .local||k== .cell))):Sem Bool)=pure true;have e1:env.blockKind=.function:=by unfold Env.blockKind;rw[hk];rfl
 have e2:(c.names.any fun(n,k)=>n==x&&(k==cQ.local||k==b8))=false:=by
  rw[<-hn];congr 1
 rw[e1,h,hl,e2];simp
theorem wR{c:CE}(h:isCe c=true):∃own fr tg it cond elt,c=.comp own fr tg it cond elt:=by
 cases c with
 |comp own fr tg it cond elt=>exact⟨_,_,_,_,_,_,rfl⟩
 |_=>exact cI h
structure OkL(G:Gam)(sc:Scope)(N:List Str)(X:Cx):Prop where
 names:X.N=N
 nd:N.Nodup
 loc:∀x,sc.names.lookup x=some .local->X.env.scope.names.lookup x=some .local
 cel:∀x,sc.names.lookup x=some .cell->X.env.scope.names.lookup x=some .cell
 fre:∀x,sc.names.lookup x=some .free->X.env.scope.names.lookup x=some .cell\/X.env.scope.names.lookup x=some .free
 glo:∀x,sc.names.lookup x=some .globalImplicit->X.env.scope.names.lookup x=some .globalImplicit
 all:∀x,X.fn x=true
 val:∀x v,G.val x=some v->∃u,X.mg x=some u/\RelV v u
 blt:∀x∈gf,X.mg x=none
mutual
theorem Ag(hCX:HX CX):∀(c:CS)(st:Stmt){E:XS}{sc:Scope}{N:List Str}{X:Cx},Ok CX G E sc N true X->(∀pins σ H s,Inv X pins σ H s->X.env.scope.kind=.function)->chkS sc N c st=true->PS X st (wpS G X.K E c)
 |.asg g e,st,E,sc,N,X,o,hk,h=>by
  obtain⟨g',e',p,rfl,k⟩:=wN h;obtain⟨h1,h2,h3,h4⟩:=j9 k;exact ps_asg (aX hCX e _ o h2) (oU hCX g _ o h1) (sU (mI h3) _ _ _) (wo h1 (mI h4) _) (by rw[o6 h1];rfl)
 |.asgc i e,st,E,sc,N,X,o,hk,h=>by
  obtain⟨h0,h⟩:=an h;obtain⟨g',e',sp,rfl,k⟩:=wN h;obtain⟨x,p,rfl,l⟩:=iX k;obtain⟨a,b,c,d,rfl,m⟩:=wK l;obtain⟨h1,h2,h3,h4⟩:=j9 m;rw[beq_iff_eq]at h1;rw[cX,beq_iff_eq,beq_iff_eq]at h2;rw[cX,beq_iff_eq]at h4;obtain⟨own,fr,tg,it,cond,elt,rfl⟩:=wR h0;by_cases hl:X.env.scope.names.lookup x=some .local
  ·rcases h4 with q|q
   ·rw[o.cel x q]at hl;cases hl
   obtain⟨q1,q2⟩:=an q;obtain⟨elt',gs,sc',p',e1,r1⟩:=wK h3;cases e1;obtain⟨⟨tg',it',ifs',y⟩,rfl,r2⟩:=gW r1;obtain⟨g0,g1,g2,r3⟩:=j9 r2;obtain⟨g3,g4,g5,g6⟩:=j9 r3;cases of_decide_eq_true g0;have S:=oX g1;intro pins s σ H D I hw;exact v7 (S.comp o) (S.mkOk o) o.calm (vX hCX it _ _ o g3)
    (fun C s₀ H₀ fp _=>⟨oU hCX tg _ (o.comp hCX S C s₀ H₀ fp) g4,Aj hCX cond _ (o.comp hCX S C s₀ H₀ fp) g5,aX hCX elt _ (o.comp hCX S C s₀ H₀ fp) g6⟩)
    (by rw[o.names];exact o.nd) (by rw[o.names];exact h1) hl (vT (hk pins σ H s I) hl (of_decide_eq_true q1) (mI q2)) (sT (mI g2) _) pins s σ H D I hw
  ·have hc:sc.names.lookup x=some .cell:=by
    rcases h2 with q|q
    ·exact absurd (o.loc x q) hl
    ·exact q
   exact ps_set (by rw[o.names];exact o.nd) (by rw[o.names];exact h1) (.inr (o.cel x hc)) (aX hCX _ _ o h3) (uo (by rw[show X.env.kindOf x=_ from o.cel x hc];decide)) (.inl (o.all rfl x))
 |.expr e,st,E,sc,N,X,o,hk,h=>by
  obtain⟨e',p,rfl,k⟩:=dEx_of h;obtain⟨h1,h2⟩:=an k;exact ps_expr (aX hCX e _ o h1) (sU (mI h2) _ _ _)
 |.iff c a b,st,E,sc,N,X,o,hk,h=>by
  obtain⟨c',a',b',p,rfl,k⟩:=dIs_of h;obtain⟨h1,h2,h3⟩:=fS k;exact ps_if (fQ hCX c _ o h1) (mE hCX a _ o hk h2) (mE hCX b _ o hk h3)
 |.whl c b,st,E,sc,N,X,o,hk,h=>by
  obtain⟨c',b',p,rfl,k⟩:=dWh_of h;obtain⟨h1,h2⟩:=an k;exact AR o.px (fQ hCX c _ o h1) (mE hCX b _ o hk h2)
 |.forr g it b,st,E,sc,N,X,o,hk,h=>by
  obtain⟨g',i',b',p,rfl,k⟩:=dFo_of h;obtain⟨h1,h2,h3,h4⟩:=j9 k;exact ps_for o.px o.calm (vX hCX it _ _ o h2) (oU hCX g _ o h1) (mE hCX b _ o hk h4) (sT (mI h3) _)
 |.ret e,st,E,sc,N,X,o,hk,h=>by
  obtain⟨r,p,rfl,k⟩:=BP h;obtain⟨e',rfl,m⟩:=xu k;exact ps_ret (aX hCX e _ o m)
 |.retN,st,E,sc,N,X,o,hk,h=>by
  obtain⟨r,p,rfl,k⟩:=BP h;obtain rfl:=dt.mp k;exact ps_retN
 |.rais x es,st,E,sc,N,X,o,hk,h=>by
  obtain⟨x',np,es',cp,p,rfl,k⟩:=dRa_of h;obtain⟨h1,h2,h3,m⟩:=j9 k;obtain⟨h4,h5⟩:=an m;cases of_decide_eq_true h1;intro pins s σ H D I hw;obtain⟨C,hv,hkp,hq,hw⟩:=hw;obtain⟨u,hu,ru⟩:=o.val _ _ hv;obtain rfl:u=bA C:=ru;have hL:=ju hCX es _ o h5;obtain⟨_,_,rfl,hs⟩:=Ad h5 h4;exact AS (o.gl h2) hu hkp hq hL o.calm (jy h3).1 (hs _ cp).1 (hs _ _).2 o.made pins s σ H D I hw
 |.thawS c,st,E,sc,N,X,o,hk,h=>ps_thaw (Ag hCX c st o hk h)
 |.putk b i e,st,E,sc,N,X,o,hk,h=>by
  obtain⟨g',e',p,rfl,k⟩:=wN h;obtain⟨o',i',p',rfl,l⟩:=kR k;obtain⟨h1,h2,h3,h4⟩:=j9 l;exact ps_dput (by have :=o.hu;omega) (aX hCX b _ o h1) (aX hCX i _ o h2) (aX hCX e _ o h3) (sU (mI h4) _ _ _)
 |.pass,st,E,sc,N,X,o,hk,h=>by
  cases st<;>first
   |exact ps_pass
   |exact cI h
 |.brk,st,E,sc,N,X,o,hk,h=>by
  cases st<;>first
   |exact AU
   |exact cI h
 |.cont,st,E,sc,N,X,o,hk,h=>by
  cases st<;>first
   |exact uA
   |exact cI h
theorem mE(hCX:HX CX):∀(c:CB)(st:List Stmt){E:XS}{sc:Scope}{N:List Str}{X:Cx},Ok CX G E sc N true X->(∀pins σ H s,Inv X pins σ H s->X.env.scope.kind=.function)->oa sc N c st=true->PSs X st (wpB G X.K E c)
 |.hole,_,_,_,_,_,_,_,_=>fun _ _ _ _ _ _ z=>z.elim
 |.nil,st,E,sc,N,X,o,hk,h=>by
  obtain rfl:=nil_of h;exact pss_nil
 |.cons s r,st,E,sc,N,X,o,hk,h=>by
  obtain⟨s',r',rfl,k⟩:=uj h;obtain⟨h1,h2⟩:=an k;exact AQ (Ag hCX s _ o hk h1) (mE hCX r _ o hk h2)
end
end
structure GOk(P:Program)(w:World)(K:aa)(mg:Str->Option Value)(base:Heap)(CX:CXT)(k:Nat)(G:Gam):Prop where
 val:∀x v,G.val x=some v->∃u,mg x=some u/\RelV v u
 fn:∀x n sp dvs,G.fn x n=some (sp,dvs)->∃f fd ps ds j,j<=k/\gP P w K mg base CX j f fd ps sp/\mg x=some (.ref f)/\bW K (.ref f)=true/\Binds K fd ps ds/\bC dvs ds
 ini:∀x n C sp dvs,G.ini x n=some (C,sp,dvs)->∃f fd ps ds j,j+1<=k/\MkX K C f/\gP P w K mg base CX j f fd ps sp/\mg x=some (.ref C)/\Binds K fd ps ds/\bC dvs ds
 dic:∀a kvs,G.dic a=some kvs->DkIn P w K a kvs
 mak:∀x n C sp dvs,G.mak x n=some (C,sp,dvs)->∃f fd ps ds j,j+1<=k/\Mk K C f/\gP P w K mg base CX j f fd ps sp/\mg x=some (.ref C)/\Binds K fd ps ds/\bC dvs ds
 mth:∀m n C sp dvs,G.mth m n=some (C,sp,dvs)->∃f fd ps ds j,j<=k/\Cls K C/\Meth K C m f/\gP P w K mg base CX j f fd ps sp/\Binds K fd ps ds/\bC dvs ds
 blt:∀x∈gf,mg x=none
noncomputable def m3(N ps:List Str)(sc:Scope):Bool:=
 decide (sc.kind=.function)&&decide (sc.isCoroutine=false)&&decide (sc.isGenerator=false)&&decide N.Nodup&&decide (N.take ps.length=ps)&&
 ps.all (fun x=>sc.names.lookup x==some .local||sc.names.lookup x==some .cell)&&sc.names.all (fun y=>decide (y.2≠.free))
theorem Be{N ps:List Str}{sc:Scope}(h:m3 N ps sc=true):tN N ps sc:=by
 unfold m3 at h;simp only[aN,dh,decide_eq_true_eq,beq_iff_eq,cX]at h;obtain⟨⟨⟨⟨⟨⟨h1,h2⟩,h3⟩,h4⟩,h5⟩,h6⟩,h7⟩:=h;exact⟨h1,h2,h3,h4,h5,h6,h7⟩
section
variable {P:Program}{w:World}{K:aa}{mg:Str->Option Value}{base:Heap}
theorem pJ{x qual:Str}{st:Stmt}{f:Addr}{oc dV kV doc pm cdv ct:Value}{od an:Option Addr}{osl:Array (Option Value)}{N ps:List Str}{k:Nat}{G:Gam}{sp:Sp}{code:CB}(lk:K.lookup f=some ⟨oc,od,.func (aJ x qual (bB st) (bp st) (aO st) dV kV doc pm an cdv ct),osl⟩)(hcd:dE K cdv qual=true)(hd:m3 N ps (aO st)=true)(hc:oa (aO st) N code (bp st)=true)
  (g:GOk P w K mg base (CXx P w) k G)(len:∀vs H Q E,sp vs H Q E->vs.length=ps.length)
  (h:∀vs H Q E,sp vs H Q E->wpB G K (fun _=>E) code {nx:=fun _ H'=>Q .non H',rt:=Q} (start N vs) H):gP P w K mg base (CXx P w) (k+1) f (aJ x qual (bB st) (bp st) (aO st) dV kV doc pm an cdv ct) ps sp:=by
 have S:=Be hd;refine fn_of lk hcd S len fun A outer s H vs Q E hr hsp=>?_;have o:Ok (CXx P w) G (fun _=>E) (aO st) N true (tw (CXx P w) P w K mg base N qual (aO st) f cdv A outer s H E):=
  {names:=rfl,top:=fun _=>⟨rfl,rfl,rfl⟩,nd:=S.nd,loc:=fun _ z=>z,cel:=fun _ z=>z,fre:=fun y z=>absurd rfl (S.nofree _ (bh z)),glo:=fun _ z=>z,all:=fun _ _=>rfl,own:=fun _ _=>rfl,calm:=rfl,
   hu:=by have :=hr.units;show _+50<cLine;exact ot (Nat.add_le_add_left (by decide) _) this
   val:=g.val
   fn:=fun y n sp' dvs e=>by
    obtain⟨f',fd',ps',ds',j,hj,F',hm,hk,hb,hv⟩:=g.fn y n sp' dvs e;exact⟨f',fd',ps',ds',j,F',hr.mono hj,hm,hk,hb,hv⟩
   ini:=fun y n C sp' dvs e=>by
    obtain⟨f',fd',ps',ds',j,hj,M,F',hm,hb,hv⟩:=g.ini y n C sp' dvs e;exact⟨f',fd',ps',ds',j,M,F',hr.mono hj,hm,hb,hv⟩
   dic:=g.dic
   mak:=fun y n C sp' dvs e=>by
    obtain⟨f',fd',ps',ds',j,hj,M,F',hm,hb,hv⟩:=g.mak y n C sp' dvs e;exact⟨f',fd',ps',ds',j,M,F',hr.mono hj,hm,hb,hv⟩
   mth:=fun y n C sp' dvs e=>by
    obtain⟨f',fd',ps',ds',j,hj,c,M,F',hb,hv⟩:=g.mth y n C sp' dvs e;exact⟨f',fd',ps',ds',j,c,M,F',hr.mono hj,hb,hv⟩
   blt:=g.blt,px:=PassesOwn.leaving,pass:=zc,made:=zd,madeX:=wY,cx:=rfl}
 exact⟨_,mE (fun _ _ _ _ _ z=>cxx0 z) code _ o (fun _ _ _ _ _=>S.kind) hc,h vs H Q E hsp⟩
theorem xC{x qual:Str}{st:Stmt}{f:Addr}{fd:fj}{N ps:List Str}{k:Nat}{G:Gam}{sp:Sp}{code:CB}(F:Fun K x qual st f fd)(hd:m3 N ps (aO st)=true)(hc:oa (aO st) N code (bp st)=true)
  (g:GOk P w K mg base (CXx P w) k G)(len:∀vs H Q E,sp vs H Q E->vs.length=ps.length)
  (h:∀vs H Q E,sp vs H Q E->wpB G K (fun _=>E) code {nx:=fun _ H'=>Q .non H',rt:=Q} (start N vs) H):gP P w K mg base (CXx P w) (k+1) f fd ps sp:=by
 obtain⟨oc,od,kV,doc,pm,an,cdv,ct,osl,rfl,lk,hcd⟩:=F.ex;exact pJ lk hcd hd hc g len h
end
end R
namespace R
open PySem PySem.Spec PyProof.Rows L2
noncomputable def gam(vals:List (Str×V))(fns:List ((Str×Nat)×(Sp×List V)))(inis:List ((Str×Nat)×(Addr×Sp×List V)):=[]) (dics:List (Addr×List (Key×V)):=[]) (maks mths:List ((Str×Nat)×(Addr×Sp×List V)):=[]):Gam:=⟨fun x=>vals.lookup x,fun x n=>fns.lookup (x,n),fun x n=>inis.lookup (x,n),fun a=>dics.lookup a,fun x n=>maks.lookup (x,n),fun m n=>mths.lookup (m,n)⟩
theorem uS{β:Type}{a:Addr}{b:β}:∀{l:List (Addr×β)},l.lookup a=some b->(a,b)∈l
 | [],h=>nomatch h
 | (k,v)::l,h=>by
  rw[bf]at h;cases q:(a==k)with
  |true=>
   rw[q]at h;cases h;rw[beq_iff_eq.mp q];exact au
  |false=>
   rw[q]at h;exact aF _ (uS h)
section
variable {P:Program}{w:World}{K:aa}{mg:Str->Option Value}{base:Heap}{CX:CXT}
theorem GOk.start{vals:List (Str×V)}(hv:∀x v,(x,v)∈vals->∃u,mg x=some u/\RelV v u)(hb:∀x∈gf,mg x=none){dics:List (Addr×List (Key×V))}(hd:∀a kvs,(a,kvs)∈dics->DkIn P w K a kvs:=by intro a kvs h;exact nomatch h):GOk P w K mg base CX 0 (gam vals [] [] dics):=
 ⟨fun x v e=>hv x v (bh e),fun x n sp dvs e=>(nomatch e),fun x n C sp dvs e=>(nomatch e),fun a kvs e=>hd a kvs (uS (show gD a dics=some kvs from e)),fun x n C sp dvs e=>(nomatch e),fun x n C sp dvs e=>(nomatch e),hb⟩
theorem GOk.add{k n:Nat}{vals:List (Str×V)}{fns:List ((Str×Nat)×(Sp×List V))}{x:Str}{f:Addr}{fd:fj}{ps:List Str}{sp:Sp}{ds:List Value}{dvs:List V}{inis maks mths:List ((Str×Nat)×(Addr×Sp×List V))}{dics:List (Addr×List (Key×V))}(g:GOk P w K mg base CX k (gam vals fns inis dics maks mths))
  (F:gP P w K mg base CX (k+1) f fd ps sp)(hm:mg x=some (.ref f))(hk:bW K (.ref f)=true)(hb:Binds K fd ps ds)(hd:bC dvs ds):GOk P w K mg base CX (k+1) (gam vals (((x,n),(sp,dvs))::fns) inis dics maks mths):=by
 refine⟨g.val,fun y m sp' dvs' e=>?_,fun y m C sp' dvs' e=>?_,g.dic,fun y m C sp' dvs' e=>?_,fun y m C sp' dvs' e=>?_,g.blt⟩
 rotate_left
 rotate_left
 ·obtain⟨f',fd',ps',ds',j,hj,r⟩:=g.mak y m C sp' dvs' e
  exact⟨f',fd',ps',ds',j,eu hj,r⟩
 ·obtain⟨f',fd',ps',ds',j,hj,r⟩:=g.mth y m C sp' dvs' e
  exact⟨f',fd',ps',ds',j,eu hj,r⟩
 rotate_left
 ·obtain⟨f',fd',ps',ds',j,hj,r⟩:=g.ini y m C sp' dvs' e
  exact⟨f',fd',ps',ds',j,eu hj,r⟩
 have e':gD (y,m) (((x,n),(sp,dvs))::fns)=some (sp',dvs'):=e;rw[bf]at e';cases q:((y,m)==(x,n))with
 |true=>
  rw[q]at e';have e2:(y,m)=(x,n):=eq_of_beq q;cases e2;cases e';exact⟨f,fd,ps,ds,k+1,ar _,F,hm,hk,hb,hd⟩
 |false=>
  rw[q]at e';obtain⟨f',fd',ps',ds',j,hj,r⟩:=g.fn y m sp' dvs' e';exact⟨f',fd',ps',ds',j,eu hj,r⟩
end
section
variable {K:aa}{H:Hp}{Q:VK}{i j:Int}
theorem tM:iI K .Add (.int i) (.int j) H Q↔Q (.int (i+j)) H:=by
 simp[iI,rI0,rCat,xl,xm]
theorem Aa:iI K .Sub (.int i) (.int j) H Q↔Q (.int (i-j)) H:=by simp[iI,rI0]
theorem Bm:iI K .Mult (.int i) (.int j) H Q↔w8 i j/\Q (.int (i*j)) H:=by simp[iI,rI,rRep,AI]
theorem kJ:iI K .Mod (.int i) (.int j) H Q↔0<j/\Q (.int (i%j)) H:=by simp[iI,rI]
theorem div_ii:iI K .FloorDiv (.int i) (.int j) H Q↔CDiv i j/\Q (.int (i/j)) H:=by simp[iI,rI]
theorem pow_ii:iI K .Pow (.int i) (.int j) H Q↔B7 i j/\Q (.int (i^j.toNat)) H:=by simp[iI,rI]
theorem add_ss{x y:Str}:iI K .Add (.str x) (.str y) H Q↔x.length+y.length<=sizeLine/\Q (.str (x++y)) H:=by simp[iI,rI0,rCat,xl,xm]
theorem Bs:fu K .Lt (.int i) (.int j) H Q↔Q (.bl (decide (i<j))) H:=by simp[fu,rI0]
theorem le_ii:fu K .LtE (.int i) (.int j) H Q↔Q (.bl (decide (i<=j))) H:=by simp[fu,rI0]
theorem nh:fu K .Gt (.int i) (.int j) H Q↔Q (.bl (decide (j<i))) H:=by simp[fu,rI0]
theorem xj{d:D}:Rep K H d (.int i)↔d=.int i:=by
 cases d<;>simp[Rep,eq_comm]
theorem pL:fu K .Eq (.int i) (.int j) H Q↔Q (.bl (decide (i=j))) H:=by
 simp only[fu,rEqD,xj];constructor
 ·rintro⟨_,_,rfl,rfl,_,q⟩;exact q
 ·intro q;exact⟨_,_,rfl,rfl,aL _,q⟩
theorem Bj:fu K .NotEq (.int i) (.int j) H Q↔Q (.bl (!decide (i=j))) H:=by
 simp only[fu,rNeD,xj];constructor
 ·rintro⟨_,_,rfl,rfl,_,q⟩;exact q
 ·intro q;exact⟨_,_,rfl,rfl,aL _,q⟩
theorem is_n{x:V}:fu K .Is x .non H Q↔Q (.bl (decide (x=.non))) H:=by simp[fu]
theorem isnot_n{x:V}:fu K .IsNot x .non H Q↔Q (.bl (!decide (x=.non))) H:=by simp[fu]
theorem len_s{z:Str}:rBf K .len [.str z] H Q↔z.length<=sizeLine/\Q (.int z.length) H:=by simp[rBf]
theorem idx_s{z:Str}:rIx K (.str z) (.int i) H Q↔∃c,z.length<=sizeLine/\atI z.cps.toList i=some c/\Q (.str ⟨#[c]⟩) H:=by
 simp[rIx,rIxL,rIxT,rIxS]
theorem cut_s{z:Str}{lo hi:Option Int}:rSlc K (.str z) lo hi H Q↔z.length<=sizeLine/\Q (.str (wO z lo hi)) H:=by
 simp[rSlc,rSlL,rSlS]
end
structure mW(J:It)(n:Nat)(it:Nat->V->Hp->Prop)(Hc:Hp->Prop):Prop where
 go:∀i H,Hc H->i<n->J.go i H
 stop:∀i H,Hc H->n<=i->J.stop i H
 yld:∀i H x H',Hc H->i<n->J.yld i H x H'->it i x H'/\aU H H'
section
variable {K:aa}
theorem eI{a:Addr}{xs:List V}:mW (Itl K a) xs.length (fun i x _=>xs[i]? =some x) (fun H=>SqL K H a xs) where
 go:=fun i H h hi=>⟨xs,xs[i],h,by simp[hi]⟩
 stop:=fun i H h hi=>⟨xs,h,hi⟩
 yld:=fun i H x H' h hi y=>by
  obtain⟨e,y⟩:=y;subst e;exact⟨y xs h,aU.refl _⟩
theorem seq_tup{a:Addr}{xs:List V}:mW (Itt K a) xs.length (fun i x _=>xs[i]? =some x) (fun H=>SqT K H a xs) where
 go:=fun i H h hi=>⟨xs,xs[i],h,by simp[hi]⟩
 stop:=fun i H h hi=>⟨xs,h,hi⟩
 yld:=fun i H x H' h hi y=>by
  obtain⟨e,y⟩:=y;subst e;exact⟨y xs h,aU.refl _⟩
theorem jP{lo:Int}{n:Nat}:mW (Itr lo n) n (fun i x _=>x=.int (lo+i)) (fun _=>True) where
 go:=fun i H _ hi=>hi
 stop:=fun i H _ hi=>hi
 yld:=fun i H x H' _ hi y=>by
  obtain⟨e,y⟩:=y;subst e;exact⟨y,aU.refl _⟩
theorem seq_str{z:Str}:mW (Its z) z.length (fun i x _=>∃c,z.cps[i]? =some c/\x=.str ⟨#[c]⟩) (fun _=>True) where
 go:=fun i H _ hi=>hi
 stop:=fun i H _ hi=>hi
 yld:=fun i H x H' _ hi y=>by
  obtain⟨e,y⟩:=y;subst e;exact⟨y,aU.refl _⟩
theorem aB{H:Hp}{p:Addr}{o:HO}(h:H p=none):aU H (upd H p o):=fun b u e=>by rw[aH (bb e h)];exact e
noncomputable def ForB(J:It)(g:TG)(tb:TS)(D:Ends)(σ:L2.St)(H:Hp):Prop:=∃W:Nat->Nat->L2.St->Hp->Prop,(∃m,W 0 m σ H)/\∀i m σ H,W i m σ H->
 (J.stop i H/\D.nx σ H)\/(J.go i H/\∃N:L2.St->Hp->Prop,(∀σ' H',N σ' H'->∃m',m'<m/\W (i+1) m' σ' H')/\∀x H',J.yld i H x H'->g x σ H' fun σ2 H2=>tb {D with nx:=N,ct:=N,bk:=D.nx} σ2 H2)
noncomputable def xU(J:It)(g:TG)(tc:TT)(te:TE)(τ0:L2.St)(H1:Hp)(Q:VK):Prop:=∃W:Nat->Nat->L2.St->List V->Hp->Prop,(∃m,W 0 m τ0 [] H1)/\
 ∀i m τ acc H2,W i m τ acc H2->(J.stop i H2/\∀l,H2 l=none->Q (.ref l) (upd H2 l (.lst acc)))\/(J.go i H2/\∃N:L2.St->List V->Hp->Prop,(∀τ' acc' H',N τ' acc' H'->∃m',m'<m/\W (i+1) m' τ' acc' H')/\
  ∀x H3,J.yld i H2 x H3->g x τ H3 fun τ4 H4=>tc τ4 H4 fun b H5=>if b=true then te τ4 H5 fun v H6=>acc.length<sizeLine/\N τ4 (acc++[v]) H6 else N τ4 acc H5)
theorem for_seq{J:It}{n:Nat}{it:Nat->V->Hp->Prop}{Hc:Hp->Prop}{g:TG}{tb:TS}{D:Ends}{σ:L2.St}{H:Hp}(S:mW J n it Hc)(Pv:Nat->L2.St->Hp->Prop)(h0:Pv 0 σ H)(hl:∀i σ H,i<=n->Pv i σ H->Hc H)
  (hs:∀i x σ H H',i<n->Pv i σ H->it i x H'->aU H H'->g x σ H' fun σ2 H2=>tb {D with nx:=Pv (i+1),ct:=Pv (i+1),bk:=D.nx} σ2 H2) (hd:∀σ H,Pv n σ H->D.nx σ H):
  ForB J g tb D σ H:=by
 refine⟨fun i m σ H=>m=n-i/\i<=n/\Pv i σ H,⟨n,by simp,aL _,h0⟩,?_⟩;rintro i m σ H ⟨rfl,hi,p⟩;have q:=hl i σ H hi p;by_cases hlt:i<n
 ·refine .inr ⟨S.go i H q hlt,Pv (i+1),fun σ' H' p'=>⟨n-(i+1),by omega,rfl,hlt,p'⟩,fun x H' y=>?_⟩
  obtain⟨y1,y2⟩:=S.yld i H x H' q hlt y;exact hs i x σ H H' hlt p y1 y2
 ·have e:i=n:=by omega
  subst e;exact .inl ⟨S.stop i H q (ar _),hd σ H p⟩
theorem iN{J:It}{n:Nat}{it:Nat->V->Hp->Prop}{Hc:Hp->Prop}{g:TG}{te:TE}{Q:VK}{τ0:L2.St}{H1:Hp}(S:mW J n it Hc)(hn:n<=sizeLine)(hc:∀H,aU H1 H->Hc H)
  (F:Nat->V->Hp->Prop)(Fm:∀i v H H',aU H H'->F i v H->F i v H')(T:L2.St->Prop)(hT:T τ0)
  (step:∀i x τ H3 (R:L2.St->V->Hp->Prop),i<n->T τ->aU H1 H3->it i x H3->(∀τ' v H6,T τ'->aU H3 H6->F i v H6->R τ' v H6)->g x τ H3 fun τ4 H4=>te τ4 H4 (R τ4))
  (fin:∀vs H2 l,vs.length=n->(∀(i:Nat) v,vs[i]? =some v->F i v H2)->aU H1 H2->H2 l=none->Q (.ref l) (upd H2 l (.lst vs))):
  xU J g yb te τ0 H1 Q:=by
 refine⟨fun i m τ acc H2=>m=n-i/\i<=n/\T τ/\acc.length=i/\aU H1 H2/\∀(k:Nat) v,acc[k]? =some v->F k v H2,⟨n,by simp,aL _,hT,rfl,aU.refl _,fun k v e=>by simp at e⟩,?_⟩;rintro i m τ acc H2 ⟨rfl,hi,ht,hl,sm,hF⟩;have q:=hc H2 sm;by_cases hlt:i<n
 ·refine .inr ⟨S.go i H2 q hlt,fun τ' acc' H'=>T τ'/\acc'.length=i+1/\aU H1 H'/\∀(k:Nat) v,acc'[k]? =some v->F k v H',fun τ' acc' H' ⟨a,b,c,d⟩=>⟨n-(i+1),by omega,rfl,hlt,a,b,c,d⟩,fun x H3 y=>?_⟩
  obtain⟨y1,y2⟩:=S.yld i H2 x H3 q hlt y;refine step i x τ H3 (fun τ' v H6=>acc.length<sizeLine/\T τ'/\(acc++[v]).length=i+1/\aU H1 H6/\∀(k:Nat) v',(acc++[v])[k]? =some v'->F k v' H6) hlt ht (sm.trans y2) y1 fun τ' v H6 ht' s6 f6=>⟨by omega,ht',by simp[hl],(sm.trans y2).trans s6,fun k v' e=>?_⟩;by_cases hk:k<acc.length
  ·rw[eY hk]at e
   exact Fm k v' H2 H6 (y2.trans s6) (hF k v' e)
  ·rw[cA (by omega)]at e
   have hk0:k-acc.length=0:=by
    have :=(bw.mp e).1
    simp at this;omega
   rw[hk0]at e;have hk':k=i:=by omega
   simp at e;subst e;rw[hk'];exact f6
 ·have e:i=n:=by omega
  subst e;exact .inl ⟨S.stop i H2 q (ar _),fun l hl'=>fin acc H2 l hl hF sm hl'⟩
theorem fB{wi:TI}{g:TG}{tc:TT}{te:TE}{mk:L2.St->L2.St}{σ:L2.St}{H:Hp}{Q:VK}(h:wi σ H fun J H1=>xU J g tc te (mk σ) H1 Q):oR wi g tc te mk σ H Q:=h
theorem hU{wi:TI}{g:TG}{tb:TS}{D:Ends}{σ:L2.St}{H:Hp}(h:wi σ H fun J H1=>ForB J g tb D σ H1):tFor wi g tb D σ H:=h
theorem vn{i:Nat}{z:Str}{σ:L2.St}{H:Hp}{R:It->Hp->Prop}(hv:σ[i]? =some (some (.str z)))(h:R (Its z) H):wF K (nV i) σ H R:=⟨_,hv,.inr (.inr ⟨z,rfl,h⟩)⟩
theorem cU{i:Nat}{a:Addr}{xs:List V}{σ:L2.St}{H:Hp}{R:It->Hp->Prop}(hv:σ[i]? =some (some (.ref a)))(hq:SqL K H a xs)(h:R (Itl K a) H):wF K (nV i) σ H R:=⟨_,hv,.inl ⟨a,rfl,⟨xs,hq⟩,h⟩⟩
theorem vm{i:Nat}{a:Addr}{xs:List V}{σ:L2.St}{H:Hp}{R:It->Hp->Prop}(hv:σ[i]? =some (some (.ref a)))(hq:SqT K H a xs)(h:R (Itt K a) H):wF K (nV i) σ H R:=⟨_,hv,.inr (.inl ⟨a,rfl,⟨xs,hq⟩,h⟩)⟩
theorem bool_list{vs:List V}{n:Nat}{b:Nat->Bool}(hl:vs.length=n)(h:∀(i:Nat) v,vs[i]? =some v->v=.bl (b i)):vs=((aM n).map b).map V.bl:=by
 apply dg
 ·simp[hl]
 ·intro i h1 h2
  have :=h i vs[i] (by simp[h1])
  simp[this]
theorem B1{α:Type}(l:List α)(d:α)(f:α->Bool):((aM l.length).map fun i=>f (l.getD i d)).all id=l.all f:=by
 rw[oI,gM];simp only[dh,dO,Function.comp,id];constructor
 ·intro h c hc
  obtain⟨i,hi,rfl⟩:=aR.mp hc;have :=h i hi;rw[aK,ah hi]at this;exact this
 ·intro h i hi
  have :=h _ (cK hi)
  rw[aK,ah hi];exact this
end
noncomputable def HasFn(K:aa)(x:Str)(st:Stmt):Prop:=∃(f:Addr)(oc:Value)(od an:Option Addr)(osl:Array (Option Value))(kV doc pm cdv ct:Value),eD K bL x=some (some (.ref f))/\
 K.lookup f=some ⟨oc,od,.func (aJ x x (bB st) (bp st) (aO st) .none kV doc pm an cdv ct),osl⟩/\dE K cdv x=true/\bW K (.ref f)=true
theorem bU{K:aa}{x:Str}{st:Stmt}{f:Addr}{oc:Value}{od an:Option Addr}{osl:Array (Option Value)}{kV doc pm cdv ct:Value}(a:eD K bL x=some (some (.ref f)))
  (l:K.lookup f=some ⟨oc,od,.func (aJ x x (bB st) (bp st) (aO st) .none kV doc pm an cdv ct),osl⟩)(c:dE K cdv x=true)(k:bW K (.ref f)=true):HasFn K x st:=
 ⟨f,oc,od,an,osl,kV,doc,pm,cdv,ct,a,l,c,k⟩
structure Def(K:aa)(mg:Str->Option Value)(x:Str)(st:Stmt):Prop where
 ex:∃f fd,Fun K x x st f fd/\mg x=some (.ref f)
theorem HasFn.def{K:aa}{h:Heap}{mg:Str->Option Value}{x:Str}{st:Stmt}(X:K.In h)(Gm:h.Ns bL mg)(H:HasFn K x st):Def K mg x st:=by
 obtain⟨f,oc,od,an,osl,kV,doc,pm,cdv,ct,a,l,c,k⟩:=H;exact⟨f,_,BF l c k,eS X Gm a⟩
section
variable {P:Program}{w:World}{K:aa}{mg:Str->Option Value}{base:Heap}
theorem cV{k:Nat}{vals:List (Str×V)}{fns:List ((Str×Nat)×(Sp×List V))}{x:Str}{st:Stmt}{N ps:List Str}{sp:Sp}{code:CB}{inis maks mths:List ((Str×Nat)×(Addr×Sp×List V))}{dics:List (Addr×List (Key×V))}(g:GOk P w K mg base (CXx P w) k (gam vals fns inis dics maks mths))(d:Def K mg x st)
  (hc:(m3 N ps (aO st)&&oa (aO st) N code (bp st))=true)
  (hb:∀(kV doc pm:Value)(an:Option Addr)(cdv ct:Value)(us:List Value),us.length=ps.length->bindArgs (aJ x x (bB st) (bp st) (aO st) .none kV doc pm an cdv ct) ⟨us,[]⟩=pure (ps.zip us))
  (len:∀vs H Q E,sp vs H Q E->vs.length=ps.length)
  (h:∀vs H Q E,sp vs H Q E->wpB (gam vals fns inis dics maks mths) K (fun _=>E) code {nx:=fun _ H'=>Q .non H',rt:=Q} (L2.start N vs) H):GOk P w K mg base (CXx P w) (k+1) (gam vals (((x,ps.length),(sp,[]))::fns) inis dics maks mths):=by
 rw[aN]at hc;obtain⟨f,fd,F,hm⟩:=d.ex;exact g.add (n:=ps.length) (xC F hc.1 hc.2 g len h) hm F.kp (F.binds hb) .nil
end
end R
set_option hygiene false in
local macro_rules | `(tactic| walk_at "wp") => `(tactic| simp only [_root_.R.wpB, _root_.R.wpS, _root_.R.wpE, _root_.R.wpT, _root_.R.wpL, _root_.R.wpO, _root_.R.wpC, _root_.R.wpG, _root_.R.zL, _root_.R.wpI, _root_.L2.tSeq, _root_.L2.tRet, _root_.L2.zV, _root_.L2.uk, _root_.L2.yc, _root_.L2.zZ, _root_.L2.tIfS, _root_.L2.z9, _root_.L2.tOrV, _root_.L2.zX, _root_.L2.tNot, _root_.L2.tAnd, _root_.L2.tOr, _root_.L2.oP, _root_.R.vQ, _root_.L2.tIf, _root_.L2.tCB, _root_.L2.i9, _root_.L2.oQ, _root_.L2.nV, _root_.L2.tC, _root_.L2.tOp, _root_.L2.tUn, _root_.L2.oS, _root_.L2.tTup, _root_.L2.tLst, _root_.L2.um, _root_.L2.tBM, _root_.L2.tBM0, _root_.L2.tSl, _root_.L2.zW, _root_.L2.si, _root_.R.cv, _root_.L2.lK, _root_.L2.gSub, _root_.L2.AF, _root_.L2.z7, _root_.L2.tDIn, _root_.L2.ow, _root_.L2.vS, _root_.L2.vR, _root_.R.X2.t, _root_.R.X2.tt, _root_.L2.zU, _root_.L2.Ap, _root_.L2.BC, _root_.L2.wD, _root_.L2.iRev, _root_.L2.mD, _root_.L2.zY, _root_.L2.gTup, _root_.L2.u4, _root_.L2.gNil, _root_.R.CGs.len, _root_.L2.BA, _root_.L2.Bz, _root_.L2.BB, _root_.L2.iTup, _root_.L2.iEnum, _root_.List.getElem?_cons_zero, _root_.List.getElem?_cons_succ, _root_.Option.some.injEq, _root_.exists_eq_left', _root_.exists_eq_left, _root_.L2.V.bl.injEq, _root_.L2.V.int.injEq, _root_.L2.V.str.injEq, _root_.List.set_cons_zero, _root_.List.set_cons_succ, _root_.R.CL.len, _root_.R.Ty.t, _root_.R.tM, _root_.R.Aa, _root_.R.Bm, _root_.R.kJ, _root_.R.div_ii, _root_.R.pow_ii, _root_.R.add_ss, _root_.R.Bs, _root_.R.le_ii, _root_.R.nh, _root_.R.pL, _root_.R.Bj, _root_.R.is_n, _root_.R.isnot_n, _root_.R.len_s, _root_.R.idx_s, _root_.R.cut_s, _root_.List.append_nil, _root_.R.iR, _root_.List.map_cons, _root_.List.map_nil, _root_.List.nil_append, _root_.List.cons_append])
namespace Cp
open PySem R
noncomputable def wg:List Str:=["thing"]
noncomputable def ph:List Str:=["thing"]
noncomputable def p8:CB:=
  (.cons (.ret (.and (.bfn .isinstance (.cons (.var 0) (.cons (.ty .int) .nil))) (.not (.bfn .isinstance (.cons (.var 0) (.cons (.ty .bool) .nil))))))
  .nil)
noncomputable def yC:List Str:=["thing"]
noncomputable def rh:List Str:=["thing"]
noncomputable def rT:CB:=
  (.cons (.iff (.not (.bfn .isinstance (.cons (.var 0) (.cons (.ty .str) .nil))))
  (.cons (.ret (.con (.bool false)))
  .nil)
  .nil)
  (.cons (.iff (.not (.chain .LtE .LtE (.con (.int 1)) (.bfn .len (.cons (.var 0) .nil)) (.glo "LONGEST_NAME")))
  (.cons (.ret (.con (.bool false)))
  .nil)
  .nil)
  (.cons (.ret (.bfn .all (.cons (.comp ["sign"] [] (.name 0) (.seq (.var 0)) .no (.cmp .In (.var 0) (.glo "LETTERS"))) .nil)))
  .nil)))
noncomputable def sO:List Str:=["thing"]
noncomputable def lC:List Str:=["thing"]
noncomputable def lY:CB:=
  (.cons (.ret (.and (.call "is_whole" (.cons (.var 0) .nil)) (.cmp .In (.var 0) (.tup (.cons (.con (.int 0)) (.cons (.con (.int 1)) .nil))))))
  .nil)
end Cp
set_option maxHeartbeats 1000000
namespace Cp
open PySem PySem.Spec PyProof.Rows L2 R
noncomputable def gN:Option HO->String
 |some (.lst _)=>"list"
 |some (.frz _ (.lst _))=>"list"
 |some (.tup _)=>"tuple"
 |some (.dK _)=>"dict"
 |some (.dT _)=>"dict"
 |_=>"?"
noncomputable def tyName(H:Hp):V->String
 |.non=>"NoneType"
 |.bl _=>"bool"
 |.int _=>"int"
 |.str _=>"str"
 |.ref a=>gN (H a)
 |_=>"?"
noncomputable def Known(H:Hp)(x:V):Prop:=tyName H x≠"?"
theorem Known.ty{K:aa}{H:Hp}{x:V}(h:Known H x):jn K H x (.type (tyName H x)):=by
 cases x with
 |non=>exact .non
 |bl b=>exact .bl b
 |int i=>exact .int i
 |str s=>exact .str s
 |ref a=>
  have h':gN (H a)≠"?":=h;show jn K H (.ref a) (.type (gN (H a)));cases e:H a with
  |none=>rw[e]at h';exact absurd rfl h'
  |some o=>
   rw[e]at h';cases o with
   |lst xs=>exact .lst e
   |tup xs=>exact .tup e
   |dK kvs=>exact .dK e
   |dT kvs=>exact .dT e
   |frz ob u=>
    cases u with
    |lst xs=>exact .frz e
    |_=>exact absurd rfl h'
   |_=>exact absurd rfl h'
 |_=>exact absurd rfl h
theorem Known.mem{H:Hp}{x:V}(h:Known H x):tyName H x∈["NoneType","bool","int","str","list","tuple","dict"]:=by
 cases x with
 |ref a=>
  have h':gN (H a)≠"?":=h;show gN (H a)∈_;cases e:H a with
  |none=>rw[e]at h';exact absurd rfl h'
  |some o=>
   rw[e]at h';cases o with
   |lst xs=>simp[gN]
   |tup xs=>simp[gN]
   |dK kvs=>simp[gN]
   |dT kvs=>simp[gN]
   |frz ob u=>
    cases u with
    |lst xs=>simp[gN]
    |_=>exact absurd rfl h'
   |_=>exact absurd rfl h'
 |_=>first
  |exact absurd rfl h
  |simp[tyName]
noncomputable def ll(a b:String):Bool:=a==b||(a=="bool"&&b=="int")
theorem kit_ty(K:aa):∀(a:String)(t:Ty),a∈["NoneType","bool","int","str","list","tuple","dict"]->fI K (.type a) (.type t.t)=some (ll a t.t):=by
 intro a t h;simp only[aI,bE,or_false]at h;rcases h with rfl|rfl|rfl|rfl|rfl|rfl|rfl<;>cases t<;>rfl
theorem isi{K:aa}{H:Hp}{x:V}{Q:VK}(h:Known H x)(t:Ty)(q:Q (.bl (ll (tyName H x) t.t)) H):rBf K .isinstance [x,.ty t.t] H Q:=
 .inl ⟨x,t.t,_,_,rfl,h.ty,kit_ty K _ t h.mem,q⟩
theorem kn_int{H:Hp}{i:Int}:Known H (.int i):=by show "int"≠"?";decide
theorem tm{H:Hp}{x:Str}:Known H (.str x):=by show "str"≠"?";decide
theorem kn_tup{H:Hp}{a:Addr}{xs:List V}(h:H a=some (.tup xs)):Known H (.ref a):=by show gN (H a)≠"?";rw[h];show "tuple"≠"?";decide
theorem kn_lst{H:Hp}{a:Addr}{xs:List V}(h:H a=some (.lst xs)):Known H (.ref a):=by show gN (H a)≠"?";rw[h];show "list"≠"?";decide
theorem kn_dK{H:Hp}{a:Addr}{xs:List (Key×V)}(h:H a=some (.dK xs)):Known H (.ref a):=by show gN (H a)≠"?";rw[h];show "dict"≠"?";decide
theorem cZ{H H1:Hp}{l:Addr}{o:HO}(s:aU H H1)(h:H l=none):aU H (upd H1 l o):=fun b u e=>by rw[aH (bb e h)];exact s b u e
noncomputable def isWhole:V->Bool
 |.int _=>true
 |_=>false
noncomputable def iM:V->Bool
 |.int i=>i==0||i==1
 |_=>false
noncomputable def spB(f:V->Bool):Sp:=fun vs H Q _=>∃x,vs=[x]/\Known H x/\∀H',aU H H'->Q (.bl (f x)) H'
theorem sub_int{H:Hp}{x:V}(h:Known H x):(ll (tyName H x) "int"&& !ll (tyName H x) "bool")=isWhole x:=by
 cases x with
 |ref a=>
  have h':gN (H a)≠"?":=h;show(ll (gN (H a)) "int"&& !ll (gN (H a)) "bool")=false;unfold gN;split <;>rfl
 |_=>rfl
theorem uh{G:Gam}{K:aa}:Sat G K (spB isWhole) p8 ph:=by
 rintro vs H Q E ⟨x,rfl,hk,q⟩;unfold p8;change wpB G K _ _ _ [some x] H;walk_at "wp";refine isi hk .int ⟨_,rfl,?_⟩;have e:=sub_int hk;cases h1:ll (tyName H x) "int" with
 |false=>
  rw[h1,eG]at e;have q1:=q H (aU.refl H);rw[<-e]at q1;simpa[Ty.t,h1]using q1
 |true=>
  rw[h1,Bool.true_and]at e;have q1:=q H (aU.refl H);rw[<-e]at q1;simp only[Ty.t,h1,if_true];exact isi hk .bool ⟨_,rfl,q1⟩
theorem qu{G:Gam}{K:aa}(g1:G.fn "is_whole" 1=some (spB isWhole,[])):
  Sat G K (spB iM) lY lC:=by
 rintro vs H Q E ⟨x,rfl,hk,q⟩;unfold lY;change wpB G K _ _ _ [some x] H;walk_at "wp";refine⟨_,_,g1,x,rfl,hk,fun H1 s1=>⟨_,rfl,?_⟩⟩;cases x with
 |int i=>
  refine⟨by decide,fun p hp=>.inr ⟨p,_,rfl,.inr (SqT.of av),rfl,rfl,?_⟩⟩;have q1:=q _ (s1.trans (aB (o:=.tup [.int 0,.int 1]) hp));have e:(if false=true then !inV (.int i) [.int 0,.int 1]else inV (.int i) [.int 0,.int 1])=iM (.int i):=by
   show((0:Int)==i||((1:Int)==i||false))=(i==0||i==1);rw[vL,Bool.beq_comm,Bool.beq_comm (a:=(1:Int))]
  rw[e];exact q1
 |_=>exact q H1 s1
noncomputable def fA(c:Nat):Bool:=decide (97<=c/\c<=122)
noncomputable def eR(z:Str):Bool:=decide (1<=z.length/\z.length<=8)&&z.cps.toList.all fA
noncomputable def isName:V->Bool
 |.str z=>eR z
 |_=>false
noncomputable def LETTERS:Str:="abcdefghijklmnopqrstuvwxyz"
theorem uU(c:Nat):decide (c∈LETTERS.cps.toList)=fA c:=by
 unfold fA;rw[show LETTERS.cps.toList=List.range' 97 26 by decide+kernel,decide_eq_decide,List.mem_range'_1];exact⟨fun h=>⟨h.1,Nat.le_of_lt_succ h.2⟩,fun h=>⟨h.1,Nat.lt_succ_of_le h.2⟩⟩
theorem wC{K:aa}{H:Hp}{c:Nat}{Q:VK}(q:Q (.bl (fA c)) H):fu K .In (.str ⟨#[c]⟩) (.str LETTERS) H Q:=by
 refine .inl ⟨_,_,rfl,rfl,?_⟩;rw[StrLaws.found_one,uU];exact q
theorem line20:(20000:Nat)<=sizeLine:=by decide
noncomputable def spN:Sp:=fun vs H Q _=>∃x,vs=[x]/\Known H x/\(∀z,x=.str z->z.length<=20000)/\∀H',aU H H'->Q (.bl (isName x)) H'
theorem sub_str{H:Hp}{x:V}(h:Known H x):ll (tyName H x) "str"=(match x with |.str _=>true|_=>false):=by
 cases x with
 |ref a=>
  show ll (gN (H a)) "str"=false;unfold gN;split <;>rfl
 |_=>rfl
theorem vM{G:Gam}{K:aa}(v1:G.val "LETTERS"=some (.str LETTERS))(v2:G.val "LONGEST_NAME"=some (.int 8)):
  Sat G K spN rT rh:=by
 rintro vs H Q E ⟨x,rfl,hk,hz,q⟩;unfold rT;change wpB G K _ _ _ [some x] H;walk_at "wp";refine isi hk .str ⟨_,rfl,?_⟩;rw[show Ty.t .str="str" from rfl,sub_str hk];cases x with
 |str z=>
  have hz:=hz z rfl;have hl:z.length<=sizeLine:=aP hz line20;have all:∀R:VK,(∀H',aU H H'->R (.bl (z.cps.toList.all fA)) H')->oR (wF K (nV 0)) (lK 0) yb (tOp (fu K .In) (nV 0) fun σ H Q=>∃v,G.val "LETTERS"=some v/\Q v H) (iR ["sign"] []) [some (.str z)] H fun x H2=>rBf K .all [x] H2 R:=by
   intro R hR;refine fB (vn rfl (iN seq_str hl (fun _ _=>trivial) (fun i v _=>v=.bl (fA (z.cps.toList.getD i 0))) (fun _ _ _ _ _ h=>h) (fun τ=>∃t,τ=[t]) ⟨none,rfl⟩ ?_ ?_))
   ·rintro i x τ H3 R hi ⟨t,rfl⟩ s3 ⟨c,hc,rfl⟩ k
    refine⟨_,rfl,_,v1,wC (k _ _ _ ⟨_,rfl⟩ (aU.refl _) ?_)⟩;have :z.cps.toList[i]? =some c:=by simpa using hc
    rw[aK,this];rfl
   ·intro vs H2 l hvl hF s2 hl2
    have e:=bool_list hvl hF;subst e;refine⟨l,_,rfl,SqL.of av,?_⟩;have e2:((aM z.length).map fun i=>fA (z.cps.toList.getD i 0)).all id=z.cps.toList.all fA:=by
     have :=B1 z.cps.toList 0 fA
     rw[show z.cps.toList.length=z.length by simp[vx]]at this;exact this
    rw[e2];exact hR _ (s2.trans (aB hl2))
  simp only[Bool.not_true,bH,if_false,v2,fh,exists_eq_left',exists_eq_left,V.bl.injEq,V.int.injEq,le_ii,len_s,hl,true_and];have q':∀H',aU H H'->Q (.bl (eR z)) H':=q;unfold eR at q';by_cases h1:1<=z.length
  ·by_cases h2:z.length<=8
   ·have e1:decide ((1:Int)<=z.length)=true:=decide_eq_true (by omega)
    have e2:decide ((z.length:Int)<=8)=true:=decide_eq_true (by omega);rw[decide_eq_true (And.intro h1 h2),Bool.true_and]at q';simp only[e1,e2,if_true,Bool.not_true,bH,if_false];exact all Q q'
   ·have e1:decide ((1:Int)<=z.length)=true:=decide_eq_true (by omega)
    have e2:decide ((z.length:Int)<=8)=false:=decide_eq_false (by omega);rw[decide_eq_false (fun h=>h2 h.2),eG]at q';simp only[e1,e2,if_true,Bool.not_false];exact q' H (aU.refl H)
  ·have e1:decide ((1:Int)<=z.length)=false:=decide_eq_false (by omega)
   rw[decide_eq_false (fun h=>h1 h.1),eG]at q';simp only[e1,bH,if_false,Bool.not_false,if_true];exact q' H (aU.refl H)
 |_=>exact q H (aU.refl H)
theorem jW{J:It}{Hc:Hp->Prop}{g:TG}{tc:TT}{te:TE}{Q:VK}{τ0:L2.St}{H1:Hp}{xs:List V}(S:mW J xs.length (fun i x _=>xs[i]? =some x) Hc)(hn:xs.length<=sizeLine)(hc:∀H,aU H1 H->Hc H)
  (t:V->Bool)(f:V->V)(T:L2.St->Prop)(hT:T τ0)
  (step:∀x τ H3 (Rt:L2.St->V->Hp->Prop)(Rf:L2.St->Hp->Prop),x∈xs->T τ->aU H1 H3->(∀τ' H6,T τ'->aU H3 H6->t x=true->Rt τ' (f x) H6)->(∀τ' H6,T τ'->aU H3 H6->t x=false->Rf τ' H6)->
   g x τ H3 fun τ4 H4=>tc τ4 H4 fun b H5=>if b=true then te τ4 H5 (Rt τ4)else Rf τ4 H5)
  (fin:∀H2 l,aU H1 H2->H2 l=none->Q (.ref l) (upd H2 l (.lst ((xs.filter t).map f)))):xU J g tc te τ0 H1 Q:=by
 refine⟨fun i m τ acc H2=>m=xs.length-i/\i<=xs.length/\T τ/\acc=((xs.take i).filter t).map f/\aU H1 H2,⟨xs.length,by simp,aL _,hT,by simp,aU.refl _⟩,?_⟩;rintro i m τ acc H2 ⟨rfl,hi,ht,rfl,sm⟩;have q:=hc H2 sm;by_cases hlt:i<xs.length
 ·refine .inr ⟨S.go i H2 q hlt,fun τ' acc' H'=>T τ'/\acc'=((xs.take (i+1)).filter t).map f/\aU H1 H',fun τ' acc' H' ⟨a,b,c⟩=>⟨xs.length-(i+1),by omega,rfl,hlt,a,b,c⟩,fun x H3 y=>?_⟩
  obtain⟨y1,y2⟩:=S.yld i H2 x H3 q hlt y;have e:xs.take (i+1)=xs.take i++[x]:=by rw[bP,y1];rfl
  have hlen:(((xs.take i).filter t).map f).length<=i:=by
   rw[ae];refine aP (zt _ _) ?_;rw[aW];omega
  refine step x τ H3 _ _ (bj y1) ht (sm.trans y2) (fun τ' H6 h1 h2 h3=>⟨by omega,h1,?_,(sm.trans y2).trans h2⟩) (fun τ' H6 h1 h2 h3=>⟨h1,?_,(sm.trans y2).trans h2⟩)
  ·rw[e,List.filter_append,aG]
   simp[h3]
  ·rw[e,List.filter_append,aG]
   simp[h3]
 ·have e:i=xs.length:=by omega
  subst e;rw[bN];exact .inl ⟨S.stop _ H2 q (ar _),fun l hl'=>fin H2 l sm hl'⟩
end Cp
namespace Lt
open PySem R
noncomputable def qz:List Str:=["_law_script","_law_k"]
noncomputable def kn:List Str:=["_law_script","_law_k"]
noncomputable def kC:CB:=
  (.cons (.iff (.cmp .Lt (.var 1) (.bfn .len (.cons (.var 0) .nil)))
  (.cons (.ret (.idx (.var 0) (.var 1)))
  .nil)
  .nil)
  (.cons (.ret (.con (.int 0)))
  .nil))
end Lt
namespace Lt
open PySem PySem.Spec PyProof.Rows L2 R Cp
theorem xG{i j:Int}(h0:0<=j)(h1:j<18446744073709551616):w8 i j:=.inr ⟨by omega,by omega⟩
theorem cmulL{i j:Int}(h0:0<=i)(h1:i<18446744073709551616):w8 i j:=.inl ⟨by omega,by omega⟩
noncomputable def vW(K:aa):Sp:=fun vs H Q _=>∃(a:Addr)(ns:List Int)(k:Nat),vs=[.ref a,.int k]/\SqL K H a (ns.map V.int)/\Q (.int (ns.getD k 0)) H
theorem wp_cell{G:Gam}{K:aa}:Sat G K (vW K) kC kn:=by
 rintro vs H Q E ⟨a,ns,k,rfl,hs,q⟩;unfold kC;change wpB G K _ _ _ [some (.ref a),some (.int k)] H;walk_at "wp";refine Or.inl ⟨a,_,rfl,.inl hs,?_⟩;show fu K .Lt (.int (k:Int)) (.int ((ns.map V.int).length:Int)) H _;rw[Bs,ae];refine⟨_,rfl,?_⟩;by_cases hk:k<ns.length
 ·rw[decide_eq_true (by omega:(k:Int)<(ns.length:Int)),if_pos rfl]
  refine .inl ⟨a,_,k,_,rfl,rfl,hs,fF (j:=k) (v:=.int (ns.getD k 0)) ?_,q⟩;rw[aZ,ah hk,aK,ah hk];rfl
 ·rw[decide_eq_false (by omega:¬(k:Int)<(ns.length:Int)),if_neg aQ]
  rw[aK,kG (by omega)]at q;exact q
noncomputable def tj(x:Int):Nat:=97+(x%26).toNat
theorem lett_ok(x:Int):fA (tj x)=true:=by
 have h0:0<=x%26:=bX _ (by decide);have h1:x%26<26:=cM _ (by decide);unfold fA tj;exact decide_eq_true (by omega)
theorem uV{x y:Int}(h:tj x=tj y):x%26=y%26:=by
 have h0:0<=x%26:=bX _ (by decide);have h1:0<=y%26:=bX _ (by decide);unfold tj at h;have e:=Nat.add_left_cancel h;rw[<-fi h0,<-fi h1,e]
noncomputable abbrev mkS(l:List Nat):Str:=⟨l.toArray⟩
theorem sW(a b:List Nat):mkS a++mkS b=mkS (a++b):=by
 show(⟨a.toArray++b.toArray⟩:Str)=⟨(a++b).toArray⟩;rw[List.append_toArray]
theorem jz(a:List Nat):(mkS a).length=a.length:=by show a.toArray.size=_;simp
theorem va(l:List Nat)(k:Nat):wO (mkS l) none (some (k:Int))=mkS (l.take k):=by
 unfold wO;rw[HT.sC,HT.oY,jz];show mkS _=_;congr 1;show((l.toArray.toList.drop 0).take (min k l.length-0))=l.take k;rw[uf,kh];show l.take (min k l.length)=l.take k;by_cases h:k<=l.length
 ·rw[tY h]
 ·rw[Nat.min_eq_right (by omega),bN,j6 (by omega)]
theorem wt:∀j:Fin 26,LETTERS.cps.toList[j.val]? =some (97+j.val):=by decide+kernel
theorem qf(x:Int):atI LETTERS.cps.toList (x%26)=some (tj x):=by
 have h0:0<=x%26:=bX _ (by decide);have h1:x%26<26:=cM _ (by decide);obtain⟨j,hj⟩:=fO h0;rw[hj];refine fF ?_;have :=wt ⟨j,by omega⟩;rw[this];unfold tj;rw[hj];rfl
theorem lJ:LETTERS.length<=sizeLine:=by decide+kernel
theorem short{n:Nat}(h:n<=40):n<=sizeLine:=aP h (by decide)
theorem mk1(x:Nat):(⟨#[x]⟩:Str)=mkS [x]:=rfl
end Lt
namespace Q
open PySem PySem.Spec PySem.W PyProof.Rows L2
theorem uK{ks:List Str}(nd:ks.Nodup):(ord ks).Perm (aM ks.length):=by
 unfold ord;split
 ·exact d8 _
 ·have P:=(jv (oO nd) (by omega)).1
  have :=t5.mp P.perm
  simpa using this
theorem range_getD{α:Type}(d:α)(ys:List α):(aM ys.length).map (fun i=>ys.getD i d)=ys:=by
 apply dg
 ·simp
 ·intro i h1 h2
  simp[h2]
theorem uw{α:Type}(d:α){ks:List Str}{ys:List α}(nd:ks.Nodup)(hl:ks.length=ys.length):(sortBy d ks ys).Perm ys:=by
 unfold sortBy;have h:=(uK nd).map fun i=>ys.getD i d;rw[hl,range_getD]at h;exact h
theorem qw{ks:List Str}(nd:ks.Nodup):(sortBy ("":Str) ks ks).Pairwise fun a b=>tlt a b=true:=by
 unfold sortBy ord;split
 ·rename_i h
  rw[range_getD]
  match ks,h with
  | [],_=>exact .nil
  | [x],_=>simp
  |_::_::_,h=>simp at h;omega
 ·rename_i h
  obtain⟨P,U,_⟩:=jv (oO nd) (by omega:1<=ks.length);rw[vz];intro i j hi hj hij;have hi':i<ks.length:=by simpa[P.size]using hi
  have hj':j<ks.length:=by simpa[P.size]using hj
  have u:=U i j hij hj';rw[bR,bR];have e:∀(k:Nat)(hk:k<(run (nY ks) (cY ks.length)).toList.length),(run (nY ks) (cY ks.length)).toList[k]=at' (run (nY ks) (cY ks.length)) k:=fun k hk=>by
   have hk':k<(run (nY ks) (cY ks.length)).size:=by simpa using hk
   simp[at',hk']
  rw[e,e];exact u
end Q
namespace Kc
open PySem PySem.Spec PyProof.Rows L2 R Cp Lt
theorem fX{J:It}{n:Nat}{it:Nat->V->Hp->Prop}{Hc:Hp->Prop}{g:TG}{tb:TS}{D:Ends}{σ:L2.St}{H:Hp}(S:mW J n it Hc)(Pv:Nat->L2.St->Hp->Prop)(h0:Pv 0 σ H)(hl:∀i σ H,i<=n->Pv i σ H->Hc H)
  (hs:∀i x σ H H' (D2:Ends),i<n->Pv i σ H->it i x H'->aU H H'->(∀σ2 H2,Pv (i+1) σ2 H2->D2.nx σ2 H2)->D2.rt=D.rt->g x σ H' fun σ2 H2=>tb D2 σ2 H2)(hd:∀σ H,Pv n σ H->D.nx σ H):ForB J g tb D σ H:=
 for_seq S Pv h0 hl (fun i x σ H H' a b c d=>hs i x σ H H' _ a b c d (fun _ _ h=>h) rfl) hd
theorem kI{us:List Value}(h:us.length=1):∃a,us=[a]:=by
 cases us with
 |nil=>exact nomatch h
 |cons a r=>exact⟨a,by rw[dP.mp (ji h)]⟩
theorem fP{us:List Value}(h:us.length=2):∃a b,us=[a,b]:=by
 cases us with
 |nil=>exact nomatch h
 |cons a r=>
  obtain⟨b,e⟩:=kI (ji h);exact⟨a,b,by rw[e]⟩
theorem fq{us:List Value}(h:us.length=3):∃a b c,us=[a,b,c]:=by
 cases us with
 |nil=>exact nomatch h
 |cons a r=>
  obtain⟨b,c,e⟩:=fP (ji h);exact⟨a,b,c,by rw[e]⟩
theorem bt{α:Type}{F:α->Prop}{vs:List V}{n:Nat}(h:∃a,F a)(k:∀a,F a->vs.length=n):vs.length=n:=let⟨a,f⟩:=h;k a f
theorem eJ{P:Prop}{l vs:List V}{n:Nat}(h:vs=l/\P)(e:l.length=n):vs.length=n:=by rw[h.1];exact e
end Kc
namespace F5
open PySem
noncomputable abbrev Nm:=Str
noncomputable def ch(T:Nm->Int)(F:List (Nm×Nm)):Nat:=F.countP fun e=>decide (T e.1≠T e.2)
noncomputable def bad(t:Int)(l:List Int):Nat:=l.countP fun x=>decide (x≠t)
noncomputable def zo(r:Option Int)(z o:Nat):Nat×Nat:=if r=some 0 then(o+1,o)else if r=some 1 then(z,z+1)else(z,o)
noncomputable def half(z o:Nat):Option Int:=if o<z then some 0 else if z<o then some 1 else none
structure Cl where
 cs:Nm->List Int
 w:Nat
noncomputable def Cl.zo(rd:Nm->Option Int)(S:Cl)(n:Nm):Nat×Nat:=F5.zo (rd n) ((S.cs n).count 0) ((S.cs n).count 1)
noncomputable def Cl.half(rd:Nm->Option Int)(S:Cl)(n:Nm):Option Int:=F5.half (S.zo rd n).1 (S.zo rd n).2
noncomputable def put(cs:Nm->List Int)(h:Option Int)(p:Option Nm):Nm->List Int:=fun u=>match h,p with
 |some x,some q=>if u=q then cs q++[x]else cs u
 |_,_=>cs u
noncomputable def Cl.step(rd:Nm->Option Int)(S:Cl)(e:Nm×Option Nm):Cl:=⟨put S.cs (S.half rd e.1) e.2,S.w+min (S.zo rd e.1).1 (S.zo rd e.1).2⟩
noncomputable def halves(rd:Nm->Option Int):List (Nm×Option Nm)->Cl->List (Option Int)
 | [],_=>[]
 |e::r,S=>S.half rd e.1::halves rd r (S.step rd e)
noncomputable def fC(rd:Nm->Option Int)(R:List (Nm×Option Nm))(S:Cl):Cl:=R.foldl (fun S e=>S.step rd e) S
inductive Back:List (Nm×Option Nm)->Prop
 |nil:Back []
 |cons {e:Nm×Option Nm} {r:List (Nm×Option Nm)} (hp:∀q,e.2=some q->q∈r.map (·.1)) (hn:e.1∉r.map (·.1)) (t:Back r):Back (e::r)
noncomputable def R01(l:List Int):Prop:=∀x∈l,x=0\/x=1
noncomputable def un(T:Nm->Int)(e:Nm×Option Nm):Nat:=match e.2 with
 |some q=>if T e.1=T q then 0 else 1
 |none=>0
noncomputable def cost(T:Nm->Int)(R:List (Nm×Option Nm)):Nat:=(R.map (un T)).sum
noncomputable def due(T:Nm->Int)(cs:Nm->List Int)(R:List (Nm×Option Nm)):Nat:=(R.map fun e=>bad (T e.1) (cs e.1)).sum
theorem zf{t:Int}{l:List Int}(h:R01 l)(ht:t=0\/t=1):bad t l=if t=0 then l.count 1 else l.count 0:=by
 induction l with
 |nil=>rcases ht with rfl|rfl<;>rfl
 |cons x l ih=>
  have ih:=ih fun y hy=>h y (aF _ hy);unfold bad at ih⊢;rw[cL,ih];rcases h x au with rfl|rfl<;>rcases ht with rfl|rfl<;>simp[List.count_cons]
theorem xF{T:Nm->Int}{cs:Nm->List Int}{x:Int}{q:Nm}:∀{R:List (Nm×Option Nm)},Back R->due T (put cs (some x) (some q)) R=due T cs R+if q∈R.map (·.1)then(if x=T q then 0 else 1)else 0
 | [],_=>rfl
 |e::r,.cons hp hn t=>by
  have ih:=xF (T:=T) (cs:=cs) (x:=x) (q:=q) t;unfold due at ih⊢;rw[aY,fk,aY,fk,ih];by_cases c:e.1=q
  ·subst c
   have :e.1∉r.map (·.1):=hn;rw[if_neg this,if_pos (by simp)];show bad (T e.1) (if e.1=e.1 then cs e.1++[x]else cs e.1)+_=_;rw[if_pos rfl];unfold bad;rw[List.countP_append];by_cases h:x=T e.1<;>simp[h]<;>omega
  ·have e2:put cs (some x) (some q) e.1=cs e.1:=if_neg c
   rw[e2];by_cases h:q∈r.map (·.1)
   ·have h':q∈(e::r).map (·.1):=aF _ h
    rw[if_pos h,if_pos h'];omega
   ·have h':q∉(e::r).map (·.1):=fun z=>(aI.mp z).elim (fun z=>c z.symm) h
    rw[if_neg h,if_neg h'];omega
theorem u6{T:Nm->Int}{rd:Nm->Option Int}{S:Cl}{e:Nm×Option Nm}{r:List (Nm×Option Nm)}(b:Back (e::r)):due T (S.step rd e).cs r=due T S.cs r+match S.half rd e.1,e.2 with
  |some x,some q=>if x=T q then 0 else 1
  |_,_=>0:=by
 cases b with
 |cons hp hn t=>
  show due T (put S.cs (S.half rd e.1) e.2) r=_;cases hh:S.half rd e.1 with
  |none=>rfl
  |some x=>
   cases he:e.2 with
   |none=>rfl
   |some q=>rw[xF t,if_pos (hp q he)]
noncomputable def Tells(T:Nm->Int)(rd:Nm->Option Int)(n:Nm):Prop:=(T n=0\/T n=1)/\∀x,rd n=some x->T n=x
theorem pH(rd:Nm->Option Int)(S:Cl)(n:Nm)(h01:R01 (S.cs n))(hr:∀x,rd n=some x->x=0\/x=1){T:Nm->Int}(hT:Tells T rd n):
  (S.half rd n=none/\bad (T n) (S.cs n)=min (S.zo rd n).1 (S.zo rd n).2)\/∃x,S.half rd n=some x/\(x=0\/x=1)/\((T n=x/\bad (T n) (S.cs n)=min (S.zo rd n).1 (S.zo rd n).2)\/(T n≠x/\bad (T n) (S.cs n)≥ min (S.zo rd n).1 (S.zo rd n).2+1)):=by
 obtain⟨ht,hrd⟩:=hT;rw[zf h01 ht];unfold Cl.half Cl.zo F5.half F5.zo;generalize(S.cs n).count 0=z;generalize(S.cs n).count 1=o;cases hx:rd n with
 |none=>
  simp only[reduceCtorEq,if_false];rcases Nat.lt_trichotomy z o with h|h|h
  ·refine .inr ⟨1,by rw[if_neg (by omega),if_pos h],.inr rfl,?_⟩
   rcases ht with e|e
   ·exact .inr ⟨by rw[e];decide,by rw[e,if_pos rfl];omega⟩
   ·exact .inl ⟨e,by rw[e,if_neg (by decide)];omega⟩
  ·refine .inl ⟨by rw[if_neg (by omega),if_neg (by omega)],?_⟩
   rcases ht with e|e
   ·rw[e,if_pos rfl];omega
   ·rw[e,if_neg (by decide)];omega
  ·refine .inr ⟨0,by rw[if_pos h],.inl rfl,?_⟩
   rcases ht with e|e
   ·exact .inl ⟨e,by rw[e,if_pos rfl];omega⟩
   ·exact .inr ⟨by rw[e];decide,by rw[e,if_neg (by decide)];omega⟩
 |some x=>
  have e:=hrd x hx;rcases hr x hx with rfl|rfl
  ·refine .inr ⟨0,by simp,.inl rfl,.inl ⟨e,?_⟩⟩
   rw[e,if_pos rfl,if_pos rfl];show o=min (o+1) o;omega
  ·refine .inr ⟨1,by simp,.inr rfl,.inl ⟨e,?_⟩⟩
   rw[e,if_neg (by decide),if_neg (by simp),if_pos rfl];show z=min z (z+1);omega
theorem ur{rd:Nm->Option Int}{S:Cl}(h:∀n,R01 (S.cs n))(hr:∀n x,rd n=some x->x=0\/x=1)(e:Nm×Option Nm):∀n,R01 ((S.step rd e).cs n):=by
 intro n x hx;have hx:x∈put S.cs (S.half rd e.1) e.2 n:=hx;unfold put at hx;cases hh:S.half rd e.1 with
 |none=>rw[hh]at hx;exact h n x hx
 |some y=>
  have hy:y=0\/y=1:=by
   have :F5.half (S.zo rd e.1).1 (S.zo rd e.1).2=some y:=hh;unfold F5.half at this;split at this
   ·cases this;exact .inl rfl
   ·split at this
    ·cases this;exact .inr rfl
    ·cases this
  cases he:e.2 with
  |none=>rw[hh,he]at hx;exact h n x hx
  |some q=>
   rw[hh,he]at hx;dsimp only at hx;split at hx
   ·rcases ai.mp hx with hx|hx
    ·exact h q x hx
    ·rw[aq.mp hx];exact hy
   ·exact h n x hx
theorem uN{rd:Nm->Option Int}(hr:∀n x,rd n=some x->x=0\/x=1){T:Nm->Int}:∀{R:List (Nm×Option Nm)}{S:Cl},Back R->(∀n,R01 (S.cs n))->(∀e∈R,Tells T rd e.1)->(fC rd R S).w<=S.w+due T S.cs R+cost T R
 | [],S,_,_,_=>by show S.w<=S.w+0+0;omega
 |e::r,S,b,h01,hT=>by
  have ih:=uN hr (S:=S.step rd e) (R:=r) (by cases b;assumption) (ur h01 hr e) fun x hx=>hT x (aF _ hx);have d:=u6 (T:=T) (rd:=rd) (S:=S) b;have hc:=pH rd S e.1 (h01 e.1) (hr e.1) (hT e au);have e1:due T S.cs (e::r)=bad (T e.1) (S.cs e.1)+due T S.cs r:=by unfold due;rw[aY,fk]
  have e2:cost T (e::r)=un T e+cost T r:=by unfold cost;rw[aY,fk]
  have e3:(S.step rd e).w=S.w+min (S.zo rd e.1).1 (S.zo rd e.1).2:=rfl;show(fC rd r (S.step rd e)).w<=_;rw[e1,e2];rw[e3]at ih;rcases hc with⟨hn,hb⟩ |⟨x,hx,_,hb⟩
  ·rw[hn]at d
   dsimp only at d;omega
  ·rw[hx]at d
   unfold un;cases hp:e.2 with
   |none=>
    rw[hp]at d;dsimp only at d⊢;rcases hb with⟨_,hb⟩ |⟨_,hb⟩<;>omega
   |some q=>
    rw[hp]at d;dsimp only at d⊢;rcases hb with⟨h1,hb⟩ |⟨h1,hb⟩
    ·rw[h1]at hb⊢
     by_cases c:x=T q
     ·rw[if_pos c]at d⊢
      omega
     ·rw[if_neg c]at d⊢
      omega
    ·split at d<;>split <;>omega
noncomputable def Fit(T:Nm->Int):List (Nm×Option Nm)->List (Option Int)->Prop
 |e::r,h::hs=>(∀x,h=some x->T e.1=x)/\(h=none->∀q,e.2=some q->T e.1=T q)/\Fit T r hs
 |_,_=>True
theorem B0{rd:Nm->Option Int}(hr:∀n x,rd n=some x->x=0\/x=1){T:Nm->Int}:∀{R:List (Nm×Option Nm)}{S:Cl},Back R->(∀n,R01 (S.cs n))->(∀e∈R,Tells T rd e.1)->Fit T R (halves rd R S)->(fC rd R S).w=S.w+due T S.cs R+cost T R
 | [],S,_,_,_,_=>by show S.w=S.w+0+0;omega
 |e::r,S,b,h01,hT,hf=>by
  obtain⟨f1,f2,f3⟩:=(show(∀x,S.half rd e.1=some x->T e.1=x)/\(S.half rd e.1=none->∀q,e.2=some q->T e.1=T q)/\Fit T r (halves rd r (S.step rd e))from hf);have ih:=B0 hr (S:=S.step rd e) (R:=r) (by cases b;assumption) (ur h01 hr e) (fun x hx=>hT x (aF _ hx)) f3;have d:=u6 (T:=T) (rd:=rd) (S:=S) b;have hc:=pH rd S e.1 (h01 e.1) (hr e.1) (hT e au);have e1:due T S.cs (e::r)=bad (T e.1) (S.cs e.1)+due T S.cs r:=by unfold due;rw[aY,fk]
  have e2:cost T (e::r)=un T e+cost T r:=by unfold cost;rw[aY,fk]
  have e3:(S.step rd e).w=S.w+min (S.zo rd e.1).1 (S.zo rd e.1).2:=rfl;show(fC rd r (S.step rd e)).w=_;rw[e1,e2];rw[e3]at ih;rcases hc with⟨hn,hb⟩ |⟨x,hx,_,hb⟩
  ·rw[hn]at d
   dsimp only at d;unfold un;cases hp:e.2 with
   |none=>dsimp only;omega
   |some q=>
    dsimp only;rw[if_pos (f2 hn q hp)];omega
  ·have h1:=f1 x hx
   rw[hx]at d;rcases hb with⟨_,hb⟩ |⟨h2,_⟩
   ·unfold un
    cases hp:e.2 with
    |none=>
     rw[hp]at d;dsimp only at d⊢;omega
    |some q=>
     rw[hp]at d;dsimp only at d⊢;rw[h1]at hb⊢;by_cases c:x=T q
     ·rw[if_pos c]at d⊢
      omega
     ·rw[if_neg c]at d⊢
      omega
   ·exact absurd h1 h2
theorem yR{rd:Nm->Option Int}{S:Cl}{n:Nm}{x:Int}(hr:x=0\/x=1)(h:rd n=some x):S.half rd n=some x:=by
 unfold Cl.half Cl.zo F5.half F5.zo;rw[h];rcases hr with rfl|rfl
 ·simp
 ·simp
noncomputable def ends(F:List (Nm×Nm)):List Nm:=F.map (·.1)++F.map (·.2)
noncomputable def adj(F:List (Nm×Nm))(v:Nm):List Nm:=F.flatMap fun e=>(if e.1=v then[e.2]else[])++(if e.2=v then[e.1]else[])
theorem iT{F:List (Nm×Nm)}{v x:Nm}:x∈adj F v↔(v,x)∈F\/(x,v)∈F:=by
 unfold adj;rw[List.mem_flatMap];constructor
 ·rintro⟨⟨a,b⟩,he,hx⟩
  rcases ai.mp hx with hx|hx
  ·by_cases c:a=v
   ·rw[if_pos c,aq]at hx
    rw[hx,<-c];exact .inl he
   ·rw[if_neg c]at hx;cases hx
  ·by_cases c:b=v
   ·rw[if_pos c,aq]at hx
    rw[hx,<-c];exact .inr he
   ·rw[if_neg c]at hx;cases hx
 ·rintro(h|h)
  ·exact⟨_,h,by simp⟩
  ·exact⟨_,h,by simp⟩
structure Tree(F:List (Nm×Nm))(vs:List Nm):Prop where
 nd:vs.Nodup
 sub:∀e∈F,e.1∈vs/\e.2∈vs
 len:vs.length=F.length+1
 conn:∀S:Nm->Prop,(∀e∈F,S e.1↔S e.2)->∀a∈vs,∀b∈vs,S a->S b
theorem Tree.ends{F:List (Nm×Nm)}{vs:List Nm}(t:Tree F vs)(hF:F≠[])(v:Nm):v∈ends F↔v∈vs:=by
 unfold F5.ends;constructor
 ·intro h
  rcases ai.mp h with h|h
  ·obtain⟨e,he,rfl⟩:=aE.mp h
   exact(t.sub e he).1
  ·obtain⟨e,he,rfl⟩:=aE.mp h
   exact(t.sub e he).2
 ·intro hv
  by_cases c:v∈F.map (·.1)++F.map (·.2)
  ·exact c
  ·exfalso
   have h1:∀e∈F,e.1≠v/\e.2≠v:=fun e he=>⟨fun z=>c (ai.mpr (.inl (aE.mpr ⟨e,he,z⟩))),fun z=>c (ai.mpr (.inr (aE.mpr ⟨e,he,z⟩)))⟩;obtain⟨e,r,rfl⟩:=ue hF;obtain⟨h2,h3⟩:=t.sub e au;have :=t.conn (fun x=>x=v) (fun e he=>⟨fun z=>absurd z (h1 e he).1,fun z=>absurd z (h1 e he).2⟩) v hv e.1 h2 rfl;exact(h1 e au).1 this
theorem Tree.perm{F F':List (Nm×Nm)}{vs:List Nm}(t:Tree F vs)(p:F'.Perm F):Tree F' vs:=
 ⟨t.nd,fun e he=>t.sub e (p.mem_iff.mp he),by rw[t.len,p.length_eq],fun S h=>t.conn S fun e he=>h e (p.mem_iff.mpr he)⟩
theorem Tree.names{F:List (Nm×Nm)}{vs ws:List Nm}(t:Tree F vs)(nd:ws.Nodup)(h:∀v,v∈ws↔v∈vs):Tree F ws:=by
 have p:ws.Perm vs:=(iF nd t.nd).mpr h;exact⟨nd,fun e he=>⟨(h _).mpr (t.sub e he).1,(h _).mpr (t.sub e he).2⟩,by rw[p.length_eq,t.len],fun S hS a ha b hb=>t.conn S hS a ((h a).mp ha) b ((h b).mp hb)⟩
theorem ch_perm{T:Nm->Int}{F F':List (Nm×Nm)}(p:F'.Perm F):ch T F'=ch T F:=p.countP_eq _
inductive gh (F:List (Nm×Nm)):List (Nm×Option Nm)->Prop
 |one (s:Nm):gh F [(s,none)]
 |more {A:List (Nm×Option Nm)} {v q:Nm} (g:gh F A) (hq:q∈A.map (·.1)) (hv:v∉A.map (·.1)) (he:v∈adj F q):gh F (A++[(v,some q)])
theorem lE{A:List (Nm×Option Nm)}{v:Nm}:v∈A.reverse.map (·.1)↔v∈A.map (·.1):=by rw[eN,jt]
theorem gh.back{F:List (Nm×Nm)}{A:List (Nm×Option Nm)}(g:gh F A):Back A.reverse:=by
 induction g with
 |one s=>exact .cons (fun q z=>nomatch z) (fun z=>nomatch z) .nil
 |more g hq hv he ih=>
  rw[Cg];exact .cons (fun q z=>by cases z;exact lE.mpr hq) (fun z=>hv (lE.mp z)) ih
theorem gh.nd{F:List (Nm×Nm)}{A:List (Nm×Option Nm)}(g:gh F A):(A.map (·.1)).Nodup:=by
 induction g with
 |one s=>simp
 |more g hq hv he ih=>
  rw[aG,b7];refine⟨ih,by simp,fun a ha b hb z=>?_⟩;have :b=_:=aq.mp hb;subst this z;exact hv ha
theorem yW(T:Nm->Int)(A:List (Nm×Option Nm))(e:Nm×Option Nm):cost T (A++[e]).reverse=un T e+cost T A.reverse:=by
 unfold cost;rw[Cg];rfl
theorem gh.edges{F:List (Nm×Nm)}{A:List (Nm×Option Nm)}(g:gh F A):∃L:List (Nm×Nm),L.Nodup/\(∀x∈L,x∈F)/\(∀x∈L,x.1∈A.map (·.1)/\x.2∈A.map (·.1))/\L.length+1=A.length/\∀T,ch T L=cost T A.reverse:=by
 induction g with
 |one s=>exact⟨[],eF,fun x h=>(bE h).elim,fun x h=>(bE h).elim,rfl,fun T=>rfl⟩
 | @more A v q g hq hv he ih=>
  obtain⟨L,h1,h2,h3,h4,h5⟩:=ih;have up:∀x,x∈A.map (·.1)->x∈(A++[(v,some q)]).map (·.1):=fun x hx=>by rw[aG];exact ai.mpr (.inl hx)
  have hvm:v∈(A++[(v,some q)]).map (·.1):=by simp
  have fin:∀e:Nm×Nm,e∈F->(e=(q,v)\/e=(v,q))->∃L:List (Nm×Nm),L.Nodup/\(∀x∈L,x∈F)/\(∀x∈L,x.1∈(A++[(v,some q)]).map (·.1)/\x.2∈(A++[(v,some q)]).map (·.1))/\L.length+1=(A++[(v,some q)]).length/\∀T,ch T L=cost T (A++[(v,some q)]).reverse:=by
   intro e hF hc;refine⟨e::L,dv.mpr ⟨fun z=>?_,h1⟩,fun x hx=>?_,fun x hx=>?_,?_,fun T=>?_⟩
   ·obtain⟨a,b⟩:=h3 e z
    rcases hc with rfl|rfl
    ·exact hv b
    ·exact hv a
   ·rcases aI.mp hx with rfl|hx
    ·exact hF
    ·exact h2 x hx
   ·rcases aI.mp hx with rfl|hx
    ·rcases hc with rfl|rfl
     ·exact⟨up _ hq,hvm⟩
     ·exact⟨hvm,up _ hq⟩
    ·exact⟨up _ (h3 x hx).1,up _ (h3 x hx).2⟩
   ·rw[bg,aA,h4]
    rfl
   ·rw[yW,<-h5]
    unfold ch;rw[cL,Nat.add_comm];congr 1;show(if decide (T e.1≠T e.2)=true then 1 else 0)=if T v=T q then 0 else 1
    by_cases c:T v=T q
    ·rcases hc with rfl|rfl<;>simp[c]
    ·have c':¬T q=T v:=fun z=>c z.symm
     rcases hc with rfl|rfl<;>simp[c,c']
  rcases iT.mp he with h|h
  ·exact fin _ h (.inl rfl)
  ·exact fin _ h (.inr rfl)
theorem gh.ch{F:List (Nm×Nm)}{A:List (Nm×Option Nm)}(g:gh F A)(hl:A.length=F.length+1)(T:Nm->Int):F5.ch T F=cost T A.reverse:=by
 obtain⟨L,h1,h2,_,h4,h5⟩:=g.edges;rw[<-h5 T];exact ch_perm (Q.mG h1 h2 (by omega))
theorem Tree.all{F:List (Nm×Nm)}{vs:List Nm}{A:List (Nm×Option Nm)}(t:Tree F vs)(nd:(A.map (·.1)).Nodup)(sub:∀v∈A.map (·.1),v∈vs)(cl:∀v∈A.map (·.1),∀x∈adj F v,x∈A.map (·.1)){s:Nm}(hs:s∈A.map (·.1)):(∀v∈vs,v∈A.map (·.1))/\A.length=F.length+1:=by
 have h:∀v∈vs,v∈A.map (·.1):=fun v hv=>t.conn (fun x=>x∈A.map (·.1)) (fun e he=>⟨fun z=>cl _ z _ (iT.mpr (.inl he)),fun z=>cl _ z _ (iT.mpr (.inr he))⟩) s (sub s hs) v hv hs;have p:(A.map (·.1)).Perm vs:=(iF nd t.nd).mpr fun v=>⟨sub v,h v⟩;have :=p.length_eq;rw[ae,t.len]at this;exact⟨h,this⟩
end F5
namespace F5
open PySem R
noncomputable def sN:List Str:=["nodes","pairs"]
noncomputable def lB:List Str:=["nodes","pairs","beside","node","one","other"]
noncomputable def jI:CB:=
  (.cons (.ret (.var 2))
  .nil)
noncomputable def iO:CB:=
  (.cons (.expr (.meth1 .append (.x2 .idxk (.var 2) (.var 5)) (.var 4)))
  .nil)
noncomputable def jJ:CB:=
  (.cons (.forr (.tup (.cons (.name 4) (.cons (.name 5) .nil))) (.seq (.var 1))
  (.cons (.expr (.meth1 .append (.x2 .idxk (.var 2) (.var 4)) (.var 5)))
  iO))
  jI)
noncomputable def jK:CB:=
  (.cons (.forr (.name 3) (.seq (.var 0))
  (.cons (.putk (.var 2) (.var 3) (.lst .nil))
  .nil))
  jJ)
noncomputable def lM:CB:=
  (.cons (.asg (.name 2) (.dic .nil))
  jK)
noncomputable def yz:List Str:=["beside"]
noncomputable def rb:List Str:=["beside","start","ahead","waiting","node","near"]
noncomputable def nv:CB:=
  (.cons (.ret (.var 2))
  .nil)
noncomputable def gX:CB:=
  (.cons (.expr (.meth1 .append (.var 3) (.var 5)))
  .nil)
noncomputable def kr:CB:=
  (.cons (.forr (.name 5) (.seq (.x2 .idxk (.var 0) (.var 4)))
  (.cons (.iff (.x2 .nink (.var 5) (.var 2))
  (.cons (.putk (.var 2) (.var 5) (.var 4))
  gX)
  .nil)
  .nil))
  .nil)
noncomputable def ny:CB:=
  (.cons (.whl (.cmp .Gt (.bfn .len (.cons (.var 3) .nil)) (.con (.int 0)))
  (.cons (.asg (.name 4) (.meth0 .pop (.var 3)))
  kr))
  nv)
noncomputable def nB:CB:=
  (.cons (.asg (.name 3) (.lst (.cons (.var 1) .nil)))
  ny)
noncomputable def nC:CB:=
  (.cons (.asg (.name 2) (.dic (.cons (.var 1) (.con .none) .nil)))
  nB)
noncomputable def rL:CB:=
  (.cons (.asg (.name 1) (.idx (.bfn .listk (.cons (.var 0) .nil)) (.con (.int 0))))
  nC)
noncomputable def nX:List Str:=["beside","pairs"]
noncomputable def ja:List Str:=["beside","pairs"]
noncomputable def gY:CB:=
  (.cons (.ret (.and (.cmp .Eq (.bfn .len (.cons (.var 1) .nil)) (.bin .Sub (.bfn .lenk (.cons (.var 0) .nil)) (.con (.int 1)))) (.cmp .Eq (.bfn .lenk (.cons (.call "reached" (.cons (.var 0) .nil)) .nil)) (.bfn .lenk (.cons (.var 0) .nil)))))
  .nil)
noncomputable def jc:CB:=
  (.cons (.iff (.cmp .Eq (.bfn .lenk (.cons (.var 0) .nil)) (.con (.int 0)))
  (.cons (.ret (.con (.bool true)))
  .nil)
  .nil)
  gY)
noncomputable def yB:List Str:=["thing"]
noncomputable def rg:List Str:=["thing"]
noncomputable def nK:CB:=
  (.cons (.ret (.and (.call "is_name" (.cons (.idx (.var 0) (.con (.int 0))) .nil)) (.call "is_name" (.cons (.idx (.var 0) (.con (.int 1))) .nil))))
  .nil)
noncomputable def rS:CB:=
  (.cons (.iff (.or (.not (.bfn .isinstance (.cons (.var 0) (.cons (.ty .tuple) .nil)))) (.cmp .NotEq (.bfn .len (.cons (.var 0) .nil)) (.con (.int 2))))
  (.cons (.ret (.con (.bool false)))
  .nil)
  .nil)
  nK)
noncomputable def v9:List Str:=["frame"]
noncomputable def o7:List Str:=["frame"]
noncomputable def pU:CB:=
  (.cons (.ret (.sset (.bin .Add (.comp ["one","other"] [] (.tup (.cons (.name 0) (.cons (.name 1) .nil))) (.seq (.var 0)) .no (.var 0)) (.comp ["one","other"] [] (.tup (.cons (.name 0) (.cons (.name 1) .nil))) (.seq (.var 0)) .no (.var 1)))))
  .nil)
noncomputable def wj:List Str:=["frame","alone"]
noncomputable def pj:List Str:=["frame","alone"]
noncomputable def lZ:CB:=
  (.cons (.ret (.call "leads_one_way" (.cons (.call "neighbours" (.cons (.call "names_of" (.cons (.var 0) .nil)) (.cons (.var 0) .nil))) (.cons (.var 0) .nil))))
  .nil)
noncomputable def l6:CB:=
  (.cons (.iff (.or (.cmp .IsNot (.var 1) (.con .none)) (.not (.bfn .all (.cons (.comp ["branch"] [] (.name 0) (.seq (.var 0)) .no (.call "is_pair" (.cons (.var 0) .nil))) .nil))))
  (.cons (.ret (.con (.bool false)))
  .nil)
  .nil)
  lZ)
noncomputable def l7:CB:=
  (.cons (.iff (.cmp .Eq (.bfn .len (.cons (.var 0) .nil)) (.con (.int 0)))
  (.cons (.ret (.call "is_name" (.cons (.var 1) .nil)))
  .nil)
  .nil)
  l6)
noncomputable def p9:CB:=
  (.cons (.iff (.or (.not (.bfn .isinstance (.cons (.var 0) (.cons (.ty .list) .nil)))) (.cmp .Gt (.bfn .len (.cons (.var 0) .nil)) (.glo "MOST_BRANCHES")))
  (.cons (.ret (.con (.bool false)))
  .nil)
  .nil)
  l7)
noncomputable def sP:List Str:=["frame","alone"]
noncomputable def lD:List Str:=["frame","alone"]
noncomputable def jN:CB:=
  (.cons (.ret (.ite (.cmp .Eq (.bfn .len (.cons (.var 0) .nil)) (.con (.int 0))) (.lst (.cons (.var 1) .nil)) (.call "names_of" (.cons (.var 0) .nil))))
  .nil)
noncomputable def l8:CB:=
  (.cons (.iff (.not (.call "is_frame" (.cons (.var 0) (.cons (.var 1) .nil))))
  (.cons (.rais "NoFrame" (.cons (.con (.str "this is no frame")) .nil))
  .nil)
  .nil)
  jN)
end F5
namespace F5
open PySem PySem.Spec PyProof.Rows L2 R Cp Kc
noncomputable def kvS(ls:List (Nm×V)):List (Key×V):=ls.map fun q=>(.inr q.1,q.2)
noncomputable def lk(ls:List (Nm×V))(v:Nm):Option V:=(ls.find? fun q=>decide (q.1=v)).map (·.2)
theorem inr_iff{a b:Nm}:(decide ((dq a:Key)=.inr b))=decide (a=b):=by
 by_cases h:a=b
 ·rw[h,decide_eq_true rfl,decide_eq_true rfl]
 ·rw[decide_eq_false h,decide_eq_false fun z=>h (kg z)]
theorem xf(v:Nm):∀ls:List (Nm×V),jk (kvS ls) (.inr v)=lk ls v
 | []=>rfl
 | (a,x)::ls=>by
  have ih:=xf v ls;unfold jk lk kvS at ih⊢;rw[aY,cq,cq,inr_iff];cases h:decide (a=v)with
  |true=>rfl
  |false=>exact ih
theorem xR(v:Nm)(ls:List (Nm×V)):((kvS ls).any fun kv=>decide (kv.1=.inr v))=decide (v∈ls.map (·.1)):=by
 unfold kvS;rw[List.any_map,gM,eO,decide_eq_true_eq,aE];constructor
 ·rintro⟨q,hq,e⟩
  exact⟨q,hq,kg (of_decide_eq_true e)⟩
 ·rintro⟨q,hq,rfl⟩
  exact⟨q,hq,decide_eq_true rfl⟩
theorem put_new{ls:List (Nm×V)}{v:Nm}{x:V}(h:v∉ls.map (·.1)):putK (kvS ls) (.inr v) x=kvS (ls++[(v,x)]):=by
 unfold putK;rw[xR,decide_eq_false h,if_neg aQ];unfold kvS;rw[aG];rfl
noncomputable def sG(ls:List (Nm×V))(v:Nm)(x:V):List (Nm×V):=ls.map fun q=>if q.1=v then(q.1,x)else q
theorem put_old{ls:List (Nm×V)}{v:Nm}{x:V}(h:v∈ls.map (·.1)):putK (kvS ls) (.inr v) x=kvS (sG ls v x):=by
 unfold putK;rw[xR,decide_eq_true h,if_pos rfl];unfold kvS sG;rw[bQ,bQ];apply dJ;intro q _;show(if(dq q.1:Key)=.inr v then _ else _)=_;by_cases c:q.1=v
 ·rw[if_pos (by rw[c])]
  show _=((dq (if q.1=v then(q.1,x)else q).1:Key),(if q.1=v then(q.1,x)else q).2);rw[if_pos c]
 ·rw[if_neg fun z=>c (kg z)]
  show _=((dq (if q.1=v then(q.1,x)else q).1:Key),(if q.1=v then(q.1,x)else q).2);rw[if_neg c]
theorem kK{ls:List (Nm×V)}{v:Nm}{x:V}(nd:(ls.map (·.1)).Nodup)(h:(v,x)∈ls):lk ls v=some x:=by
 induction ls with
 |nil=>cases h
 |cons q ls ih=>
  unfold lk;rw[cq];rw[aY,dv]at nd;rcases aI.mp h with e|h
  ·rw[<-e]
   simp
  ·have :q.1≠v:=fun z=>nd.1 (by rw[z];exact aE.mpr ⟨_,h,rfl⟩)
   rw[decide_eq_false this];exact ih nd.2 h
theorem lk_none{ls:List (Nm×V)}{v:Nm}(h:v∉ls.map (·.1)):lk ls v=none:=by
 unfold lk;rw[List.find?_eq_none.mpr]
 ·rfl
 ·intro q hq z
  exact h (aE.mpr ⟨q,hq,of_decide_eq_true z⟩)
theorem qF{H:Hp}{d:Addr}{ls:List (Nm×V)}(v:Nm)(h:Rd H d (.dK (kvS ls))):kc H d (.str v) (lk ls v):=.inl ⟨kvS ls,.inr v,h,rfl,(xf v ls).symm⟩
theorem dput{H:Hp}{d:Addr}{ls:List (Nm×V)}{v:Nm}{x:V}(h:H d=some (.dK (kvS ls)))(hl:ls.length<1000)(hv:v∉ls.map (·.1)):tO H d (.str v) x (upd H d (.dK (kvS (ls++[(v,x)])))):=by
 have :=tO.k (k:=.inr v) (v:=x) h (by unfold kvS;rw[ae];exact aT hl (by decide))
 rw[put_new hv]at this;exact this
theorem BK{H:Hp}{d:Addr}{ls:List (Nm×V)}{v:Nm}{x:V}(h:H d=some (.dK (kvS ls)))(hl:ls.length<1000)(hv:v∈ls.map (·.1)):tO H d (.str v) x (upd H d (.dK (kvS (sG ls v x)))):=by
 have :=tO.k (k:=.inr v) (v:=x) h (by unfold kvS;rw[ae];exact aT hl (by decide))
 rw[put_old hv]at this;exact this
noncomputable def SmF(H H':Hp):Prop:=∀b u,H b=some u->H' b=some u\/∃o kvs,u=.dK kvs/\H' b=some (.frz o (.dK kvs))
theorem SmF.of{H H':Hp}(s:aU H H'):SmF H H':=fun b u e=>.inl (s b u e)
theorem SmF.lst{H H':Hp}(s:SmF H H'){a:Addr}{xs:List V}(h:H a=some (.lst xs)):H' a=some (.lst xs):=by
 rcases s a _ h with h|⟨_,_,z,_⟩
 ·exact h
 ·cases z
theorem SmF.tup{H H':Hp}(s:SmF H H'){a:Addr}{xs:List V}(h:H a=some (.tup xs)):H' a=some (.tup xs):=by
 rcases s a _ h with h|⟨_,_,z,_⟩
 ·exact h
 ·cases z
theorem SmF.rd{H H':Hp}(s:SmF H H'){a:Addr}{kvs:List (Key×V)}(h:Rd H a (.dK kvs)):Rd H' a (.dK kvs):=by
 rcases h with h|⟨o,h⟩
 ·rcases s a _ h with h|⟨o,_,z,h⟩
  ·exact .inl h
  ·cases z;exact .inr ⟨o,h⟩
 ·rcases s a _ h with h|⟨_,_,z,_⟩
  ·exact .inr ⟨o,h⟩
  ·cases z
noncomputable def Br(H:Hp)(y:V)(e:Nm×Nm):Prop:=∃p,y=V.ref p/\H p=some (.tup [.str e.1,.str e.2])
structure Frm(H:Hp)(f:Addr)(ys:List V)(F:List (Nm×Nm)):Prop where
 hf:H f=some (.lst ys)
 br:Paired (Br H) ys F
theorem sJ{α β:Type}{P:α->β->Prop}:∀{xs:List α}{ys:List β},Paired P xs ys->∀{i:Nat}{x:α},xs[i]? =some x->∃y,ys[i]? =some y/\P x y
 |_,_,.nil,_,_,h=>nomatch h
 |_,_,.cons r _,0,_,h=>by cases h;exact⟨_,rfl,r⟩
 |_,_,.cons _ t,i+1,_,h=>sJ t (i:=i) h
theorem Frm.len{H:Hp}{f:Addr}{ys:List V}{F:List (Nm×Nm)}(d:Frm H f ys F):ys.length=F.length:=d.br.length
theorem Frm.at_{H:Hp}{f:Addr}{ys:List V}{F:List (Nm×Nm)}(d:Frm H f ys F){i:Nat}{y:V}(h:ys[i]? =some y):∃a b p,F[i]? =some (a,b)/\y=V.ref p/\H p=some (.tup [.str a,.str b]):=by
 obtain⟨⟨a,b⟩,h1,p,h2,h3⟩:=sJ d.br h;exact⟨a,b,p,h1,h2,h3⟩
theorem Frm.grow{H H':Hp}{f:Addr}{ys:List V}{F:List (Nm×Nm)}(d:Frm H f ys F)(s:SmF H H'):Frm H' f ys F:=⟨s.lst d.hf,L2.Paired.lG d.br fun _ _ ⟨p,e,h⟩=>⟨p,e,s.tup h⟩⟩
theorem Frm.same{H H':Hp}{f:Addr}{ys:List V}{F:List (Nm×Nm)}(d:Frm H f ys F)(s:aU H H'):Frm H' f ys F:=d.grow (.of s)
structure Bes(H:Hp)(d:Addr)(ls:List (Nm×Addr))(c:Nm->List V):Prop where
 hd:Rd H d (.dK (kvS (ls.map fun q=>(q.1,V.ref q.2))))
 nd:(ls.map (·.1)).Nodup
 na:(ls.map (·.2)).Nodup
 at_:∀q∈ls,H q.2=some (.lst (c q.1))
theorem jU(ls:List (Nm×Addr)):(ls.map fun q=>(q.1,V.ref q.2)).map (·.1)=ls.map (·.1):=by rw[bQ];rfl
theorem Bes.get{H:Hp}{d:Addr}{ls:List (Nm×Addr)}{c:Nm->List V}(b:Bes H d ls c){v:Nm}(h:v∈ls.map (·.1)):∃a,(v,a)∈ls/\kc H d (.str v) (some (.ref a))/\H a=some (.lst (c v)):=by
 obtain⟨⟨w,a⟩,hq,rfl⟩:=aE.mp h;refine⟨a,hq,?_,b.at_ _ hq⟩;have :=qF w b.hd;rw[kK (by rw[jU];exact b.nd) (aE.mpr ⟨_,hq,rfl⟩)]at this;exact this
theorem Bes.app{H:Hp}{d:Addr}{ls:List (Nm×Addr)}{c:Nm->List V}(b:Bes H d ls c){v:Nm}{a:Addr}{l:List V}(h:(v,a)∈ls):Bes (upd H a (.lst l)) d ls (fun w=>if w=v then l else c w):=by
 have ha:=b.at_ _ h;refine⟨?_,b.nd,b.na,fun q hq=>?_⟩
 ·rcases b.hd with z|⟨o,z⟩
  ·exact .inl (by rw[aH (gc z ha (fun z=>nomatch z))];exact z)
  ·exact .inr ⟨o,by rw[aH (gc z ha (fun z=>nomatch z))];exact z⟩
 ·by_cases e:q.2=a
  ·have :q=(v,a):=by
    obtain⟨i,hi,ei⟩:=aR.mp hq;obtain⟨j,hj,ej⟩:=aR.mp h;have :(ls.map (·.2))[i]'(by rw[ae];exact hi)=(ls.map (·.2))[j]'(by rw[ae];exact hj):=by rw[bR,bR,ei,ej];exact e
    have :=(bY b.na).mp this
    subst this;rw[<-ei,ej]
   rw[this];show upd H a _ a=_;rw[av,if_pos rfl]
  ·rw[aH e,b.at_ q hq]
   have :q.1≠v:=fun z=>e (by
    obtain⟨i,hi,ei⟩:=aR.mp hq;obtain⟨j,hj,ej⟩:=aR.mp h;have :(ls.map (·.1))[i]'(by rw[ae];exact hi)=(ls.map (·.1))[j]'(by rw[ae];exact hj):=by rw[bR,bR,ei,ej];exact z
    have :=(bY b.nd).mp this
    subst this;rw[<-ei,ej])
   rw[if_neg this]
theorem Bes.same{H H':Hp}{d:Addr}{ls:List (Nm×Addr)}{c:Nm->List V}(b:Bes H d ls c)(s:SmF H H'):Bes H' d ls c:=⟨s.rd b.hd,b.nd,b.na,fun q hq=>s.lst (b.at_ q hq)⟩
theorem Bes.congr{H:Hp}{d:Addr}{ls:List (Nm×Addr)}{c c':Nm->List V}(b:Bes H d ls c)(h:∀q∈ls,c q.1=c' q.1):Bes H d ls c':=⟨b.hd,b.nd,b.na,fun q hq=>by rw[b.at_ q hq,h q hq]⟩
noncomputable def nW(F:List (Nm×Nm))(v:Nm):List V:=(adj F v).map V.str
noncomputable def spNb:Sp:=fun vs H Q _=>∃(n f:Addr)(ws:List Nm)(ys:List V)(F:List (Nm×Nm)),vs=[.ref n,.ref f]/\H n=some (.lst (ws.map V.str))/\Frm H f ys F/\ws.Nodup/\(∀e∈F,e.1∈ws/\e.2∈ws)/\ws.length<=200/\F.length<=200/\
 ∀H' d ls,aU H H'->H d=none->H' d=some (.dK (kvS (ls.map fun q=>(q.1,V.ref q.2))))->Bes H' d ls (nW F)->ls.map (·.1)=ws->Q (.ref d) H'
theorem fM{n:Nat}(h:n<=1000):n<=sizeLine:=aP h (by decide)
theorem Bt{n:Nat}(h:n<=1000):n<sizeLine:=ot h (by decide)
theorem B2(F:List (Nm×Nm))(a b v:Nm):adj (F++[(a,b)]) v=adj F v++((if a=v then[b]else[])++(if b=v then[a]else[])):=by
 unfold adj;rw[List.flatMap_append];simp
theorem adj_len(F:List (Nm×Nm))(v:Nm):(adj F v).length<=2*F.length:=by
 unfold adj
 induction F with
 |nil=>simp
 |cons e F ih=>
  rw[List.flatMap_cons,aA,bg];have :((if e.1=v then[e.2]else[])++(if e.2=v then[e.1]else[])).length<=2:=by
   rw[aA];split <;>split <;>simp
  omega
theorem wp_nb{G:Gam}{K:aa}:Sat G K spNb lM lB:=by
 rintro vs H Q E ⟨n,f,ws,ys,F,rfl,hn,fr,nd,sub,l1,l2,q⟩;unfold lM;change wpB G K _ _ _ [some (.ref n),some (.ref f),none,none,none,none] H;walk_at "wp";refine .inl ⟨trivial,fun d hd=>?_⟩;unfold jK;walk_at "wp";have s0:aU H (upd H d (.dK [])):=aB hd;refine hU (cU rfl (SqL.of (s0 _ _ hn)) (fX eI (fun k σ H'=>aU H H'/\∃u ls,σ=[some (.ref n),some (.ref f),some (.ref d),u,none,none]/\H' d=some (.dK (kvS (ls.map fun q=>(q.1,V.ref q.2))))/\Bes H' d ls (fun _=>[])/\ls.map (·.1)=ws.take k/\∀q∈ls,H q.2=none)
  ⟨s0,none,[],rfl,av,⟨.inl av,eF,eF,fun q hq=>nomatch hq⟩,rfl,fun q hq=>nomatch hq⟩ (fun k σ H' _ s=>SqL.of (s.1 _ _ hn)) ?_ ?_))
 ·rintro k y σ H1 H2 D2 hk ⟨s1,u,ls,rfl,h1,b1,e1,f1⟩ hy s2 hD _
  rw[ae]at hk;rw[aZ,ah hk]at hy;cases hy;walk_at "wp";refine⟨aL _,fun p hp=>?_⟩;have h1':=s2 _ _ h1;have hnew:ws[k]∉ls.map (·.1):=by
   rw[e1];intro z;obtain⟨j,hj,ej⟩:=aR.mp z;rw[aW]at hj;rw[ef]at ej;have :=(bY nd).mp ej;omega
  have hll:ls.length=k:=by
   have :=congrArg gE e1
   rw[ae,aW]at this;omega
  have hdp:d≠p:=bb h1' hp;have h3:upd H2 p (.lst []) d=some (.dK (kvS (ls.map fun q=>(q.1,V.ref q.2)))):=by rw[aH hdp];exact h1'
  refine⟨d,_,rfl,dput h3 (by rw[ae];omega) (by rw[jU];exact hnew),?_⟩;have hpf:∀q∈ls,q.2≠p:=fun q hq=>bb (s2 _ _ (b1.at_ q hq)) hp;have hpd:∀q∈ls,q.2≠d:=fun q hq=>gc (s2 _ _ (b1.at_ q hq)) h1' (fun z=>nomatch z);have e4:(ls.map fun q=>(q.1,V.ref q.2))++[(ws[k],V.ref p)]=(ls++[(ws[k],p)]).map fun q=>(q.1,V.ref q.2):=by rw[aG];rfl
  rw[e4];refine hD _ _ ⟨cZ (cZ (s1.trans s2) ((s1.trans s2).free hp)) hd,_,ls++[(ws[k],p)],rfl,av,⟨.inl av,?_,?_,fun q hq=>?_⟩,?_,fun q hq=>?_⟩
  ·rw[aG,b7]
   refine⟨b1.nd,by simp,fun a ha b hb z=>?_⟩;have :b=ws[k]:=aq.mp hb;subst this z;exact hnew ha
  ·rw[aG,b7]
   refine⟨b1.na,by simp,fun a ha b hb z=>?_⟩;have :b=p:=aq.mp hb;subst this z;obtain⟨q,hq,e⟩:=aE.mp ha;exact hpf q hq e
  ·rcases ai.mp hq with hq|hq
   ·rw[aH (hpd q hq),aH (hpf q hq)]
    exact s2 _ _ (b1.at_ q hq)
   ·cases aq.mp hq
    show upd _ _ _ p=_;rw[aH hdp.symm,av]
  ·rw[aG,e1,bP,ah hk]
   rfl
  ·rcases ai.mp hq with hq|hq
   ·exact f1 q hq
   ·cases aq.mp hq
    exact(s1.trans s2).free hp
 ·rintro σ H1 ⟨s1,u,ls,rfl,h1,b1,e1,f1⟩
  rw[ae,bN]at e1;unfold jJ;walk_at "wp";refine hU (cU rfl (SqL.of (s1 _ _ fr.hf)) (fX eI (fun k σ H'=>aU H H'/\H' d=some (.dK (kvS (ls.map fun q=>(q.1,V.ref q.2))))/\Bes H' d ls (nW (F.take k))/\∃u v w,σ=[some (.ref n),some (.ref f),some (.ref d),u,v,w])
   ⟨s1,h1,b1,_,_,_,rfl⟩ (fun k σ H' _ s=>SqL.of (s.1 _ _ fr.hf)) ?_ ?_))
  ·rintro k y σ H2 H3 D2 hk ⟨s2,h2,b2,u',v',w',rfl⟩ hy s3 hD _
   obtain⟨a,b,p,hF,rfl,hp⟩:=fr.at_ hy;obtain⟨ha,hb⟩:=(show a∈ws/\b∈ws from sub _ (bj hF));rw[<-e1]at ha hb;have s4:=s2.trans s3;have b3:=b2.same (.of s3);have h3:=s3 _ _ h2;refine⟨p,_,rfl,SqT.of (s4 _ _ hp),rfl,_,_,rfl,_,_,rfl,rfl,?_⟩;walk_at "wp";obtain⟨pa,ma,ga,ea⟩:=b3.get ha;have eJ:∀v,(nW (F.take k) v).length<sizeLine-5:=fun v=>by
    unfold nW;rw[ae];have :=adj_len (F.take k) v;rw[aW]at this;exact ot (show(adj (F.take k) v).length<=1000 by omega) (by decide)
   refine⟨d,_,rfl,ga,.inl ⟨rfl,_,SqL.of ea⟩,_,_,_,rfl,rfl,ea,by have :=eJ a;omega,?_⟩;unfold iO;walk_at "wp";have b4:=b3.app (l:=nW (F.take k) a++[V.str b]) ma;obtain⟨pb,mb,gb,eb⟩:=b4.get hb;refine⟨d,_,rfl,gb,.inl ⟨rfl,_,SqL.of eb⟩,_,_,_,rfl,rfl,eb,?_,?_⟩
   ·have h1:=eJ a
    have h2:=eJ b;by_cases c:b=a
    ·rw[if_pos c,aA,bJ]
     omega
    ·rw[if_neg c]
     omega
   ·have hpa:d≠pa:=gc h3 ea (by intro z;cases z)
    have hd4:upd H3 pa (.lst (nW (F.take k) a++[V.str b])) d=some (.dK (kvS (ls.map fun q=>(q.1,V.ref q.2)))):=by rw[aH hpa];exact h3
    have hpb:d≠pb:=gc hd4 eb (by intro z;cases z);refine hD _ _ ⟨cZ (cZ s4 (f1 _ ma)) (f1 _ mb),by rw[aH hpb];exact hd4,(b4.app mb).congr fun q _=>?_,_,_,_,rfl⟩;have et:F.take (k+1)=F.take k++[(a,b)]:=by rw[bP,hF];rfl
    unfold nW;rw[et,B2,aG,aG];generalize q.1=w;by_cases c1:w=b
    ·subst c1
     by_cases c2:w=a
     ·subst c2
      simp
     ·simp[c2,cR c2]
    ·by_cases c2:w=a
     ·subst c2
      simp[c1,cR c1]
     ·simp[c1,c2,cR c1,cR c2]
  ·rintro σ H2 ⟨s2,h2,b2,u',v',w',rfl⟩
   unfold jI;walk_at "wp";rw[fr.len,bN]at b2;exact q H2 d ls s2 hd h2 b2 e1
noncomputable def pV:Option Nm->V
 |some q=>.str q
 |none=>.non
noncomputable def aV(A:List (Nm×Option Nm)):List (Nm×V):=A.map fun e=>(e.1,pV e.2)
theorem oA(A:List (Nm×Option Nm)):(aV A).map (·.1)=A.map (·.1):=by unfold aV;rw[bQ];rfl
theorem aV_len(A:List (Nm×Option Nm)):(aV A).length=A.length:=ae ..
structure Found(F:List (Nm×Nm))(vs:List Nm)(A:List (Nm×Option Nm)):Prop where
 g:gh F A
 sub:∀v∈A.map (·.1),v∈vs
 cl:∀v∈A.map (·.1),∀x∈adj F v,x∈A.map (·.1)
noncomputable def spRe:Sp:=fun vs H Q _=>∃(d:Addr)(ls:List (Nm×Addr))(F:List (Nm×Nm)),vs=[.ref d]/\Bes H d ls (nW F)/\ls≠[]/\(∀e∈F,e.1∈ls.map (·.1)/\e.2∈ls.map (·.1))/\ls.length<=200/\F.length<=200/\
 ∀H' a A,aU H H'->H a=none->H' a=some (.dK (kvS (aV A)))->Found F (ls.map (·.1)) A->Q (.ref a) H'
theorem dS{α:Type}[DecidableEq α]{l m:List α}(nd:l.Nodup)(h:∀x∈l,x∈m):l.length<=m.length:=L2.iK nd h
structure DF(F:List (Nm×Nm))(ks:List Nm)(ex:Nm->Prop)(H H':Hp)(a w:Addr)(A:List (Nm×Option Nm))(W:List Nm):Prop where
 sm:aU H H'
 ha:H' a=some (.dK (kvS (aV A)))
 hw:H' w=some (.lst (W.map V.str))
 g:gh F A
 gs:∀v∈A.map (·.1),v∈ks
 ws:∀v∈W,v∈A.map (·.1)
 cl:∀v∈A.map (·.1),v∉W->¬ex v->∀x∈adj F v,x∈A.map (·.1)
theorem DF.le{F:List (Nm×Nm)}{ks:List Nm}{ex:Nm->Prop}{H H':Hp}{a w:Addr}{A:List (Nm×Option Nm)}{W:List Nm}(D:DF F ks ex H H' a w A W):A.length<=ks.length:=by
 have :=dS D.g.nd D.gs
 rw[ae]at this;exact this
theorem DF.same{F:List (Nm×Nm)}{ks:List Nm}{ex:Nm->Prop}{H H1 H2:Hp}{a w:Addr}{A:List (Nm×Option Nm)}{W:List Nm}(D:DF F ks ex H H1 a w A W)(s:aU H1 H2):DF F ks ex H H2 a w A W:={D with sm:=D.sm.trans s,ha:=s _ _ D.ha,hw:=s _ _ D.hw}
theorem wp_re{G:Gam}{K:aa}:Sat G K spRe rL rb:=by
 rintro vs H Q E ⟨d,ls,F,rfl,b,hne,sub,l1,l2,q⟩;unfold rL;change wpB G K _ _ _ [some (.ref d),none,none,none,none,none] H;walk_at "wp";obtain⟨⟨s,sa⟩,r,e0⟩:=ue hne;refine⟨d,_,rfl,b.hd,fun l hl=>.inl ⟨l,_,0,.str s,rfl,rfl,SqL.of av,fF (j:=0) (by rw[e0];rfl),?_⟩⟩;have s1:aU H (upd H l (.lst ((kvS (ls.map fun q=>(q.1,V.ref q.2))).map fun kv=>kV kv.1))):=aB hl;generalize upd H l (.lst ((kvS (ls.map fun q=>(q.1,V.ref q.2))).map fun kv=>kV kv.1))=H1 at s1;have hs:s∈ls.map (·.1):=by rw[e0];exact au
 have hll:(ls.map (·.1)).length=ls.length:=ae ..;unfold nC;walk_at "wp";refine .inr ⟨(by intro z;cases z),fun a ha=>?_⟩;simp only[wpP,sh,wpE,nV,tC,cv,fK,xc,fh,exists_eq_left'];refine⟨av,[(.inr s,.non)],rfl,(by show 1<=15;decide),?_⟩;unfold nB;walk_at "wp";refine⟨(by show 1<=sizeLine;decide),fun w hw=>?_⟩;have haH:H a=none:=s1.free ha;have hwa:w≠a:=fun z=>by rw[z,av]at hw;cases hw
 have hwH:H w=none:=s1.free (by rw[aH hwa,aH hwa]at hw;exact hw);unfold ny;walk_at "wp";refine⟨fun m σ H'=>∃(A:List (Nm×Option Nm))(W:List Nm)(u v:Option V),m=2*(ls.length-A.length)+W.length/\σ=[some (.ref d),some (.str s),some (.ref a),some (.ref w),u,v]/\W.length<=A.length/\DF F (ls.map (·.1)) (fun _=>False) H H' a w A W,
  ⟨_,[(s,none)],[s],none,none,rfl,rfl,ar _,cZ (cZ (cZ s1 haH) haH) hwH,by rw[aH hwa.symm,av];rfl,av,.one s,fun v hv=>by rw[aq.mp hv];exact hs,fun v hv=>by rw[aq.mp hv];exact au,fun v hv hn=>absurd hv hn⟩,?_⟩
 rintro m σ H2 ⟨A,W,u,v,rfl,rfl,wl,D⟩;walk_at "wp";refine .inl ⟨w,_,rfl,.inl (SqL.of D.hw),?_⟩;rw[ae];refine nh.mpr ⟨_,rfl,?_⟩;have gl:=D.le;rw[hll]at gl;by_cases hW:W=[]
 ·subst hW
  rw[if_neg (by simp)];unfold nv;walk_at "wp";exact q H2 a A D.sm haH D.ha ⟨D.g,D.gs,fun v hv=>D.cl v hv (fun z=>nomatch z) id⟩
 ·have hl0:0<W.length:=dN.mpr hW
  rw[if_pos (decide_eq_true (by omega))];refine⟨fun σ' H'=>∃m',m'<2*(ls.length-A.length)+W.length/\∃(A':List (Nm×Option Nm))(W':List Nm)(u v:Option V),m'=2*(ls.length-A'.length)+W'.length/\σ'=[some (.ref d),some (.str s),some (.ref a),some (.ref w),u,v]/\W'.length<=A'.length/\DF F (ls.map (·.1)) (fun _=>False) H H' a w A' W',fun _ _ h=>h,?_⟩;obtain⟨W0,n,rfl⟩:∃W0 n,W=W0++[n]:=⟨W.dropLast,W.getLast hW,(List.dropLast_concat_getLast hW).symm⟩;refine⟨.inl ⟨rfl,_,SqL.of D.hw⟩,.inl ⟨w,_,.str n,rfl,rfl,D.hw,?_,?_⟩⟩
  ·rw[ae,aA,aZ,cA (by simp)]
   simp
  have e0:((W0++[n]).map V.str).dropLast=W0.map V.str:=by rw[aG];simp
  rw[e0];have nA:n∈A.map (·.1):=D.ws n (by simp);rw[aA,bJ]at wl⊢;have D3:DF F (ls.map (·.1)) (fun v=>v=n) H (upd H2 w (.lst (W0.map V.str))) a w A W0:=⟨cZ D.sm hwH,by rw[aH hwa.symm];exact D.ha,av,D.g,D.gs,fun v hv=>D.ws v (ai.mpr (.inl hv)),fun v hv hn hne x hx=>D.cl v hv (fun z=>by
   rcases ai.mp z with z|z
   ·exact hn z
   ·exact hne (aq.mp z)) id x hx⟩
  generalize upd H2 w (.lst (W0.map V.str))=H3 at D3;unfold kr;walk_at "wp";obtain⟨pn,mn,gn,en⟩:=(b.same (.of D3.sm)).get (D.gs n nA);have ln:(nW F n).length=(adj F n).length:=ae ..;refine hU ⟨_,rfl,_,rfl,d,_,rfl,gn,.inl ⟨pn,rfl,⟨_,SqL.of en⟩,?_⟩⟩;refine fX eI (fun k σ H'=>∃(A':List (Nm×Option Nm))(W':List Nm)(v':Option V),σ=[some (.ref d),some (.str s),some (.ref a),some (.ref w),some (.str n),v']/\(A'.length+W0.length=W'.length+A.length/\A.length<=A'.length)/\DF F (ls.map (·.1)) (fun v=>v=n) H H' a w A' W'/\n∈A'.map (·.1)/\∀x∈(adj F n).take k,x∈A'.map (·.1))
   ⟨A,W0,v,rfl,⟨by omega,ar _⟩,D3,nA,fun x hx=>by rw[List.take_zero]at hx;cases hx⟩ (fun k σ H' _ h=>by obtain⟨_,_,_,_,_,D',_⟩:=h;exact SqL.of (D'.sm _ _ (b.at_ _ mn))) ?_ ?_
  ·rintro k y σ H4 H5 D2 hk ⟨A',W',v',rfl,⟨hl1,hl2⟩,D4,nA',tk⟩ hy s5 hD _
   rw[ln]at hk;obtain⟨x,hx⟩:∃x,(adj F n)[k]? =some x:=⟨_,ah hk⟩;rw[show(nW F n)[k]? =some (V.str x) by unfold nW;rw[aZ,hx];rfl]at hy;cases hy;have D5:=D4.same s5;have et:(adj F n).take (k+1)=(adj F n).take k++[x]:=by rw[bP,hx];rfl
   have xa:x∈adj F n:=bj hx;have gl':=D5.le;rw[hll]at gl';walk_at "wp";refine⟨a,_,rfl,qF x (.inl D5.ha),?_⟩;by_cases c:x∈A'.map (·.1)
   ·obtain⟨⟨x',p⟩,hm,e⟩:=aE.mp c
    have e:x'=x:=e;subst e;have hlk:lk (aV A') x'=some (pV p):=kK (by rw[oA];exact D5.g.nd) (aE.mpr ⟨_,hm,rfl⟩);rw[hlk,if_neg (by simp)];refine hD _ _ ⟨A',W',_,rfl,⟨hl1,hl2⟩,D5,nA',fun z hz=>?_⟩;rw[et]at hz;rcases ai.mp hz with hz|hz
    ·exact tk z hz
    ·rw[aq.mp hz];exact c
   ·rw[lk_none (by rw[oA];exact c),if_pos (by rfl)]
    refine⟨a,_,rfl,dput D5.ha (by rw[aV_len];omega) (by rw[oA];exact c),?_⟩;have hwa':w≠a:=hwa;unfold gX;walk_at "wp";have h8:upd H5 a (.dK (kvS (aV A'++[(x,.str n)]))) w=some (.lst (W'.map V.str)):=by rw[aH hwa];exact D5.hw
    refine⟨.inl ⟨rfl,_,SqL.of h8⟩,w,_,_,rfl,rfl,h8,?_,?_⟩
    ·rw[ae]
     exact Bt (by omega)
    have ks:∀v,v∈(A'++[(x,some n)]).map (·.1)↔v∈A'.map (·.1)\/v=x:=fun v=>by rw[aG,ai];simp
    refine hD _ _ ⟨A'++[(x,some n)],W'++[x],_,rfl,⟨by rw[aA,aA,bJ,bJ];omega,by rw[aA];omega⟩,⟨cZ (cZ D5.sm haH) hwH,?_,?_,.more D5.g nA' c xa,fun v hv=>?_,fun v hv=>?_,fun v hv hn hne z hz=>?_⟩,(ks _).mpr (.inl nA'),fun z hz=>(ks z).mpr ?_⟩
    ·rw[aH hwa.symm,av]
     unfold aV;rw[aG];rfl
    ·rw[av,aG]
     rfl
    ·rcases(ks v).mp hv with h|rfl
     ·exact D5.gs v h
     ·rcases iT.mp xa with h|h
      ·exact(sub _ h).2
      ·exact(sub _ h).1
    ·rcases ai.mp hv with h|h
     ·exact(ks v).mpr (.inl (D5.ws v h))
     ·exact(ks v).mpr (.inr (aq.mp h))
    ·rcases(ks v).mp hv with h|rfl
     ·exact(ks z).mpr (.inl (D5.cl v h (fun q=>hn (ai.mpr (.inl q))) hne z hz))
     ·exact absurd (ai.mpr (.inr (aq.mpr rfl))) hn
    ·rw[et]at hz
     rcases ai.mp hz with hz|hz
     ·exact .inl (tk z hz)
     ·exact .inr (aq.mp hz)
  ·rintro σ H4 ⟨A',W',v',rfl,⟨hl1,hl2⟩,D4,nA',tk⟩
   have gl':=D4.le;rw[hll]at gl';refine⟨_,?_,A',W',_,_,rfl,rfl,by omega,{D4 with cl:=fun v hv hn _ x hx=>?_}⟩
   ·omega
   ·by_cases c:v=n
    ·subst c
     rw[ln,bN]at tk;exact tk x hx
    ·exact D4.cl v hv hn c x hx
theorem gh.ne{F:List (Nm×Nm)}{A:List (Nm×Option Nm)}(g:gh F A):∃s,s∈A.map (·.1):=by
 cases g with
 |one s=>exact⟨s,au⟩
 |more g hq _ _=>exact⟨_,by rw[aG];exact ai.mpr (.inl hq)⟩
noncomputable def spLw:Sp:=fun vs H Q _=>∃(d f:Addr)(ls:List (Nm×Addr))(ys:List V)(F:List (Nm×Nm)),vs=[.ref d,.ref f]/\Bes H d ls (nW F)/\Frm H f ys F/\Tree F (ls.map (·.1))/\F.length<=100/\∀H',aU H H'->Q (.bl true) H'
theorem wp_lw{G:Gam}{K:aa}(g1:G.fn "reached" 1=some (spRe,[])):Sat G K spLw jc ja:=by
 rintro vs H Q E ⟨d,f,ls,ys,F,rfl,b,fr,t,l1,q⟩;unfold jc;change wpB G K _ _ _ [some (.ref d),some (.ref f)] H;walk_at "wp";have hl:ls.length=F.length+1:=by rw[<-t.len,ae]
 have hk:(kvS (ls.map fun q=>(q.1,V.ref q.2))).length=ls.length:=by unfold kvS;rw[ae,ae]
 refine⟨d,_,rfl,b.hd,?_⟩;rw[hk];refine pL.mpr ⟨_,rfl,?_⟩;rw[if_neg (by rw[decide_eq_false (by omega)];decide)];unfold gY;walk_at "wp";refine .inl ⟨f,_,rfl,.inl (SqL.of fr.hf),d,_,rfl,b.hd,?_⟩;rw[hk];refine Aa.mpr (pL.mpr ⟨_,rfl,?_⟩);rw[if_pos (decide_eq_true (by rw[fr.len];omega))];refine⟨_,_,g1,d,ls,F,rfl,b,(fun z=>by rw[z]at hl;cases hl),t.sub,by omega,by omega,fun H1 a A s1 ha h1 fo=>?_⟩;refine⟨a,_,rfl,.inl h1,d,_,rfl,(SmF.of s1).rd b.hd,?_⟩;obtain⟨s,hs⟩:=fo.g.ne;have all:=t.all fo.g.nd fo.sub fo.cl hs;rw[hk,show(kvS (aV A)).length=A.length by unfold kvS aV;rw[ae,ae]];refine pL.mpr ?_;rw[decide_eq_true (by omega)];exact q H1 s1
noncomputable def spPr:Sp:=fun vs H Q _=>∃(p:Addr)(a b:Nm),vs=[.ref p]/\H p=some (.tup [.str a,.str b])/\eR a=true/\eR b=true/\∀H',aU H H'->Q (.bl true) H'
theorem ly{a:Nm}(h:eR a=true):a.length<=8:=by
 unfold eR at h;exact(of_decide_eq_true (aN _ _▸h).1).2
theorem wp_pair{G:Gam}{K:aa}(g1:G.fn "is_name" 1=some (spN,[])):Sat G K spPr rS rg:=by
 rintro vs H Q E ⟨p,a,b,rfl,hp,na,nb,q⟩;unfold rS;change wpB G K _ _ _ [some (.ref p)] H;walk_at "wp";refine isi (kn_tup hp) .tuple ⟨_,rfl,?_⟩;rw[show tyName H (.ref p)="tuple" by show gN (H p)=_;rw[hp];rfl];rw[if_neg (by decide)];refine .inl ⟨p,_,rfl,.inr (SqT.of hp),?_⟩;refine Bj.mpr ⟨_,rfl,?_⟩;rw[if_neg (by show ¬(!decide ((2:Int)=2))=true;decide)];unfold nK;walk_at "wp";refine⟨_,_,g1,.inr (.inl ⟨p,_,0,_,rfl,rfl,SqT.of hp,rfl,?_⟩)⟩;refine⟨.str a,rfl,tm,(fun z e=>by cases e;exact aP (ly na) (by decide)),fun H1 s1=>⟨_,rfl,?_⟩⟩;rw[show isName (.str a)=true from na,if_pos rfl];refine⟨_,_,g1,.inr (.inl ⟨p,_,1,_,rfl,rfl,SqT.of (s1 _ _ hp),rfl,?_⟩)⟩;refine⟨.str b,rfl,tm,(fun z e=>by cases e;exact aP (ly nb) (by decide)),fun H2 s2=>?_⟩;rw[show isName (.str b)=true from nb];exact q H2 (s1.trans s2)
theorem Ak{ks:List Str}(nd:ks.Nodup):qV ks=(_root_.Q.sortBy ("":Str) ks ks).map V.str:=by
 unfold qV _root_.Q.sortBy;rw[bQ];apply dJ;intro i hi;have hi':i<ks.length:=by
  have :=(_root_.Q.uK nd).mem_iff.mp hi
  simpa using this
 show(ks.map V.str).getD i V.non=V.str (ks.getD i "");rw[aK,aK,aZ,ah hi'];rfl
structure kb(ns vs:List Nm):Prop where
 nd:ns.Nodup
 mem:∀v,v∈ns↔v∈vs
 up:ns.Pairwise fun a b=>_root_.Q.tlt a b=true
noncomputable def spNo:Sp:=fun vs H Q _=>∃(f:Addr)(ys:List V)(F:List (Nm×Nm))(ws:List Nm),vs=[.ref f]/\Frm H f ys F/\F.length<=100/\ws.length<64/\(∀v,v∈ends F↔v∈ws)/\
 ∀H' l ns,aU H H'->H l=none->H' l=some (.lst (ns.map V.str))->kb ns ws->Q (.ref l) H'
theorem qT{vs:List V}{l:List Nm}(h:vs.length=l.length)(hv:∀(i:Nat) v,vs[i]? =some v->v=V.str (l.getD i "")):vs=l.map V.str:=by
 apply dg
 ·rw[h,ae]
 ·intro i h1 h2
  rw[hv i _ (ah h1),bR,aK,ah (by omega)];rfl
theorem wp_no{G:Gam}{K:aa}:Sat G K spNo pU o7:=by
 rintro vs H Q E ⟨f,ys,F,ws,rfl,fr,l1,l2,he,q⟩;unfold pU;change wpB G K _ _ _ [some (.ref f)] H;walk_at "wp";have comp:∀(j:Nat)(g:Nm×Nm->Nm)(hj:∀(a b:Nm)(τ:L2.St),∃v,[some (V.str a),some (V.str b)][j]? =some (some v)/\v=V.str (g (a,b)))(H1:Hp)(s1:aU H H1)(R:VK),(∀H2 l,aU H1 H2->H1 l=none->H2 l=some (.lst ((F.map g).map V.str))->R (.ref l) H2)->
   oR (wF K (nV 0)) (gTup K 2 (u4 (lK 0) (u4 (lK 1) gNil))) yb (nV j) (iR ["one","other"] []) [some (.ref f)] H1 R:=by
  intro j g hj H1 s1 R hR;refine fB (cU rfl (SqL.of (s1 _ _ fr.hf)) (iN eI (fM (by rw[fr.len];omega)) (fun H4 s6=>SqL.of (s6 _ _ (s1 _ _ fr.hf))) (fun i v _=>v=V.str ((F.map g).getD i "")) (fun _ _ _ _ _ h=>h) (fun τ=>∃t u,τ=[t,u]) ⟨none,none,rfl⟩ ?_ ?_))
  ·rintro i x τ H3 R hi ⟨t,u,rfl⟩ s3 hx k
   obtain⟨a,b,p,hF,rfl,hp⟩:=fr.at_ hx;obtain⟨v,hv,rfl⟩:=hj a b [];refine⟨p,_,rfl,SqT.of ((s1.trans s3) _ _ hp),rfl,_,_,rfl,_,_,rfl,rfl,?_⟩;refine⟨_,hv,k _ _ _ ⟨_,_,rfl⟩ (aU.refl _) ?_⟩;rw[aK,aZ,hF];rfl
  ·intro vs H2 l hvl hF s2 hl2
   rw[qT (by rw[hvl,ae,fr.len]) hF];exact hR _ l (s2.trans (aB hl2)) (s2.free hl2) av
 refine comp 0 (·.1) (fun a b τ=>⟨_,rfl,rfl⟩) H (aU.refl H) _ fun H1 p1 s1 n1 h1=>?_;refine comp 1 (·.2) (fun a b τ=>⟨_,rfl,rfl⟩) H1 s1 _ fun H2 p2 s2 n2 h2=>?_;refine .inr (.inr (.inl ⟨p1,p2,_,_,rfl,rfl,s2 _ _ h1,h2,?_,fun p3 n3=>?_⟩))
 ·rw[ae,ae,ae,ae]
  exact fM (by omega)
 rw[<-aG];refine⟨p3,ends F,rfl,SqL.of av,?_,⟨ws,l2,fun x hx=>(he x).mp hx⟩,fun ms l nd mem hl=>?_⟩
 ·unfold ends
  rw[aA,ae,ae];omega
 rw[Ak nd];have hp:=_root_.Q.uw ("":Str) nd rfl;exact q _ l _ (((s1.trans s2).trans (aB n3)).trans (aB hl)) (((s1.trans s2).trans (aB n3)).free hl) av ⟨hp.nodup_iff.mpr nd,fun v=>hp.mem_iff.trans ((mem v).trans (he v)),_root_.Q.qw nd⟩
structure Good(H:Hp)(f:Addr)(al:V)(ys:List V)(F:List (Nm×Nm))(ws:List Nm):Prop where
 fr:Frm H f ys F
 t:Tree F ws
 n63:ws.length<64
 nm:∀v∈ws,eR v=true
 al:(F=[]/\∃a,al=.str a/\ws=[a])\/(F≠[]/\al=.non)
theorem Good.grow{H H':Hp}{f:Addr}{al:V}{ys:List V}{F:List (Nm×Nm)}{ws:List Nm}(g:Good H f al ys F ws)(s:SmF H H'):Good H' f al ys F ws:={g with fr:=g.fr.grow s}
theorem Good.le{H:Hp}{f:Addr}{al:V}{ys:List V}{F:List (Nm×Nm)}{ws:List Nm}(g:Good H f al ys F ws):F.length<=62:=by
 have :=g.t.len
 have :=g.n63
 omega
noncomputable def spIf:Sp:=fun vs H Q _=>∃(f:Addr)(al:V)(ys:List V)(F:List (Nm×Nm))(ws:List Nm),vs=[.ref f,al]/\Good H f al ys F ws/\∀H',aU H H'->Q (.bl true) H'
theorem wp_if{G:Gam}{K:aa}(v1:G.val "MOST_BRANCHES"=some (.int 80))(g1:G.fn "is_name" 1=some (spN,[]))(g2:G.fn "is_pair" 1=some (spPr,[]))(g3:G.fn "names_of" 1=some (spNo,[]))(g4:G.fn "neighbours" 2=some (spNb,[]))(g5:G.fn "leads_one_way" 2=some (spLw,[])):
  Sat G K spIf p9 pj:=by
 rintro vs H Q E ⟨f,al,ys,F,ws,rfl,g,q⟩;unfold p9;change wpB G K _ _ _ [some (.ref f),some al] H;have hle:=g.le;have hlen:=g.fr.len;walk_at "wp";refine isi (kn_lst g.fr.hf) .list ⟨_,rfl,?_⟩;rw[show tyName H (.ref f)="list" by show gN (H f)=_;rw[g.fr.hf];rfl,if_neg (by decide)];refine .inl ⟨f,_,rfl,.inl (SqL.of g.fr.hf),?_⟩;refine⟨_,v1,nh.mpr ⟨_,rfl,?_⟩⟩;rw[if_neg (by rw[decide_eq_false (by omega)];decide)];unfold l7;walk_at "wp";refine .inl ⟨f,_,rfl,.inl (SqL.of g.fr.hf),?_⟩;refine pL.mpr ⟨_,rfl,?_⟩;rcases g.al with⟨hF,a,rfl,hw⟩ |⟨hF,rfl⟩
 ·rw[hF]at hlen
  rw[if_pos (decide_eq_true (by rw[hlen];rfl))];have na:=g.nm a (by rw[hw];exact au);refine⟨_,_,g1,.str a,rfl,tm,(fun z e=>by cases e;exact aP (ly na) (by decide)),fun H1 s1=>?_⟩;rw[show isName (.str a)=true from na];exact q H1 s1
 ·have h0:0<F.length:=dN.mpr hF
  rw[if_neg (by rw[decide_eq_false (by omega)];decide)];unfold l6;walk_at "wp";rw[if_neg (by simp)];refine fB (cU rfl (SqL.of g.fr.hf) (iN eI (fM (by omega)) (fun H4 s6=>SqL.of (s6 _ _ g.fr.hf)) (fun i v _=>v=.bl true) (fun _ _ _ _ _ h=>h) (fun τ=>∃t,τ=[t]) ⟨none,rfl⟩ ?_ ?_))
  ·rintro i x τ H3 R hi ⟨t,rfl⟩ s3 hx k
   obtain⟨a,b,p,hF',rfl,hp⟩:=g.fr.at_ hx;obtain⟨ha,hb⟩:=(show a∈ws/\b∈ws from g.t.sub _ (bj hF'));walk_at "wp";exact⟨_,_,g2,p,a,b,rfl,s3 _ _ hp,g.nm a ha,g.nm b hb,fun H4 s4=>k _ _ _ ⟨_,rfl⟩ s4 rfl⟩
  ·intro vs H2 l hvl hv s2 hl2
   have e:vs=((aM ys.length).map fun _=>true).map V.bl:=by rw[<-hvl];exact bool_list rfl hv
   subst e;refine⟨l,_,rfl,SqL.of av,_,rfl,?_⟩;have e2:(((aM ys.length).map fun _=>true).all id)=true:=by rw[oI];simp
   rw[e2,if_neg (by decide)];have s3:=s2.trans (aB (o:=.lst (((aM ys.length).map fun _=>true).map V.bl)) hl2);generalize upd H2 l (.lst (((aM ys.length).map fun _=>true).map V.bl))=H3 at s3;unfold lZ;walk_at "wp";refine⟨_,_,g5,_,_,g4,_,_,g3,f,ys,F,ws,rfl,g.fr.same s3,by omega,g.n63,fun v=>g.t.ends hF v,fun H4 n ns s4 n4 h4 rs=>?_⟩;have t':=g.t.names rs.nd rs.mem;refine⟨n,f,ns,ys,F,rfl,h4,g.fr.same (s3.trans s4),rs.nd,t'.sub,?_,by omega,fun H5 d ls s5 n5 h5 b e5=>?_⟩
   ·have :=t'.len
    omega
   ·refine⟨d,f,ls,ys,F,rfl,b,g.fr.same ((s3.trans s4).trans s5),?_,by omega,fun H6 s6=>q H6 (((s3.trans s4).trans s5).trans s6)⟩
    rw[e5];exact t'
noncomputable def spFl:Sp:=fun vs H Q _=>∃(f:Addr)(al:V)(ys:List V)(F:List (Nm×Nm))(ws:List Nm),vs=[.ref f,al]/\Good H f al ys F ws/\∀H' l ns,aU H H'->H l=none->H' l=some (.lst (ns.map V.str))->kb ns ws->Q (.ref l) H'
theorem wp_fl{G:Gam}{K:aa}(g1:G.fn "is_frame" 2=some (spIf,[]))(g2:G.fn "names_of" 1=some (spNo,[])):Sat G K spFl l8 lD:=by
 rintro vs H Q E ⟨f,al,ys,F,ws,rfl,g,q⟩;unfold l8;change wpB G K _ _ _ [some (.ref f),some al] H;have hle:=g.le;have hlen:=g.fr.len;walk_at "wp";refine⟨_,_,g1,f,al,ys,F,ws,rfl,g,fun H1 s1=>⟨_,rfl,?_⟩⟩;rw[if_neg (by decide)];unfold jN;walk_at "wp";refine .inl ⟨f,_,rfl,.inl (SqL.of (s1 _ _ g.fr.hf)),pL.mpr ⟨_,rfl,?_⟩⟩;rcases g.al with⟨hF,a,rfl,hw⟩ |⟨hF,rfl⟩
 ·rw[hF]at hlen
  rw[if_pos (decide_eq_true (by rw[hlen];rfl))];refine⟨(by show 1<=sizeLine;decide),fun l hl=>q _ l [a] (s1.trans (aB hl)) (s1.free hl) av ?_⟩;rw[hw];exact⟨by simp,fun v=>Iff.rfl,by simp⟩
 ·have h0:0<F.length:=dN.mpr hF
  rw[if_neg (by rw[decide_eq_false (by omega)];decide)];exact⟨_,_,g2,f,ys,F,ws,rfl,g.fr.same s1,by omega,g.n63,fun v=>g.t.ends hF v,fun H4 n ns s4 n4 h4 rs=>q H4 n ns (s1.trans s4) (s1.free n4) h4 rs⟩
end F5
namespace F5
open PySem R
noncomputable def yA:List Str:=["thing","names"]
noncomputable def rf:List Str:=["thing","names"]
noncomputable def nJ:CB:=
  (.cons (.ret (.bfn .all (.cons (.sf (.comp ["name","reading"] [1] (.tup (.cons (.name 0) (.cons (.name 1) .nil))) (.ditems (.var 0)) .no (.and (.call "is_name" (.cons (.var 0) .nil)) (.and (.cmp .In (.var 0) (.var 2)) (.call "is_reading" (.cons (.var 1) .nil)))))) .nil)))
  .nil)
noncomputable def rR:CB:=
  (.cons (.iff (.not (.bfn .isinstance (.cons (.var 0) (.cons (.ty .dict) .nil))))
  (.cons (.ret (.con (.bool false)))
  .nil)
  .nil)
  nJ)
noncomputable def wk:List Str:=["halves","reading"]
noncomputable def pq:List Str:=["halves","reading"]
noncomputable def qe:CB:=
  (.cons (.ret (.comp ["first","names"] [1] (.tup (.cons (.name 0) (.cons (.name 1) .nil))) (.seq (.var 0)) (.yes (.cmp .Eq (.var 0) (.var 2))) (.var 1)))
  .nil)
noncomputable def Bc:List Str:=["zeros","ones","name"]
noncomputable def uO:List Str:=["zeros","ones","name"]
noncomputable def vh:CB:=
  (.cons (.ret (.comp ["zero","one"] [2] (.tup (.cons (.name 0) (.cons (.name 1) .nil))) (.zip (.var 0) (.var 1)) .no (.bin .Add (.bin .Add (.var 0) (.lst (.cons (.var 2) .nil))) (.lrev (.var 1)))))
  .nil)
noncomputable def uE:List Str:=["zeros","ones","name"]
noncomputable def m4:List Str:=["zeros","ones","name"]
noncomputable def ky:CB:=
  (.cons (.ret (.con .none))
  .nil)
noncomputable def kz:CB:=
  (.cons (.iff (.cmp .Gt (.bfn .len (.cons (.var 1) .nil)) (.bfn .len (.cons (.var 0) .nil)))
  (.cons (.ret (.tup (.cons (.con (.int 1)) (.cons (.bin .Add (.idx (.var 1) (.bfn .len (.cons (.var 0) .nil))) (.lst (.cons (.var 2) .nil))) .nil))))
  .nil)
  .nil)
  ky)
noncomputable def nE:CB:=
  (.cons (.iff (.cmp .Gt (.bfn .len (.cons (.var 0) .nil)) (.bfn .len (.cons (.var 1) .nil)))
  (.cons (.ret (.tup (.cons (.con (.int 0)) (.cons (.bin .Add (.idx (.var 0) (.bfn .len (.cons (.var 1) .nil))) (.lst (.cons (.var 2) .nil))) .nil))))
  .nil)
  .nil)
  kz)
noncomputable def yD:List Str:=["ahead","read"]
noncomputable def rj:List Str:=["ahead","read","coming","leaning","ways","name","zeros","ones","half"]
noncomputable def nM:CB:=
  (.cons (.ret (.tup (.cons (.var 3) (.cons (.var 4) .nil))))
  .nil)
noncomputable def fZ:CB:=
  (.cons (.iff (.and (.cmp .IsNot (.var 8) (.con .none)) (.cmp .IsNot (.x2 .idxk (.var 0) (.var 5)) (.con .none)))
  (.cons (.expr (.meth1 .append (.x2 .idxk (.var 2) (.x2 .idxk (.var 0) (.var 5))) (.var 8)))
  .nil)
  .nil)
  .nil)
noncomputable def iu:CB:=
  (.cons (.putk (.var 3) (.var 5) (.ite (.cmp .Is (.var 8) (.con .none)) (.con .none) (.idx (.var 8) (.con (.int 0)))))
  fZ)
noncomputable def ix:CB:=
  (.cons (.asg (.name 8) (.call "left_over" (.cons (.var 6) (.cons (.var 7) (.cons (.var 5) .nil)))))
  iu)
noncomputable def iy:CB:=
  (.cons (.expr (.meth1 .extend (.var 4) (.call "joined" (.cons (.var 6) (.cons (.var 7) (.cons (.var 5) .nil))))))
  ix)
noncomputable def iz:CB:=
  (.cons (.iff (.cmp .Eq (.x2 .getk (.var 1) (.var 5)) (.con (.int 1)))
  (.cons (.asg (.name 7) (.bin .Mult (.lst (.cons (.lst .nil) .nil)) (.bin .Add (.bfn .len (.cons (.var 6) .nil)) (.con (.int 1)))))
  .nil)
  .nil)
  iy)
noncomputable def iA:CB:=
  (.cons (.iff (.cmp .Eq (.x2 .getk (.var 1) (.var 5)) (.con (.int 0)))
  (.cons (.asg (.name 6) (.bin .Mult (.lst (.cons (.lst .nil) .nil)) (.bin .Add (.bfn .len (.cons (.var 7) .nil)) (.con (.int 1)))))
  .nil)
  .nil)
  iz)
noncomputable def iB:CB:=
  (.cons (.asg (.name 7) (.call "begun_at" (.cons (.x2 .idxk (.var 2) (.var 5)) (.cons (.con (.int 1)) .nil))))
  iA)
noncomputable def nN:CB:=
  (.cons (.forr (.name 5) (.lrevd (.bfn .listk (.cons (.var 0) .nil)))
  (.cons (.asg (.name 6) (.call "begun_at" (.cons (.x2 .idxk (.var 2) (.var 5)) (.cons (.con (.int 0)) .nil))))
  iB))
  nM)
noncomputable def nO:CB:=
  (.cons (.asg (.name 4) (.lst .nil))
  nN)
noncomputable def jO:CB:=
  (.cons (.asg (.name 3) (.dic .nil))
  nO)
noncomputable def rV:CB:=
  (.cons (.asg (.name 2) (.bfn .dictl (.cons (.sf (.comp ["name"] [] (.name 0) (.dkeys (.var 0)) .no (.tup (.cons (.var 0) (.cons (.lst .nil) .nil))))) .nil)))
  jO)
noncomputable def yy:List Str:=["ahead","leaning"]
noncomputable def ra:List Str:=["ahead","leaning","told","name","above"]
noncomputable def nq:CB:=
  (.cons (.ret (.var 2))
  .nil)
noncomputable def nu:CB:=
  (.cons (.thawS (.forr (.tup (.cons (.name 3) (.cons (.name 4) .nil))) (.ditems (.var 0))
  (.cons (.iff (.cmp .IsNot (.x2 .idxk (.var 1) (.var 3)) (.con .none))
  (.cons (.putk (.var 2) (.var 3) (.x2 .idxk (.var 1) (.var 3)))
  .nil)
  (.cons (.putk (.var 2) (.var 3) (.ite (.cmp .Is (.var 4) (.con .none)) (.con (.int 0)) (.x2 .idxk (.var 2) (.var 4))))
  .nil))
  .nil)))
  nq)
noncomputable def rK:CB:=
  (.cons (.asg (.name 2) (.dic .nil))
  nu)
noncomputable def uJ:List Str:=["frame","read","alone"]
noncomputable def pk:List Str:=["frame","read","alone","names","ahead","found"]
noncomputable def qa:CB:=
  (.cons (.ret (.tup (.cons (.call "settled" (.cons (.var 4) (.cons (.idx (.var 5) (.con (.int 0))) .nil))) (.cons (.idx (.var 5) (.con (.int 1))) .nil))))
  .nil)
noncomputable def qb:CB:=
  (.cons (.asg (.name 5) (.call "climbed" (.cons (.var 4) (.cons (.var 1) .nil))))
  qa)
noncomputable def qc:CB:=
  (.cons (.asg (.name 4) (.call "reached" (.cons (.call "neighbours" (.cons (.var 3) (.cons (.var 0) .nil))) .nil)))
  qb)
noncomputable def qd:CB:=
  (.cons (.iff (.not (.call "is_read" (.cons (.var 1) (.cons (.var 3) .nil))))
  (.cons (.rais "NoFrame" (.cons (.con (.str "what is read is no dict from names of the frame to readings")) .nil))
  .nil)
  .nil)
  qc)
noncomputable def vi:CB:=
  (.cons (.asg (.name 3) (.call "frame_list" (.cons (.var 0) (.cons (.var 2) .nil))))
  qd)
end F5
namespace F5
open PySem PySem.Spec PyProof.Rows L2 R Cp Kc
theorem qX{d:Addr}{o:Obj}{kvs:List (Key×V)}:mW (Iti d o kvs) kvs.length (fun i x H=>∃p k v,x=.ref p/\H p=some (.tup [kV k,v])/\kvs[i]? =some (k,v)) (fun H=>H d=some (.frz o (.dK kvs))) where
 go:=fun i H h hi=>⟨h,hi⟩
 stop:=fun i H h hi=>⟨h,hi⟩
 yld:=fun i H x H' h hi y=>by
  obtain⟨p,k,v,hp,e,ex,y⟩:=y;subst e ex;exact⟨⟨p,k,v,rfl,av,y⟩,aB hp⟩
theorem An{d:Addr}{o:Obj}{kvs:List (Key×V)}:mW (Itk d o kvs) kvs.length (fun i x _=>∃k v,kvs[i]? =some (k,v)/\x=kV k) (fun H=>H d=some (.frz o (.dK kvs))) where
 go:=fun i H h hi=>⟨h,hi⟩
 stop:=fun i H h hi=>⟨h,hi⟩
 yld:=fun i H x H' h hi y=>by
  obtain⟨e,y⟩:=y;subst e;exact⟨y,aU.refl _⟩
theorem seq_rev{K:aa}{a:Addr}{xs:List V}:mW (Itv K a xs) xs.length (fun i x _=>xs.reverse[i]? =some x) (fun H=>SqL K H a xs) where
 go:=fun i H h hi=>⟨h,hi⟩
 stop:=fun i H h hi=>hi
 yld:=fun i H x H' h hi y=>by
  obtain⟨e,y⟩:=y;subst e;exact⟨y,aU.refl _⟩
theorem Am{K:aa}{a b:Addr}{xs ys:List V}:mW (Itz K a b) (min xs.length ys.length) (fun i v H=>∃p x y,v=.ref p/\H p=some (.tup [x,y])/\xs[i]? =some x/\ys[i]? =some y) (fun H=>SqL K H a xs/\SqL K H b ys) where
 go:=fun i H h hi=>⟨xs,ys,xs[i]'(by omega),ys[i]'(by omega),h.1,h.2,ah _,ah _⟩
 stop:=fun i H h hi=>⟨xs,ys,h.1,h.2,by omega⟩
 yld:=fun i H v H' h hi y=>by
  obtain⟨p,x,z,hp,e,ev,y1,y2⟩:=y;subst e ev;exact⟨⟨p,x,z,rfl,av,y1 _ h.1,y2 _ h.2⟩,aB hp⟩
theorem qY{H H':Hp}{d:Addr}{o:Obj}{kvs:List (Key×V)}(h:H d=some (.dK kvs))(s:aU (upd H d (.frz o (.dK kvs))) H'):aU H (upd H' d (.dK kvs)):=fun b u e=>by
 by_cases c:b=d
 ·subst c
  rw[h]at e;cases e;exact av
 ·rw[aH c]
  exact s b u (by rw[aH c];exact e)
theorem vY{H H':Hp}{d:Addr}{o:Obj}{kvs:List (Key×V)}(h:H' d=some (.dK kvs))(s:aU H H'):aU H (upd (upd H' d (.frz o (.dK kvs))) d (.dK kvs)):=fun b u e=>by
 by_cases c:b=d
 ·subst c
  rw[av,<-h];exact s b u e
 ·rw[aH c,aH c]
  exact s b u e
theorem mC{H H':Hp}{d l:Addr}{o:Obj}{kvs:List (Key×V)}(h:H d=some (.dK kvs))(s:aU (upd H d (.frz o (.dK kvs))) H')(hl:H' l=none):H l=none/\l≠d:=by
 have :=s.free hl
 by_cases c:l=d
 ·rw[c,av]at this;cases this
 ·rw[aH c]at this;exact⟨this,c⟩
noncomputable def mV(ms:List (Nm×Int)):List (Nm×V):=ms.map fun q=>(q.1,.int q.2)
theorem iU(ms:List (Nm×Int)):(mV ms).map (·.1)=ms.map (·.1):=by unfold mV;rw[bQ];rfl
noncomputable def spIr:Sp:=fun vs H Q _=>∃(r n:Addr)(ms:List (Nm×Int))(ns:List Nm),vs=[.ref r,.ref n]/\H r=some (.dK (kvS (mV ms)))/\H n=some (.lst (ns.map V.str))/\(∀q∈ms,q.1∈ns/\(q.2=0\/q.2=1))/\(∀v∈ns,eR v=true)/\ms.length<=100/\ns.length<=100/\∀H',aU H H'->Q (.bl true) H'
theorem iW(a:Nm)(l:List Nm):inV (V.str a) (l.map V.str)=decide (a∈l):=by
 unfold inV;rw[List.any_map,gM,eO,decide_eq_true_eq];constructor
 ·rintro⟨x,hx,e⟩
  have :x=a:=by simpa[eqV]using e
  rw[<-this];exact hx
 ·intro h
  exact⟨a,h,by simp[eqV]⟩
theorem mL(l:List Nm):(l.map V.str).all lL=true:=by
 rw[dh];intro v hv;obtain⟨m,_,rfl⟩:=aE.mp hv;rfl
theorem wp_ir{G:Gam}{K:aa}(g1:G.fn "is_name" 1=some (spN,[]))(g2:G.fn "is_reading" 1=some (spB iM,[])):Sat G K spIr rR rf:=by
 rintro vs H Q E ⟨r,n,ms,ns,rfl,hr,hn,hm,nn,l1,l2,q⟩;unfold rR;change wpB G K _ _ _ [some (.ref r),some (.ref n)] H;walk_at "wp";refine isi (kn_dK hr) .dict ⟨_,rfl,?_⟩;rw[show tyName H (.ref r)="dict" by show gN (H r)=_;rw[hr];rfl,if_neg (by decide)];unfold nJ;walk_at "wp";refine⟨r,_,hr,fB ⟨_,rfl,r,_,rfl,.inl ⟨hr,fun o=>?_⟩⟩⟩;have hkl:(kvS (mV ms)).length=ms.length:=by unfold kvS mV;rw[ae,ae]
 have hnr:n≠r:=gc hn hr (by intro z;cases z);have hn':upd H r (.frz o (.dK (kvS (mV ms)))) n=some (.lst (ns.map V.str)):=by rw[aH hnr];exact hn
 refine iN qX (fM (by omega)) (fun H3 s3=>s3 _ _ av) (fun i v _=>v=.bl true) (fun _ _ _ _ _ h=>h) (fun τ=>∃u v,τ=[u,v,some (.ref n)]) ⟨none,none,rfl⟩ ?_ ?_
 ·rintro i x τ H3 R hi ⟨u,v,rfl⟩ s3 ⟨p,k,v,rfl,hp,hv⟩ kk
  have hv':∃m,m∈ms/\k=.inr m.1/\v=.int m.2:=by
   have :=bj hv
   unfold kvS mV at this;rw[bQ]at this;obtain⟨m,h1,h2⟩:=aE.mp this;cases h2;exact⟨m,h1,rfl,rfl⟩
  obtain⟨⟨a,x⟩,hm1,rfl,rfl⟩:=hv';obtain⟨h1,h2⟩:=(show a∈ns/\(x=0\/x=1)from hm _ hm1);refine⟨p,_,rfl,SqT.of hp,rfl,_,_,rfl,_,_,rfl,rfl,?_⟩;walk_at "wp";refine⟨_,_,g1,.str a,rfl,tm,(fun z e=>by cases e;exact aP (ly (nn a h1)) (by decide)),fun H4 s4=>⟨_,rfl,?_⟩⟩;rw[show isName (.str a)=true from nn a h1,if_pos rfl];refine .inr ⟨n,_,rfl,.inl (SqL.of ((s3.trans s4) _ _ hn')),rfl,mL ns,_,rfl,?_⟩;show if inV (V.str a) (ns.map V.str)=true then _ else _
  rw[iW,decide_eq_true h1,if_pos rfl];refine⟨_,_,g2,.int x,rfl,kn_int,fun H5 s5=>?_⟩;rw[show iM (.int x)=true by rcases h2 with rfl|rfl<;>rfl];exact kk _ _ _ ⟨_,_,rfl⟩ (s4.trans s5) rfl
 ·intro vs H2 l hvl hv s2 hl2
  have e:vs=((aM (kvS (mV ms)).length).map fun _=>true).map V.bl:=by rw[<-hvl];exact bool_list rfl hv
  subst e;obtain⟨f1,f2⟩:=mC hr s2 hl2;refine⟨o,by rw[aH f2.symm];exact s2 _ _ av,l,_,rfl,SqL.of (by rw[aH f2,av]),?_⟩;rw[show(((aM (kvS (mV ms)).length).map fun _=>true).all id)=true by rw[oI];simp];exact q _ (qY hr (s2.trans (aB hl2)))
noncomputable def Hf(H:Hp)(bl:Addr->Prop)(b:Nat)(y:V)(x:Int):Prop:=∃p n l,y=V.ref p/\H p=some (.tup [.int x,.ref n])/\H n=some (.lst l)/\l.length<=b/\¬bl n
noncomputable def LL(H:Hp)(bl:Addr->Prop)(b:Nat)(y:V):Prop:=∃n l,y=V.ref n/\H n=some (.lst l)/\l.length<=b/\¬bl n
theorem LL.same{H H':Hp}{bl:Addr->Prop}{b:Nat}{y:V}(h:LL H bl b y)(s:aU H H'):LL H' bl b y:=let⟨n,l,e,h1,h2⟩:=h;⟨n,l,e,s _ _ h1,h2⟩
noncomputable def itm(H:Hp)(y:V)(i:Nat):V:=match y with
 |.ref p=>match H p with
  |some (.tup xs)=>xs.getD i .non
  |_=>.non
 |_=>.non
theorem kN{H:Hp}{p:Addr}{xs:List V}(h:H p=some (.tup xs))(i:Nat):itm H (.ref p) i=xs.getD i .non:=by
 show(match H p with |some (.tup xs)=>xs.getD i V.non|_=>V.non)=_;rw[h]
theorem pG{H:Hp}{bl:Addr->Prop}{b:Nat}{r:Int}:∀{hs:List V}{cs:List Int},Paired (Hf H bl b) hs cs->((hs.filter fun y=>decide (itm H y 0=.int r)).map fun y=>itm H y 1).length=cs.count r
 |_,_,.nil=>rfl
 |y::hs,x::cs,.cons h t=>by
  have ih:=pG (r:=r) t;obtain⟨p,n,l,rfl,h1,h2,h3⟩:=h;rw[dQ,kN h1];rw[ae]at ih⊢;rw[List.count_cons];by_cases c:x=r
  ·subst c
   rw[if_pos (by simp),bg,ih];simp
  ·rw[if_neg (by simpa using c),ih]
   simp[c]
noncomputable def Af:Sp:=fun vs H Q _=>∃(h:Addr)(r:Int)(hs:List V)(cs:List Int)(bl:Addr->Prop)(b:Nat),vs=[.ref h,.int r]/\H h=some (.lst hs)/\Paired (Hf H bl b) hs cs/\hs.length<=100/\
 ∀H' l zs,aU H H'->H l=none->H' l=some (.lst zs)->zs.length=cs.count r->(∀z∈zs,LL H' bl b z)->Q (.ref l) H'
theorem wp_ba{G:Gam}{K:aa}:Sat G K Af qe pq:=by
 rintro vs H Q E ⟨h,r,hs,cs,bl,b,rfl,hh,hp,l1,q⟩;unfold qe;change wpB G K _ _ _ [some (.ref h),some (.int r)] H;walk_at "wp";refine fB (cU rfl (SqL.of hh) (jW eI (fM (by omega)) (fun H4 s6=>SqL.of (s6 _ _ hh)) (fun y=>decide (itm H y 0=.int r)) (fun y=>itm H y 1) (fun τ=>∃u v,τ=[u,v,some (.int r)]) ⟨none,none,rfl⟩ ?_ ?_))
 ·rintro x τ H3 Rt Rf hx ⟨u,v,rfl⟩ s3 kt kf
  obtain⟨i,hi,ei⟩:=aR.mp hx;obtain⟨y,_,p,n,l,rfl,h1,h2,h3⟩:=sJ hp (ah hi▸congrArg some ei);refine⟨p,_,rfl,SqT.of (s3 _ _ h1),rfl,_,_,rfl,_,_,rfl,rfl,?_⟩;walk_at "wp";rw[kN h1,kN h1]at kt;rw[kN h1]at kf;by_cases c:y=r
  ·rw[if_pos (decide_eq_true c)]
   exact kt _ _ ⟨_,_,rfl⟩ (aU.refl _) (by simp[c])
  ·rw[if_neg (by simpa using c)]
   exact kf _ _ ⟨_,_,rfl⟩ (aU.refl _) (by simpa using c)
 ·intro H2 l s2 hl2
  refine q _ l _ (s2.trans (aB hl2)) (s2.free hl2) av (pG hp) fun z hz=>?_;obtain⟨y,hy,rfl⟩:=aE.mp hz;obtain⟨i,hi,ei⟩:=aR.mp (ck.mp hy).1;obtain⟨x,_,p,n,m,rfl,h1,h2,h3⟩:=sJ hp (ah hi▸congrArg some ei);rw[kN h1];exact⟨n,m,rfl,(s2.trans (aB hl2)) _ _ h2,h3⟩
noncomputable def uu:Sp:=fun vs H Q _=>∃(z o:Addr)(n:Nm)(zs os:List V)(bl:Addr->Prop)(b:Nat),vs=[.ref z,.ref o,.str n]/\H z=some (.lst zs)/\H o=some (.lst os)/\(∀y∈zs,LL H bl b y)/\(∀y∈os,LL H bl b y)/\zs.length<=200/\os.length<=200/\b<=200/\
 ∀H' l ws,aU H H'->H l=none->H' l=some (.lst ws)->ws.length=min zs.length os.length->Q (.ref l) H'
theorem wp_jn{G:Gam}{K:aa}:Sat G K uu vh uO:=by
 rintro vs H Q E ⟨z,o,n,zs,os,bl,b,rfl,hz,ho,az,ao,l1,l2,l3,q⟩;unfold vh;change wpB G K _ _ _ [some (.ref z),some (.ref o),some (.str n)] H;walk_at "wp";refine fB ⟨_,rfl,_,rfl,z,o,rfl,⟨_,SqL.of hz⟩,⟨_,SqL.of ho⟩,?_⟩;refine iN (Am (xs:=zs) (ys:=os)) (fM (by omega)) (fun H3 s3=>⟨SqL.of (s3 _ _ hz),SqL.of (s3 _ _ ho)⟩) (fun _ _ _=>True) (fun _ _ _ _ _ h=>h) (fun τ=>∃u v,τ=[u,v,some (.str n)]) ⟨none,none,rfl⟩ ?_ ?_
 ·rintro i x τ H3 R hi ⟨u,v,rfl⟩ s3 ⟨p,x,y,rfl,hp,hx,hy⟩ kk
  obtain⟨a,la,rfl,ha,ba,_⟩:=(az x (bj hx)).same s3;obtain⟨c,lc,rfl,hc,bc,_⟩:=(ao y (bj hy)).same s3;refine⟨p,_,rfl,SqT.of hp,rfl,_,_,rfl,_,_,rfl,rfl,?_⟩;walk_at "wp";refine⟨(by show 1<=sizeLine;decide),fun p1 n1=>?_⟩;refine .inr (.inr (.inl ⟨a,p1,_,_,rfl,rfl,aB n1 _ _ ha,av,fM (by show la.length+1<=1000;omega),fun p2 n2=>?_⟩));have s4:=(aB (o:=.lst [.str n]) n1).trans (aB (o:=.lst (la++[.str n])) n2);refine⟨c,_,rfl,SqL.of (s4 _ _ hc),fun p3 n3=>?_⟩;refine .inr (.inr (.inl ⟨p2,p3,_,_,rfl,rfl,aB n3 _ _ av,av,fM (by rw[aA,dM];show la.length+1+lc.length<=1000;omega),fun p4 n4=>?_⟩));exact kk _ _ _ ⟨_,_,rfl⟩ ((s4.trans (aB n3)).trans (aB n4)) trivial
 ·intro vs H2 l hvl _ s2 hl2
  exact q _ l vs (s2.trans (aB hl2)) (s2.free hl2) av hvl
noncomputable def sk:Sp:=fun vs H Q _=>∃(z o:Addr)(n:Nm)(zs os:List V)(bl:Addr->Prop)(b:Nat),vs=[.ref z,.ref o,.str n]/\H z=some (.lst zs)/\H o=some (.lst os)/\(∀y∈zs,LL H bl b y)/\(∀y∈os,LL H bl b y)/\b<=200/\zs.length<=1000/\os.length<=1000/\(∀n,H n=none->¬bl n)/\
 (half zs.length os.length=none->Q .non H)/\∀x H' p,half zs.length os.length=some x->aU H H'->H p=none->Hf H' bl (b+1) (.ref p) x->(∃y,H' p=some (.tup [.int x,y]))->Q (.ref p) H'
theorem wp_lo{G:Gam}{K:aa}:Sat G K sk nE m4:=by
 rintro vs H Q E ⟨z,o,n,zs,os,bl,b,rfl,hz,ho,az,ao,l3,l4,l5,fb,q1,q2⟩;have fin:∀(x:Int)(a:Addr)(la:List V),half zs.length os.length=some x->H a=some (.lst la)->la.length<=b->∀p1,H p1=none->iI K .Add (.ref a) (.ref p1) (upd H p1 (.lst [.str n])) fun y H2=>2<=sizeLine/\∀p,H2 p=none->Q (.ref p) (upd H2 p (.tup [.int x,y])):=by
  intro x a la hx ha hb p1 n1;refine .inr (.inr (.inl ⟨a,p1,_,_,rfl,rfl,aB n1 _ _ ha,av,fM (by show la.length+1<=1000;omega),fun p2 n2=>⟨by decide,fun p3 n3=>?_⟩⟩));have s4:=((aB (o:=.lst [.str n]) n1).trans (aB (o:=.lst (la++[.str n])) n2)).trans (aB (o:=.tup [.int x,.ref p2]) n3);exact q2 x _ p3 hx s4 (((aB n1).trans (aB n2)).free n3) ⟨p3,p2,_,rfl,av,aB n3 _ _ av,(by rw[aA];show la.length+1<=_;omega),fb p2 ((aB n1).free n2)⟩ ⟨_,av⟩
 unfold nE;change wpB G K _ _ _ [some (.ref z),some (.ref o),some (.str n)] H;walk_at "wp";refine .inl ⟨z,_,rfl,.inl (SqL.of hz),.inl ⟨o,_,rfl,.inl (SqL.of ho),nh.mpr ⟨_,rfl,?_⟩⟩⟩;by_cases c1:os.length<zs.length
 ·rw[if_pos (decide_eq_true (by omega))]
  have hx:half zs.length os.length=some 0:=if_pos c1;obtain⟨a,la,ea,ha,hb,_⟩:=az _ (cK c1);refine .inl ⟨o,_,rfl,.inl (SqL.of ho),.inl ⟨z,_,_,.ref a,rfl,rfl,SqL.of hz,fF (by rw[ah c1,ea]),?_⟩⟩;exact⟨(by show 1<=sizeLine;decide),fun p1 n1=>fin 0 a la hx ha hb p1 n1⟩
 ·rw[if_neg (by rw[decide_eq_false (by omega)];decide)]
  unfold kz;walk_at "wp";refine .inl ⟨o,_,rfl,.inl (SqL.of ho),.inl ⟨z,_,rfl,.inl (SqL.of hz),nh.mpr ⟨_,rfl,?_⟩⟩⟩;by_cases c2:zs.length<os.length
  ·rw[if_pos (decide_eq_true (by omega))]
   have hx:half zs.length os.length=some 1:=(if_neg c1).trans (if_pos c2);obtain⟨a,la,ea,ha,hb,_⟩:=ao _ (cK c2);refine .inl ⟨z,_,rfl,.inl (SqL.of hz),.inl ⟨o,_,_,.ref a,rfl,rfl,SqL.of ho,fF (by rw[ah c2,ea]),?_⟩⟩;exact⟨(by show 1<=sizeLine;decide),fun p1 n1=>fin 1 a la hx ha hb p1 n1⟩
  ·rw[if_neg (by rw[decide_eq_false (by omega)];decide)]
   unfold ky;walk_at "wp";exact q1 ((if_neg c1).trans (if_neg c2))
noncomputable def S0:Cl:=⟨fun _=>[],0⟩
theorem wU(rd:Nm->Option Int)(l:List (Nm×Option Nm))(e:Nm×Option Nm)(S:Cl):fC rd (l++[e]) S=(fC rd l S).step rd e:=by
 unfold fC;rw[List.foldl_append];rfl
theorem ng(rd:Nm->Option Int)(e:Nm×Option Nm):∀(l:List (Nm×Option Nm))(S:Cl),halves rd (l++[e]) S=halves rd l S++[(fC rd l S).half rd e.1]
 | [],_=>rfl
 |x::l,S=>congrArg (S.half rd x.1::·) (ng rd e l (S.step rd x))
theorem hO(rd:Nm->Option Int):∀(l:List (Nm×Option Nm))(S:Cl),(halves rd l S).length=l.length
 | [],_=>rfl
 |_::l,_=>congrArg (·+1) (hO rd l _)
theorem xo(cs:Nm->List Int)(h:Option Int)(p:Option Nm)(v:Nm):(put cs h p v).length<=(cs v).length+1:=by
 unfold put;cases h with
 |none=>exact eL _
 |some x=>
  cases p with
  |none=>exact eL _
  |some q=>
   dsimp only;by_cases c:v=q
   ·rw[if_pos c,c,aA]
    exact ar _
   ·rw[if_neg c]
    exact eL _
theorem BU(rd:Nm->Option Int)(v:Nm):∀(l:List (Nm×Option Nm))(S:Cl)(b:Nat),(∀v,(S.cs v).length<=b)->((fC rd l S).cs v).length<=b+l.length
 | [],S,b,h=>h v
 |e::l,S,b,h=>by
  have :=BU rd v l (S.step rd e) (b+1) fun v=>aP (xo ..) (qM (h v))
  rw[bg];show((fC rd l (S.step rd e)).cs v).length<=_;omega
theorem zo_le(r:Option Int){z o b:Nat}(h1:z<=b)(h2:o<=b):(zo r z o).1<=b+1/\(zo r z o).2<=b+1:=by
 unfold zo;split
 ·exact⟨by omega,by omega⟩
 ·split
  ·exact⟨by omega,by omega⟩
  ·exact⟨by omega,by omega⟩
noncomputable def lv(rd:Nm->Option Int)(R:List (Nm×Option Nm)):List (Nm×Option Int):=(R.map (·.1)).zip (halves rd R S0)
theorem lv_snoc(rd:Nm->Option Int)(l:List (Nm×Option Nm))(e:Nm×Option Nm):lv rd (l++[e])=lv rd l++[(e.1,(fC rd l S0).half rd e.1)]:=by
 unfold lv;rw[ng,aG,List.zip_append (by rw[ae,hO])];rfl
theorem jT(rd:Nm->Option Int)(R:List (Nm×Option Nm)):(lv rd R).map (·.1)=R.map (·.1):=by
 unfold lv;rw[List.map_fst_zip (by rw[ae,hO];exact ar _)]
noncomputable def hV:Option Int->V
 |some x=>.int x
 |none=>.non
noncomputable def oV(L:List (Nm×Option Int)):List (Nm×V):=L.map fun q=>(q.1,hV q.2)
theorem xw(L:List (Nm×Option Int)):(oV L).map (·.1)=L.map (·.1):=by unfold oV;rw[bQ];rfl
noncomputable def rdO(ms:List (Nm×Int))(v:Nm):Option Int:=(ms.find? fun q=>decide (q.1=v)).map (·.2)
theorem uT(v:Nm):∀ms:List (Nm×Int),lk (mV ms) v=(rdO ms v).map V.int
 | []=>rfl
 | (a,x)::ms=>by
  have ih:=uT v ms;unfold lk rdO mV at ih⊢;rw[aY,cq,cq];cases h:decide (a=v)with
  |true=>rfl
  |false=>exact ih
theorem ft{ms:List (Nm×Int)}{v:Nm}{x:Int}(h:rdO ms v=some x):(v,x)∈ms:=by
 unfold rdO at h;obtain⟨⟨a,b⟩,h1,h2⟩:=fN.mp h;have h3:=List.find?_some h1;have :a=v:=of_decide_eq_true h3;subst this;cases h2;exact List.mem_of_find?_eq_some h1
noncomputable def refs(ls:List (Nm×Addr)):List (Nm×V):=ls.map fun q=>(q.1,V.ref q.2)
theorem o4{α β:Type}{F:α->β->Prop}{a:α}{b:β}(h:F a b):∀{l:List α}{m:List β},Paired F l m->Paired F (l++[a]) (m++[b])
 |_,_,.nil=>.cons h .nil
 |_,_,.cons r t=>.cons r (o4 h t)
noncomputable def Bl(ls:List (Nm×Addr))(w:Addr):Addr->Prop:=fun n=>n=w\/n∈ls.map (·.2)
structure Cs(H H':Hp)(d e w l0:Addr)(ls:List (Nm×Addr))(N:List V)(cs:Nm->List Int)(b:Nat)(L:List (Nm×Option Int))(wn:Nat):Prop where
 sm:aU H H'
 hd:H' d=some (.dK (kvS (refs ls)))
 cm:∃c,Bes H' d ls c/\∀q∈ls,Paired (Hf H' (Bl ls w) b) (c q.1) (cs q.1)
 he:H' e=some (.dK (kvS (oV L)))
 hw:∃ws,H' w=some (.lst ws)/\ws.length=wn
 h0:H' l0=some (.lst N)
 n0:¬Bl ls w l0
 ne:H e=none
 nb:∀n,Bl ls w n->H n=none
 nw:w∉ls.map (·.2)
 de:d≠e
section
variable {H H1 H2:Hp}{d e w l0:Addr}{ls:List (Nm×Addr)}{N:List V}{cs:Nm->List Int}{b:Nat}{L:List (Nm×Option Int)}{wn:Nat}
theorem Hf.same{bl:Addr->Prop}{y:V}{x:Int}(h:Hf H1 bl b y x)(s:aU H1 H2):Hf H2 bl b y x:=let⟨p,n,l,e,h1,h2,h3⟩:=h;⟨p,n,l,e,s _ _ h1,s _ _ h2,h3⟩
theorem Hf.upd{bl:Addr->Prop}{y:V}{x:Int}{a:Addr}{xs:List V}{o:HO}(h:Hf H1 bl b y x)(ha:bl a)(h2:H1 a=some (.lst xs)):Hf (upd H1 a o) bl b y x:=by
 obtain⟨p,n,l,e,h1,h3,h4,h5⟩:=h;exact⟨p,n,l,e,by rw[aH (gc h1 h2 (fun z=>nomatch z))];exact h1,by rw[aH (fun z=>h5 (by rw[z];exact ha))];exact h3,h4,h5⟩
theorem LL.upd{bl:Addr->Prop}{y:V}{a:Addr}{o:HO}(h:LL H1 bl b y)(ha:bl a):LL (upd H1 a o) bl b y:=by
 obtain⟨n,l,e,h3,h4,h5⟩:=h;exact⟨n,l,e,by rw[aH (fun z=>h5 (by rw[z];exact ha))];exact h3,h4,h5⟩
theorem Hf.dic{bl:Addr->Prop}{y:V}{x:Int}{a:Addr}{kvs:List (Key×V)}{o:HO}(h:Hf H1 bl b y x)(h2:H1 a=some (.dK kvs)):Hf (L2.upd H1 a o) bl b y x:=by
 obtain⟨p,n,l,e,h1,h3,h4⟩:=h;exact⟨p,n,l,e,by rw[aH (gc h1 h2 (fun z=>nomatch z))];exact h1,by rw[aH (gc h3 h2 (fun z=>nomatch z))];exact h3,h4⟩
theorem Hf.le{bl:Addr->Prop}{y:V}{x:Int}{b':Nat}(h:Hf H1 bl b y x)(l:b<=b'):Hf H1 bl b' y x:=let⟨p,n,l',e,h1,h2,h3,h4⟩:=h;⟨p,n,l',e,h1,h2,aP h3 l,h4⟩
theorem Cs.same(C:Cs H H1 d e w l0 ls N cs b L wn)(s:aU H1 H2):Cs H H2 d e w l0 ls N cs b L wn:=by
 obtain⟨c,c1,c2⟩:=C.cm;obtain⟨ws,w1,w2⟩:=C.hw;exact{C with sm:=C.sm.trans s,hd:=s _ _ C.hd,cm:=⟨c,c1.same (.of s),fun q hq=>L2.Paired.lG (c2 q hq) fun _ _ h=>h.same s⟩,he:=s _ _ C.he,hw:=⟨ws,s _ _ w1,w2⟩,h0:=s _ _ C.h0}
theorem Cs.bls(C:Cs H H1 d e w l0 ls N cs b L wn){n:Addr}(h:Bl ls w n):∃l,H1 n=some (.lst l):=by
 rcases h with rfl|h
 ·exact C.hw.imp fun _ h=>h.1
 ·obtain⟨q,hq,rfl⟩:=aE.mp h
  obtain⟨c,c1,_⟩:=C.cm;exact⟨_,c1.at_ q hq⟩
theorem Cs.new(C:Cs H H1 d e w l0 ls N cs b L wn)(n:Addr)(h:H1 n=none):¬Bl ls w n:=fun z=>by
 obtain⟨l,hl⟩:=C.bls z;rw[h]at hl;cases hl
theorem Cs.ext(C:Cs H H1 d e w l0 ls N cs b L wn){ws:List V}{m:Nat}(h:ws.length=m):Cs H (upd H1 w (.lst ws)) d e w l0 ls N cs b L m:=by
 obtain⟨c,c1,c2⟩:=C.cm;obtain⟨wz,w1,w2⟩:=C.hw;have nd:d≠w:=gc C.hd w1 (fun z=>nomatch z);refine{C with sm:=cZ C.sm (C.nb w (.inl rfl)),hd:=by rw[aH nd];exact C.hd,cm:=⟨c,⟨.inl (by rw[aH nd];exact C.hd),c1.nd,c1.na,fun q hq=>?_⟩,fun q hq=>L2.Paired.lG (c2 q hq) fun _ _ h=>h.upd (.inl rfl) w1⟩,he:=by rw[aH (gc C.he w1 (fun z=>nomatch z))];exact C.he,hw:=⟨ws,av,h⟩,h0:=by rw[aH (fun z=>C.n0 (.inl z))];exact C.h0};rw[aH (fun z=>C.nw (by rw[<-z];exact cD hq))];exact c1.at_ q hq
theorem Cs.put(C:Cs H H1 d e w l0 ls N cs b L wn){L':List (Nm×Option Int)}:Cs H (upd H1 e (.dK (kvS (oV L')))) d e w l0 ls N cs b L' wn:=by
 obtain⟨c,c1,c2⟩:=C.cm;obtain⟨wz,w1,w2⟩:=C.hw;refine{C with sm:=cZ C.sm C.ne,hd:=by rw[aH C.de];exact C.hd,cm:=⟨c,⟨.inl (by rw[aH C.de];exact C.hd),c1.nd,c1.na,fun q hq=>?_⟩,fun q hq=>L2.Paired.lG (c2 q hq) fun _ _ h=>h.dic C.he⟩,he:=av,hw:=⟨wz,by rw[aH (gc w1 C.he (fun z=>nomatch z))];exact w1,w2⟩,h0:=by rw[aH (gc C.h0 C.he (fun z=>nomatch z))];exact C.h0};rw[aH (gc (c1.at_ q hq) C.he (fun z=>nomatch z))];exact c1.at_ q hq
theorem Cs.app(C:Cs H H1 d e w l0 ls N cs b L wn){p:Nm}{y:V}{x:Int}(hp:p∈ls.map (·.1))(hy:Hf H1 (Bl ls w) b y x):∃a l,kc H1 d (.str p) (some (.ref a))/\H1 a=some (.lst l)/\l.length=(cs p).length/\Cs H (upd H1 a (.lst (l++[y]))) d e w l0 ls N (F5.put cs (some x) (some p)) b L wn:=by
 obtain⟨c,c1,c2⟩:=C.cm;obtain⟨wz,w1,w2⟩:=C.hw;obtain⟨a,ha,g,h⟩:=c1.get hp;have ba:Bl ls w a:=.inr (aE.mpr ⟨_,ha,rfl⟩);have hda:d≠a:=gc C.hd h (fun z=>nomatch z);refine⟨a,c p,g,h,(c2 _ ha).length,{C with sm:=cZ C.sm (C.nb a ba),hd:=by rw[aH hda];exact C.hd,cm:=⟨_,c1.app ha,fun q hq=>?_⟩,he:=by rw[aH (gc C.he h (fun z=>nomatch z))];exact C.he,hw:=⟨wz,by rw[aH (fun z=>C.nw (by rw[z];exact aE.mpr ⟨_,ha,rfl⟩))];exact w1,w2⟩,h0:=by rw[aH (fun z=>C.n0 (by rw[z];exact ba))];exact C.h0}⟩;show Paired _ (if q.1=p then c p++[y]else c q.1) (if q.1=p then cs p++[x]else cs q.1);by_cases z:q.1=p
 ·rw[if_pos z,if_pos z]
  exact L2.Paired.lG (o4 hy (c2 _ ha)) fun _ _ h'=>Hf.upd h' ba h
 ·rw[if_neg z,if_neg z]
  exact L2.Paired.lG (c2 q hq) fun _ _ h'=>h'.upd ba h
end
noncomputable def Hh(H:Hp)(bl:Addr->Prop)(b:Nat)(y:V):Option Int->Prop
 |none=>y=.non
 |some x=>Hf H bl b y x
section
variable {G:Gam}{K:aa}{E:XS}{D:Ends}{H H1:Hp}{a r d e w l0:Addr}{ls:List (Nm×Addr)}{N:List V}{cs:Nm->List Int}{b:Nat}{L:List (Nm×Option Int)}{wn:Nat}{A:List (Nm×Option Nm)}{v:Nm}{p:Option Nm}{h:Option Int}{y:V}{x6 x7 x8:Option V}
theorem tn8(C:Cs H H1 d e w l0 ls N cs b L wn)(ha:H a=some (.dK (kvS (aV A))))(hA:lk (aV A) v=some (pV p))(hp:∀q,p=some q->q∈ls.map (·.1))(hh:Hh H1 (Bl ls w) b y h)(hb:∀q,(cs q).length<=200)
  (hk:∀H2,Cs H H2 d e w l0 ls N (put cs h p) b L wn->D.nx [some (.ref a),some (.ref r),some (.ref d),some (.ref e),some (.ref w),some (.str v),x6,x7,some y] H2):
  wpB G K E fZ D [some (.ref a),some (.ref r),some (.ref d),some (.ref e),some (.ref w),some (.str v),x6,x7,some y] H1:=by
 unfold fZ;walk_at "wp";have ga:=hA▸qF v (.inl (C.sm _ _ ha));cases h with
 |none=>
  have :y=.non:=hh;subst this;rw[if_neg (by simp),if_neg (by simp)];exact hk H1 C
 |some x=>
  have hy:y≠.non:=by
   obtain⟨_,_,_,rfl,_⟩:=(show Hf H1 (Bl ls w) b y x from hh);exact fun z=>nomatch z
  rw[if_pos (by rw[decide_eq_false hy];rfl)];refine⟨a,_,rfl,ga,?_⟩;cases p with
  |none=>
   rw[if_neg (by simp[pV])];exact hk H1 C
  |some q=>
   rw[if_pos (by simp[pV])];refine⟨a,_,rfl,ga,d,?_⟩;obtain⟨u,l,g1,g2,g3,C2⟩:=C.app (hp q rfl) hh;have :=hb q;exact⟨_,rfl,g1,.inl ⟨rfl,l,SqL.of g2⟩,u,l,y,rfl,rfl,g2,Bt (by omega),hk _ C2⟩
theorem oV_snoc(L:List (Nm×Option Int))(v:Nm)(h:Option Int):oV L++[(v,hV h)]=oV (L++[(v,h)]):=by unfold oV;rw[aG];rfl
theorem tn7(C:Cs H H1 d e w l0 ls N cs b L wn)(ha:H a=some (.dK (kvS (aV A))))(hA:lk (aV A) v=some (pV p))(hp:∀q,p=some q->q∈ls.map (·.1))(hh:Hh H1 (Bl ls w) b y h)(hb:∀q,(cs q).length<=200)(hv:v∉L.map (·.1))(hL:L.length<=200)
  (hk:∀σ H2,Cs H H2 d e w l0 ls N (put cs h p) b (L++[(v,h)]) wn->(∃y5 y6 y7 y8,σ=[some (.ref a),some (.ref r),some (.ref d),some (.ref e),some (.ref w),y5,y6,y7,y8])->D.nx σ H2):
  wpB G K E iu D [some (.ref a),some (.ref r),some (.ref d),some (.ref e),some (.ref w),some (.str v),x6,x7,some y] H1:=by
 unfold iu;walk_at "wp";have he:=dput (x:=hV h) C.he (by unfold oV;rw[ae];omega) (by rw[xw];exact hv);rw[oV_snoc]at he;have fin:wpB G K E fZ D [some (.ref a),some (.ref r),some (.ref d),some (.ref e),some (.ref w),some (.str v),x6,x7,some y] (upd H1 e (.dK (kvS (oV (L++[(v,h)]))))):=by
  refine tn8 C.put ha hA hp ?_ hb fun H2 C2=>hk _ H2 C2 ⟨_,_,_,_,rfl⟩;cases h with
  |none=>exact hh
  |some x=>exact Hf.dic hh C.he
 cases h with
 |none=>
  have :y=.non:=hh;subst this;rw[if_pos (by simp)];exact⟨e,_,rfl,he,fin⟩
 |some x=>
  obtain⟨p1,n1,_,rfl,h1,_⟩:=(show Hf H1 (Bl ls w) b y x from hh);rw[if_neg (by simp)];exact .inr (.inl ⟨p1,_,0,.int x,rfl,rfl,SqT.of h1,rfl,e,_,rfl,he,fin⟩)
theorem Cs.le(C:Cs H H1 d e w l0 ls N cs b L wn){b':Nat}(l:b<=b'):Cs H H1 d e w l0 ls N cs b' L wn:=by
 obtain⟨c,c1,c2⟩:=C.cm;exact{C with cm:=⟨c,c1,fun q hq=>L2.Paired.lG (c2 q hq) fun _ _ h=>h.le l⟩}
theorem tn6{z o:Addr}{zs os:List V}(g6:G.fn "left_over" 3=some (sk,[]))(C:Cs H H1 d e w l0 ls N cs b L wn)(ha:H a=some (.dK (kvS (aV A))))(hA:lk (aV A) v=some (pV p))(hp:∀q,p=some q->q∈ls.map (·.1))(hb:∀q,(cs q).length<=200)(hv:v∉L.map (·.1))(hL:L.length<=200)
  (hz:H1 z=some (.lst zs))(ho:H1 o=some (.lst os))(az:∀y∈zs,LL H1 (Bl ls w) b y)(ao:∀y∈os,LL H1 (Bl ls w) b y)(lb:b<=200)(lz:zs.length<=200)(lo:os.length<=200)
  (hk:∀σ H2,Cs H H2 d e w l0 ls N (put cs (half zs.length os.length) p) (b+1) (L++[(v,half zs.length os.length)]) wn->(∃y5 y6 y7 y8,σ=[some (.ref a),some (.ref r),some (.ref d),some (.ref e),some (.ref w),y5,y6,y7,y8])->D.nx σ H2):
  wpB G K E ix D [some (.ref a),some (.ref r),some (.ref d),some (.ref e),some (.ref w),some (.str v),some (.ref z),some (.ref o),x8] H1:=by
 unfold ix;walk_at "wp";refine⟨_,_,g6,z,o,v,zs,os,Bl ls w,b,rfl,hz,ho,az,ao,lb,by omega,by omega,C.new,fun h=>?_,fun x H' p' h s n hf _=>?_⟩
 ·rw[h]at hk
  exact tn7 (C.le (eL b)) ha hA hp (show Hh H1 _ _ _ none from rfl) hb hv hL hk
 ·rw[h]at hk
  exact tn7 ((C.same s).le (eL b)) ha hA hp (show Hh H' _ _ _ (some x)from hf) hb hv hL hk
theorem tn5{z o:Addr}{zs os:List V}(g5:G.fn "joined" 3=some (uu,[]))(g6:G.fn "left_over" 3=some (sk,[]))(C:Cs H H1 d e w l0 ls N cs b L wn)(ha:H a=some (.dK (kvS (aV A))))(hA:lk (aV A) v=some (pV p))(hp:∀q,p=some q->q∈ls.map (·.1))(hb:∀q,(cs q).length<=200)(hv:v∉L.map (·.1))(hL:L.length<=200)
  (hz:H1 z=some (.lst zs))(ho:H1 o=some (.lst os))(az:∀y∈zs,LL H1 (Bl ls w) b y)(ao:∀y∈os,LL H1 (Bl ls w) b y)(lb:b<=200)(lz:zs.length<=200)(lo:os.length<=200)(nz:z≠w)(no:o≠w)(lw:wn<=20000)
  (hk:∀σ H2,Cs H H2 d e w l0 ls N (put cs (half zs.length os.length) p) (b+1) (L++[(v,half zs.length os.length)]) (wn+min zs.length os.length)->(∃y5 y6 y7 y8,σ=[some (.ref a),some (.ref r),some (.ref d),some (.ref e),some (.ref w),y5,y6,y7,y8])->D.nx σ H2):
  wpB G K E iy D [some (.ref a),some (.ref r),some (.ref d),some (.ref e),some (.ref w),some (.str v),some (.ref z),some (.ref o),x8] H1:=by
 unfold iy;walk_at "wp";refine⟨.inl ⟨rfl,C.hw.imp fun _ h=>SqL.of h.1⟩,_,_,g5,z,o,v,zs,os,Bl ls w,b,rfl,hz,ho,az,ao,lz,lo,lb,fun H2 l xs s n h1 h2=>?_⟩;obtain⟨ws,w1,w2⟩:=(C.same s).hw;refine⟨w,l,ws,xs,rfl,rfl,w1,h1,?_,?_⟩
 ·exact aP (show ws.length+xs.length<=30000 by omega) (by decide)
 ·exact tn6 g6 ((C.same s).ext (show(ws++xs).length=wn+min zs.length os.length by rw[aA];omega)) ha hA hp hb hv hL (by rw[aH nz];exact s _ _ hz) (by rw[aH no];exact s _ _ ho) (fun y hy=>((az y hy).same s).upd (.inl rfl)) (fun y hy=>((ao y hy).same s).upd (.inl rfl)) lb lz lo hk
theorem eq_oi{x:Option Int}{i:Int}{Q:VK}(q:Q (.bl (decide (x=some i))) H):fu K .Eq ((x.map V.int).getD .non) (.int i) H Q:=by
 cases x with
 |none=>exact⟨.non,.int i,rfl,rfl,aL _,q⟩
 |some x=>
  refine pL.mpr ?_;rw[show decide (some x=some i)=decide (x=i) by simp]at q;exact q
theorem xE{Q:VK}{o:Addr}{os:List V}(ho:H o=some (.lst os))(l:os.length<=200)(q:∀H2 z n,aU H H2->H z=none->H n=none->H2 z=some (.lst (bq (os.length+1) (.ref n)))->H2 n=some (.lst [])->Q (.ref z) H2):
  ([]:List V).length<=sizeLine/\∀p,H p=none->[V.ref p].length<=sizeLine/\∀p1,upd H p (.lst []) p1=none->rBf K .len [.ref o] (upd (upd H p (.lst [])) p1 (.lst [.ref p])) fun x H1=>iI K .Add x (.int 1) H1 fun y H2=>iI K .Mult (.ref p1) y H2 Q:=by
 refine⟨aL _,fun p hp=>⟨(by show 1<=sizeLine;decide),fun p1 h1=>.inl ⟨o,_,rfl,.inl (SqL.of (aB h1 _ _ (aB hp _ _ ho))),tM.mpr ?_⟩⟩⟩;have s:=(aB (o:=.lst []) hp).trans (aB (o:=.lst [.ref p]) h1);refine .inr (.inl ⟨p1,_,[.ref p],rfl,rfl,av,by omega,by omega,fM (by show 1*_<=_;omega),fun z hz=>q _ z p (s.trans (aB hz)) (s.free hz) hp ?_ (aB hz _ _ (aB h1 _ _ av))⟩);rw[av,List.flatten_replicate_singleton];rfl
theorem LL.nil{H2:Hp}{bl:Addr->Prop}{n:Addr}{k:Nat}(h:H2 n=some (.lst []))(hn:¬bl n):∀y∈bq k (V.ref n),LL H2 bl b y:=fun y hy=>by
 rw[List.eq_of_mem_replicate hy];exact⟨n,[],rfl,h,aL _,hn⟩
theorem tn4{z o:Addr}{zs os:List V}{ms:List (Nm×Int)}(g5:G.fn "joined" 3=some (uu,[]))(g6:G.fn "left_over" 3=some (sk,[]))(C:Cs H H1 d e w l0 ls N cs b L wn)(ha:H a=some (.dK (kvS (aV A))))(hr:H r=some (.dK (kvS (mV ms))))(hA:lk (aV A) v=some (pV p))(hp:∀q,p=some q->q∈ls.map (·.1))(hb:∀q,(cs q).length<=200)(hv:v∉L.map (·.1))(hL:L.length<=200)
  (hz:H1 z=some (.lst zs))(ho:H1 o=some (.lst os))(az:∀y∈zs,LL H1 (Bl ls w) b y)(ao:∀y∈os,LL H1 (Bl ls w) b y)(lb:b<=200)(lz:zs.length<=101)(lo:os.length<=101)(nz:z≠w)(no:o≠w)(lw:wn<=20000)
  (hk:∀σ H2 (h:Nat×Nat),h=(zs.length,if rdO ms v=some 1 then zs.length+1 else os.length)->Cs H H2 d e w l0 ls N (put cs (half h.1 h.2) p) (b+1) (L++[(v,half h.1 h.2)]) (wn+min h.1 h.2)->(∃y5 y6 y7 y8,σ=[some (.ref a),some (.ref r),some (.ref d),some (.ref e),some (.ref w),y5,y6,y7,y8])->D.nx σ H2):
  wpB G K E iz D [some (.ref a),some (.ref r),some (.ref d),some (.ref e),some (.ref w),some (.str v),some (.ref z),some (.ref o),x8] H1:=by
 unfold iz;walk_at "wp";refine⟨r,rfl,.inl ⟨_,.inl (C.sm _ _ hr)⟩,_,uT v ms▸qF v (.inl (C.sm _ _ hr)),eq_oi ⟨_,rfl,?_⟩⟩;by_cases c:rdO ms v=some 1
 ·rw[if_pos (decide_eq_true c)]
  rw[if_pos c]at hk;refine xE hz (by omega) fun H2 o' n s n1 n2 h1 h2=>?_;have hw:H1 w≠none:=by obtain⟨_,h,_⟩:=C.hw;rw[h];exact fun z=>nomatch z
  refine tn5 g5 g6 (C.same s) ha hA hp hb hv hL (s _ _ hz) h1 (fun y hy=>(az y hy).same s) (LL.nil h2 (C.new n n2)) lb (by omega) (by rw[d9];omega) nz (fun z=>hw (by rw[<-z];exact n1)) lw ?_;rw[d9];exact fun σ H2=>hk σ H2 _ rfl
 ·rw[if_neg (by simpa using c)]
  rw[if_neg c]at hk;exact tn5 g5 g6 C ha hA hp hb hv hL hz ho az ao lb (by omega) (by omega) nz no lw fun σ H2=>hk σ H2 _ rfl
theorem tn3{z o:Addr}{zs os:List V}{ms:List (Nm×Int)}(g5:G.fn "joined" 3=some (uu,[]))(g6:G.fn "left_over" 3=some (sk,[]))(C:Cs H H1 d e w l0 ls N cs b L wn)(ha:H a=some (.dK (kvS (aV A))))(hr:H r=some (.dK (kvS (mV ms))))(hA:lk (aV A) v=some (pV p))(hp:∀q,p=some q->q∈ls.map (·.1))(hb:∀q,(cs q).length<=200)(hv:v∉L.map (·.1))(hL:L.length<=200)
  (hz:H1 z=some (.lst zs))(ho:H1 o=some (.lst os))(az:∀y∈zs,LL H1 (Bl ls w) b y)(ao:∀y∈os,LL H1 (Bl ls w) b y)(lb:b<=200)(lz:zs.length<=100)(lo:os.length<=100)(nz:z≠w)(no:o≠w)(lw:wn<=20000)
  (hk:∀σ H2 (h:Nat×Nat),h=zo (rdO ms v) zs.length os.length->Cs H H2 d e w l0 ls N (put cs (half h.1 h.2) p) (b+1) (L++[(v,half h.1 h.2)]) (wn+min h.1 h.2)->(∃y5 y6 y7 y8,σ=[some (.ref a),some (.ref r),some (.ref d),some (.ref e),some (.ref w),y5,y6,y7,y8])->D.nx σ H2):
  wpB G K E iA D [some (.ref a),some (.ref r),some (.ref d),some (.ref e),some (.ref w),some (.str v),some (.ref z),some (.ref o),x8] H1:=by
 unfold iA;walk_at "wp";refine⟨r,rfl,.inl ⟨_,.inl (C.sm _ _ hr)⟩,_,uT v ms▸qF v (.inl (C.sm _ _ hr)),eq_oi ⟨_,rfl,?_⟩⟩;by_cases c:rdO ms v=some 0
 ·rw[if_pos (decide_eq_true c)]
  refine xE ho (by omega) fun H2 z' n s n1 n2 h1 h2=>?_;have hw:H1 w≠none:=by obtain⟨_,h,_⟩:=C.hw;rw[h];exact fun z=>nomatch z
  refine tn4 g5 g6 (C.same s) ha hr hA hp hb hv hL h1 (s _ _ ho) (LL.nil h2 (C.new n n2)) (fun y hy=>(ao y hy).same s) lb (by rw[d9];omega) (by omega) (fun z=>hw (by rw[<-z];exact n1)) no lw ?_;intro σ H2 h e';refine hk σ H2 h ?_;rw[e',d9,c,if_neg (by decide)];rfl
 ·rw[if_neg (by simpa using c)]
  refine tn4 g5 g6 C ha hr hA hp hb hv hL hz ho az ao lb (by omega) (by omega) nz no lw fun σ H2 h e'=>hk σ H2 h ?_;rw[e'];unfold zo;rw[if_neg c];by_cases c1:rdO ms v=some 1
  ·rw[if_pos c1,if_pos c1]
  ·rw[if_neg c1,if_neg c1]
theorem tn1{ms:List (Nm×Int)}(g4:G.fn "begun_at" 2=some (Af,[]))(g5:G.fn "joined" 3=some (uu,[]))(g6:G.fn "left_over" 3=some (sk,[]))(C:Cs H H1 d e w l0 ls N cs b L wn)(ha:H a=some (.dK (kvS (aV A))))(hr:H r=some (.dK (kvS (mV ms))))(hA:lk (aV A) v=some (pV p))(hp:∀q,p=some q->q∈ls.map (·.1))(hb:∀q,(cs q).length<=100)(hv:v∉L.map (·.1))(hvl:v∈ls.map (·.1))(hL:L.length<=200)(lb:b<=200)(lw:wn<=20000)
  (hk:∀σ H2 (h:Nat×Nat),h=zo (rdO ms v) ((cs v).count 0) ((cs v).count 1)->Cs H H2 d e w l0 ls N (put cs (half h.1 h.2) p) (b+1) (L++[(v,half h.1 h.2)]) (wn+min h.1 h.2)->(∃y5 y6 y7 y8,σ=[some (.ref a),some (.ref r),some (.ref d),some (.ref e),some (.ref w),y5,y6,y7,y8])->D.nx σ H2):
  wpB G K E (.cons (.asg (.name 6) (.call "begun_at" (.cons (.x2 .idxk (.var 2) (.var 5)) (.cons (.con (.int 0)) .nil)))) iB) D [some (.ref a),some (.ref r),some (.ref d),some (.ref e),some (.ref w),some (.str v),x6,x7,x8] H1:=by
 have hw:∀{H2:Hp}{n:Addr},aU H1 H2->H2 n=none->n≠w:=fun s h z=>by
  obtain⟨_,h',_⟩:=(C.same s).hw;rw[z,h']at h;cases h
 obtain⟨c,c1,c2⟩:=C.cm;obtain⟨u,hu,gu,hu1⟩:=c1.get hvl;have pc:Paired (Hf H1 (Bl ls w) b) (c v) (cs v):=c2 _ hu;have lc:=pc.length;have lc2:=hb v;walk_at "wp";refine⟨_,_,g4,d,_,rfl,gu,u,0,c v,cs v,Bl ls w,b,rfl,hu1,pc,by omega,fun H2 z zs s2 n2 h2 e2 a2=>?_⟩;unfold iB;walk_at "wp";refine⟨_,_,g4,d,_,rfl,?_,u,1,c v,cs v,Bl ls w,b,rfl,s2 _ _ hu1,L2.Paired.lG pc (fun _ _ h=>h.same s2),by omega,fun H3 o os s3 n3 h3 e3 a3=>?_⟩
 ·obtain⟨u',hu',gu',_⟩:=(c1.same (.of s2)).get hvl
  have :u'=u:=by
   have e1:=kK (by rw[jU];exact c1.nd) (aE.mpr ⟨_,hu,rfl⟩:(v,V.ref u)∈ls.map fun q=>(q.1,V.ref q.2));have e2:=kK (by rw[jU];exact c1.nd) (aE.mpr ⟨_,hu',rfl⟩:(v,V.ref u')∈ls.map fun q=>(q.1,V.ref q.2));rw[e1]at e2;cases e2;rfl
  exact this▸gu'
 have m0:((cs v).count 0)<=(cs v).length:=gF;have m1:((cs v).count 1)<=(cs v).length:=gF;rw[<-e2,<-e3]at hk;exact tn3 g5 g6 (C.same (s2.trans s3)) ha hr hA hp (fun q=>aP (hb q) (by decide)) hv hL (s3 _ _ h2) h3 (fun y hy=>(a2 y hy).same s3) a3 lb (by omega) (by omega) (hw (aU.refl _) n2) (hw s2 n3) lw hk
end
theorem BV{J:It}{n:Nat}{it:Nat->V->Hp->Prop}{Hc:Hp->Prop}{g:TG}{te:TE}{Q:VK}{τ0:L2.St}{H1:Hp}(S:mW J n it Hc)(hn:n<=sizeLine)(hc:∀H,aU H1 H->Hc H)
  (P:Nat->List V->Hp->Prop)(Pm:∀i a H H',aU H H'->P i a H->P i a H')(T:L2.St->Prop)(hT:T τ0)(h0:P 0 [] H1)
  (step:∀i x τ acc H3 (R:L2.St->V->Hp->Prop),i<n->T τ->aU H1 H3->it i x H3->P i acc H3->(∀τ' v H6,T τ'->aU H3 H6->P (i+1) (acc++[v]) H6->R τ' v H6)->g x τ H3 fun τ4 H4=>te τ4 H4 (R τ4))
  (fin:∀vs H2 l,P n vs H2->aU H1 H2->H2 l=none->Q (.ref l) (upd H2 l (.lst vs))):
  xU J g yb te τ0 H1 Q:=by
 refine⟨fun i m τ acc H2=>m=n-i/\i<=n/\T τ/\acc.length=i/\aU H1 H2/\P i acc H2,⟨n,by simp,aL _,hT,rfl,aU.refl _,h0⟩,?_⟩;rintro i m τ acc H2 ⟨rfl,hi,ht,hl,sm,hF⟩;have q:=hc H2 sm;by_cases hlt:i<n
 ·refine .inr ⟨S.go i H2 q hlt,fun τ' acc' H'=>T τ'/\acc'.length=i+1/\aU H1 H'/\P (i+1) acc' H',fun τ' acc' H' ⟨a,b,c,d⟩=>⟨n-(i+1),by omega,rfl,hlt,a,b,c,d⟩,fun x H3 y=>?_⟩
  obtain⟨y1,y2⟩:=S.yld i H2 x H3 q hlt y;exact step i x τ acc H3 (fun τ' v H6=>acc.length<sizeLine/\T τ'/\(acc++[v]).length=i+1/\aU H1 H6/\P (i+1) (acc++[v]) H6) hlt ht (sm.trans y2) y1 (Pm _ _ _ _ y2 hF) fun τ' v H6 ht' s6 f6=>⟨by omega,ht',by simp[hl],(sm.trans y2).trans s6,f6⟩
 ·have e:i=n:=by omega
  subst e;exact .inl ⟨S.stop i H2 q (ar _),fun l hl'=>fin acc H2 l hF sm hl'⟩
structure Nw(H H':Hp)(A:List (Nm×Option Nm))(acc:List V)(ls:List (Nm×Addr)):Prop where
 ks:ls.map (·.1)=A.map (·.1)
 na:(ls.map (·.2)).Nodup
 pr:Paired (fun y q=>∃p,y=V.ref p/\H' p=some (.tup [.str q.1,.ref q.2])) acc ls
 at_:∀q∈ls,H' q.2=some (.lst [])/\H q.2=none
theorem Nw.same{H H1 H2:Hp}{A:List (Nm×Option Nm)}{acc:List V}{ls:List (Nm×Addr)}(h:Nw H H1 A acc ls)(s:aU H1 H2):Nw H H2 A acc ls:=⟨h.ks,h.na,L2.Paired.lG h.pr fun _ _ ⟨p,e,z⟩=>⟨p,e,s _ _ z⟩,fun q hq=>⟨s _ _ (h.at_ q hq).1,(h.at_ q hq).2⟩⟩
noncomputable def spCl:Sp:=fun vs H Q _=>∃(a r:Addr)(A:List (Nm×Option Nm))(ms:List (Nm×Int)),vs=[.ref a,.ref r]/\H a=some (.dK (kvS (aV A)))/\H r=some (.dK (kvS (mV ms)))/\Back A.reverse/\(A.map (·.1)).Nodup/\A.length<=63/\
 ∀H' p e w ws,aU H H'->H p=none->H' p=some (.tup [.ref e,.ref w])->H' e=some (.dK (kvS (oV (lv (rdO ms) A.reverse))))->H' w=some (.lst ws)->ws.length=(fC (rdO ms) A.reverse S0).w->Q (.ref p) H'
theorem aV_at{A:List (Nm×Option Nm)}{i:Nat}{k:Key}{x:V}(h:(kvS (aV A))[i]? =some (k,x)):∃e,A[i]? =some e/\k=.inr e.1/\x=pV e.2:=by
 unfold kvS aV at h;rw[bQ,aZ]at h;obtain⟨e,h1,h2⟩:=fN.mp h;cases h2;exact⟨e,h1,rfl,rfl⟩
theorem xp{α β γ:Type}{F:α->γ->Prop}{f:β->γ}:∀{l:List α}{m:List β},Paired (fun a b=>F a (f b)) l m->Paired F l (m.map f)
 |_,_,.nil=>.nil
 |_,_,.cons h t=>.cons h (xp t)
theorem yH{l:List Nm}(h:l.Nodup):(l.map (dq:Nm->Key)).Nodup:=by
 rw[List.nodup_iff_pairwise_ne,oG];exact h.imp fun hn z=>hn (kg z)
theorem w_le(rd:Nm->Option Int):∀(l:List (Nm×Option Nm))(S:Cl)(b c:Nat),(∀v,(S.cs v).length<=b)->b+l.length<=c->(fC rd l S).w<=S.w+l.length*(c+1)
 | [],S,b,c,_,_=>by simp[fC]
 |e::l,S,b,c,h,hc=>by
  rw[bg]at hc;have :=w_le rd l (S.step rd e) (b+1) c (fun v=>aP (xo ..) (qM (h v))) (by omega);have h1:(S.cs e.1).count 0<=(S.cs e.1).length:=gF;have h2:(S.cs e.1).count 1<=(S.cs e.1).length:=gF;have h3:=h e.1;have h4:=zo_le (rd e.1) (aP h1 h3) (aP h2 h3);have h5:(S.step rd e).w=S.w+min (S.zo rd e.1).1 (S.zo rd e.1).2:=rfl;have h6:(S.zo rd e.1).1<=b+1:=h4.1;show(fC rd l (S.step rd e)).w<=_;rw[bg,Nat.add_mul,Nat.one_mul];omega
theorem Back.mem{R:List (Nm×Option Nm)}(b:Back R){e:Nm×Option Nm}(he:e∈R){q:Nm}(h:e.2=some q):q∈R.map (·.1):=by
 induction b with
 |nil=>cases he
 | @cons x r hp hn t ih=>
  rw[aY];rcases aI.mp he with rfl|he
  ·exact aF _ (hp q h)
  ·exact aF _ (ih he)
theorem wp_cl_2{G:Gam}{K:aa}{E:XS}{D:Ends}{Q:VK}(g4:G.fn "begun_at" 2=some (Af,[]))(g5:G.fn "joined" 3=some (uu,[]))(g6:G.fn "left_over" 3=some (sk,[])){H H1:Hp}{a r d:Addr}{A:List (Nm×Option Nm)}{ms:List (Nm×Int)}{ls:List (Nm×Addr)}(ha:H a=some (.dK (kvS (aV A))))(hr:H r=some (.dK (kvS (mV ms))))(bk:Back A.reverse)(nd:(A.map (·.1)).Nodup)(l1:A.length<=63)
  (s1:aU H H1)(hd:H1 d=some (.dK (kvS (refs ls))))(ks:ls.map (·.1)=A.map (·.1))(na:(ls.map (·.2)).Nodup)(at_:∀q∈ls,H1 q.2=some (.lst [])/\H q.2=none)(hD:D.rt=Q)
  (q:∀H' p e w ws,aU H H'->H p=none->H' p=some (.tup [.ref e,.ref w])->H' e=some (.dK (kvS (oV (lv (rdO ms) A.reverse))))->H' w=some (.lst ws)->ws.length=(fC (rdO ms) A.reverse S0).w->Q (.ref p) H'):
  wpB G K E jO D [some (.ref a),some (.ref r),some (.ref d),none,none,none,none,none,none] H1:=by
 unfold jO;walk_at "wp";refine .inl ⟨trivial,fun e he=>?_⟩;unfold nO;walk_at "wp";refine⟨aL _,fun w hw=>?_⟩;unfold nN;walk_at "wp";have s2:=(aB (o:=.dK []) he).trans (aB (o:=.lst []) hw);have hkl:(kvS (aV A)).length=A.length:=by unfold kvS aV;rw[ae,ae]
 have hkv:(kvS (aV A)).map (fun kv=>kV kv.1)=(A.map (·.1)).map V.str:=by unfold kvS aV;rw[bQ,bQ,bQ];rfl
 refine hU ⟨.ref a,rfl,a,_,rfl,.inl (s2 _ _ (s1 _ _ ha)),fun l0 hl0=>?_⟩;rw[hkv];have s3:=s2.trans (aB (o:=.lst ((A.map (·.1)).map V.str)) hl0);have hd0:d≠e:=bb hd he;have mem:∀q∈ls,∀{n:Addr},H1 n=none->q.2≠n:=fun q hq n hn=>bb (at_ q hq).1 hn;have hw1:H1 w=none:=(aB he).free hw;have hl1:H1 l0=none:=s2.free hl0;have el:e≠l0:=fun z=>by rw[<-z,aH (bb av hw),av]at hl0;cases hl0
 have wl:w≠l0:=fun z=>by rw[<-z,av]at hl0;cases hl0
 have C0:Cs H (upd (upd (upd H1 e (.dK [])) w (.lst [])) l0 (.lst ((A.map (·.1)).map V.str))) d e w l0 ls ((A.map (·.1)).map V.str) S0.cs 0 (lv (rdO ms) []) S0.w:=by
  refine⟨s1.trans s3,s3 _ _ hd,⟨fun _=>[],⟨.inl (s3 _ _ hd),ks▸nd,na,fun q hq=>s3 _ _ (at_ q hq).1⟩,fun q hq=>.nil⟩,?_,⟨[],?_,rfl⟩,av,?_,s1.free he,?_,?_,hd0⟩
  ·rw[aH el,aH (bb av hw),av]
   rfl
  ·rw[aH wl,av]
  ·rintro(z|z)
   ·exact wl z.symm
   ·obtain⟨q,hq,z⟩:=aE.mp z
    exact mem q hq hl1 z
  ·rintro n (rfl|z)
   ·exact s1.free hw1
   ·obtain⟨q,hq,rfl⟩:=aE.mp z
    exact(at_ q hq).2
  ·intro z
   obtain⟨q,hq,z⟩:=aE.mp z;exact mem q hq hw1 z
 refine⟨l0,_,rfl,SqL.of av,fX seq_rev (fun k σ H'=>Cs H H' d e w l0 ls ((A.map (·.1)).map V.str) (fC (rdO ms) (A.reverse.take k) S0).cs k (lv (rdO ms) (A.reverse.take k)) (fC (rdO ms) (A.reverse.take k) S0).w/\∃y5 y6 y7 y8,σ=[some (.ref a),some (.ref r),some (.ref d),some (.ref e),some (.ref w),y5,y6,y7,y8])
  ⟨C0,_,_,_,_,rfl⟩ (fun k σ H' _ s=>SqL.of s.1.h0) ?_ ?_⟩
 ·rintro k x σ H2 H3 D2 hk ⟨C,y5,y6,y7,y8,rfl⟩ hx s4 hD2 _
  rw[ae,ae]at hk;have hkR:k<A.reverse.length:=by rw[dM];exact hk
  have hx':x=.str (A.reverse[k]).1:=by
   rw[<-eN,<-eN,aZ,aZ,ah hkR]at hx;cases hx;rfl
  subst hx';have hm:A.reverse[k]∈A:=jt.mp (cK hkR);have hrl:(A.reverse.take k).length=k:=by rw[aW];omega
  refine tn1 (p:=(A.reverse[k]).2) g4 g5 g6 (C.same s4) ha hr (kK (by rw[oA];exact nd) (aE.mpr ⟨_,hm,rfl⟩)) (fun q h=>?_) (fun q=>?_) ?_ ?_ ?_ ?_ ?_ ?_
  ·rw[ks]
   exact lE.mp (bk.mem (cK hkR) h)
  ·have :=BU (rdO ms) q (A.reverse.take k) S0 0 fun _=>aL _
   omega
  ·rw[jT]
   intro z;have nd':(A.reverse.map (·.1)).Nodup:=by rw[eN];exact(oF _).nodup_iff.mpr nd
   rw[vI]at z;obtain⟨j,hj,ej⟩:=aR.mp z;rw[aW]at hj;rw[ef]at ej;have e2:(A.reverse.map (·.1))[k]'(by rw[ae];exact hkR)=(A.reverse[k]).1:=bR ..;rw[<-e2]at ej;have :=(bY nd').mp ej;omega
  ·rw[ks]
   exact cD hm
  ·have :=congrArg gE (jT (rdO ms) (A.reverse.take k))
   rw[ae,ae]at this;omega
  ·omega
  ·have :=w_le (rdO ms) (A.reverse.take k) S0 0 63 (fun _=>aL _) (by omega)
   rw[hrl]at this;have h0:S0.w=0:=rfl;omega
  ·rintro σ H4 h hh C4 hσ
   refine hD2 _ _ ⟨?_,hσ⟩;have et:A.reverse.take (k+1)=A.reverse.take k++[A.reverse[k]]:=by rw[bP,ah hkR];rfl
   rw[et,wU,lv_snoc];subst hh;exact C4
 ·rintro σ H2 ⟨C,y5,y6,y7,y8,rfl⟩
  rw[ae,ae,<-dM,bN]at C;unfold nM;walk_at "wp";obtain⟨ws,w1,w2⟩:=C.hw;refine⟨(by show 2<=sizeLine;decide),fun p hp=>?_⟩;rw[hD];exact q _ p e w ws (C.sm.trans (aB hp)) (C.sm.free hp) av (aB hp _ _ C.he) (aB hp _ _ w1) w2
theorem wp_cl{G:Gam}{K:aa}(g4:G.fn "begun_at" 2=some (Af,[]))(g5:G.fn "joined" 3=some (uu,[]))(g6:G.fn "left_over" 3=some (sk,[])):Sat G K spCl rV rj:=by
 rintro vs H Q E ⟨a,r,A,ms,rfl,ha,hr,bk,nd,l1,q⟩;unfold rV;change wpB G K _ _ _ [some (.ref a),some (.ref r),none,none,none,none,none,none,none] H;have hkl:(kvS (aV A)).length=A.length:=by unfold kvS aV;rw[ae,ae]
 walk_at "wp"
 refine⟨a,_,ha,fB ⟨_,rfl,a,_,rfl,.inl ⟨ha,fun o=>?_⟩⟩⟩;refine BV An (fM (by omega)) (fun H4 s4=>s4 _ _ av) (fun i acc H'=>∃ls,Nw H H' (A.take i) acc ls) (fun i a H H' s ⟨ls,h⟩=>⟨ls,h.same s⟩) (fun τ=>∃t,τ=[t]) ⟨none,rfl⟩ ⟨[],rfl,eF,.nil,fun q hq=>nomatch hq⟩ ?_ ?_
 ·rintro i x τ acc H3 R hi ⟨t,rfl⟩ s3 ⟨k,v,hk,rfl⟩ ⟨ls,w⟩ kk
  walk_at "wp"
  obtain⟨e,he,rfl,_⟩:=aV_at hk;refine⟨aL _,fun p hp=>⟨(by show 2<=sizeLine;decide),fun p1 h1=>?_⟩⟩;have s4:=(aB (o:=.lst []) hp).trans (aB (o:=.tup [kV (.inr e.1),.ref p]) h1);refine kk _ _ _ ⟨_,rfl⟩ s4 ⟨ls++[(e.1,p)],?_,?_,o4 ⟨p1,rfl,av⟩ (w.same s4).pr,fun q hq=>?_⟩
  ·rw[aG,w.ks,bP,he,aG]
   rfl
  ·rw[aG,b7]
   refine⟨w.na,by simp,fun x hx y hy z=>?_⟩;cases aq.mp hy;obtain⟨q,hq,rfl⟩:=aE.mp hx;exact bb (w.at_ q hq).1 hp z
  ·rcases ai.mp hq with hq|hq
   ·exact(w.same s4).at_ q hq
   ·cases aq.mp hq
    exact⟨aB h1 _ _ av,(mC ha s3 hp).1⟩
 ·rintro vs H2 l ⟨ls,w⟩ s2 n2
  rw[hkl,bN]at w;obtain⟨n3,n4⟩:=mC ha s2 n2;have s3:=qY ha (s2.trans (aB (o:=.lst vs) n2));have na:∀q∈ls,q.2≠a:=fun q hq z=>by
   have :=(w.at_ q hq).2
   rw[z,ha]at this;cases this
  refine⟨o,by rw[aH n4.symm];exact s2 _ _ av,l,vs,kvS (refs ls),rfl,by rw[aH n4,av],?_,?_,fun d hd=>?_⟩
  ·unfold kvS refs
   rw[bQ];refine xp ?_;refine L2.Paired.lG w.pr fun y q ⟨p,e,z⟩=>⟨p,e,?_⟩;rw[aH (fun c=>by have :=s2 _ _ (av (H:=H) (a:=a));rw[<-c,z]at this;cases this)];exact aB n2 _ _ z
  ·unfold kvS refs
   rw[bQ,bQ];have :(ls.map (·.1)).Nodup:=w.ks▸nd;have e:(ls.map (((fun x=>x.fst)∘fun q=>((dq q.1:Key),q.2))∘fun q=>(q.1,V.ref q.2)))=(ls.map (·.1)).map dq:=by rw[bQ];rfl
   rw[e];exact yH this
  ·refine wp_cl_2 g4 g5 g6 ha hr bk nd l1 (s3.trans (aB hd)) av w.ks w.na (fun q hq=>⟨aB hd _ _ ?_,(w.at_ q hq).2⟩) rfl q
   rw[aH (na q hq)];exact aB n2 _ _ (w.at_ q hq).1
structure Stl(A:List (Nm×Option Nm))(L:List (Nm×Option Int))(Ts:List (Nm×Int)):Prop where
 ks:Ts.map (·.1)=A.map (·.1)
 v01:∀q∈Ts,q.2=0\/q.2=1
 sm:∀e∈A,∀x,(e.1,some x)∈L->(e.1,x)∈Ts
 no:∀e∈A,(e.1,none)∈L->∀q,e.2=some q->∃x,(e.1,x)∈Ts/\(q,x)∈Ts
noncomputable def spSe:Sp:=fun vs H Q _=>∃(a e:Addr)(A:List (Nm×Option Nm))(L:List (Nm×Option Int)),vs=[.ref a,.ref e]/\H a=some (.dK (kvS (aV A)))/\H e=some (.dK (kvS (oV L)))/\(A.map (·.1)).Nodup/\(L.map (·.1)).Nodup/\(∀v∈A.map (·.1),v∈L.map (·.1))/\(∀q∈L,∀x,q.2=some x->x=0\/x=1)/\(∀(i:Nat) e q,A[i]? =some e->e.2=some q->q∈(A.take i).map (·.1))/\A.length<=200/\
 ∀H' t Ts,aU H H'->H t=none->H' t=some (.dK (kvS (mV Ts)))->Stl A L Ts->Q (.ref t) H'
theorem lH(Ts:List (Nm×Int))(v:Nm)(x:Int):mV Ts++[(v,.int x)]=mV (Ts++[(v,x)]):=by unfold mV;rw[aG];rfl
theorem oB{α:Type}{L:List (Nm×α)}(nd:(L.map (·.1)).Nodup){v:Nm}{x y:α}(h1:(v,x)∈L)(h2:(v,y)∈L):x=y:=by
 obtain⟨i,hi,ei⟩:=aR.mp h1;obtain⟨j,hj,ej⟩:=aR.mp h2;have :(L.map (·.1))[i]'(by rw[ae];exact hi)=(L.map (·.1))[j]'(by rw[ae];exact hj):=by rw[bR,bR,ei,ej]
 have :=(bY nd).mp this
 subst this;rw[ei]at ej;cases ej;rfl
theorem Stl.snoc{A:List (Nm×Option Nm)}{L:List (Nm×Option Int)}{Ts:List (Nm×Int)}(S:Stl A L Ts)(nd:(L.map (·.1)).Nodup){e:Nm×Option Nm}{h:Option Int}{x:Int}(hL:(e.1,h)∈L)(hx:x=0\/x=1)(h1:∀y,h=some y->x=y)(h2:h=none->∀q,e.2=some q->(q,x)∈Ts):Stl (A++[e]) L (Ts++[(e.1,x)]):=by
 refine⟨by rw[aG,aG,S.ks];rfl,fun q hq=>?_,fun u hu y hy=>?_,fun u hu hy q hq=>?_⟩
 ·rcases ai.mp hq with hq|hq
  ·exact S.v01 q hq
  ·rw[aq.mp hq];exact hx
 ·rcases ai.mp hu with hu|hu
  ·exact ai.mpr (.inl (S.sm u hu y hy))
  ·cases aq.mp hu
   rw[h1 y (oB nd hL hy)];exact ai.mpr (.inr au)
 ·rcases ai.mp hu with hu|hu
  ·obtain⟨y,y1,y2⟩:=S.no u hu hy q hq
   exact⟨y,ai.mpr (.inl y1),ai.mpr (.inl y2)⟩
  ·cases aq.mp hu
   exact⟨x,ai.mpr (.inr au),ai.mpr (.inl (h2 (oB nd hL hy) q hq))⟩
theorem lk_oV{L:List (Nm×Option Int)}(nd:(L.map (·.1)).Nodup){v:Nm}{h:Option Int}(m:(v,h)∈L):lk (oV L) v=some (hV h):=kK (by rw[xw];exact nd) (aE.mpr ⟨_,m,rfl⟩)
theorem sZ{Ts:List (Nm×Int)}(nd:(Ts.map (·.1)).Nodup){v:Nm}{x:Int}(m:(v,x)∈Ts):lk (mV Ts) v=some (.int x):=kK (by rw[iU];exact nd) (aE.mpr ⟨_,m,rfl⟩)
theorem wp_se{G:Gam}{K:aa}:Sat G K spSe rK ra:=by
 rintro vs H Q E ⟨a,e,A,L,rfl,ha,he,nA,nL,sub,l01,up,l1,q⟩;unfold rK;change wpB G K _ _ _ [some (.ref a),some (.ref e),none,none,none] H;have hkl:(kvS (aV A)).length=A.length:=by unfold kvS aV;rw[ae,ae]
 walk_at "wp"
 refine .inl ⟨trivial,fun t ht=>?_⟩;unfold nu;walk_at "wp";have s0:aU H (upd H t (.dK [])):=aB ht;have ha0:=s0 _ _ ha;refine⟨a,_,ha0,hU ⟨_,rfl,a,_,rfl,.inl ⟨ha0,fun o=>?_⟩⟩⟩;have hta:t≠a:=(bb ha ht).symm;have hea:e≠t:=bb he ht;refine fX qX (fun k σ H'=>(∃y3 y4,σ=[some (.ref a),some (.ref e),some (.ref t),y3,y4])/\H' a=some (.frz o (.dK (kvS (aV A))))/\aU H (upd H' a (.dK (kvS (aV A))))/\∃Ts,H' t=some (.dK (kvS (mV Ts)))/\Stl (A.take k) L Ts)
  ⟨⟨_,_,rfl⟩,av,vY ha0 s0,[],by rw[aH hta,av];rfl,rfl,(fun q hq=>nomatch hq),(fun q hq=>nomatch hq),(fun q hq=>nomatch hq)⟩ (fun k σ H' _ s=>s.2.1) ?_ ?_
 ·rintro k x σ H1 H2 D2 hk ⟨⟨y3,y4,rfl⟩,fz,sm,Ts,h1,S⟩ ⟨p,kk,v,rfl,hp,hkv⟩ s2 hD2 _
  obtain⟨u,hu,rfl,rfl⟩:=aV_at hkv;rw[hkl]at hk;have hum:=bj hu;refine⟨p,_,rfl,SqT.of hp,rfl,_,_,rfl,_,_,rfl,rfl,?_⟩;walk_at "wp";have fz2:=s2 _ _ fz;have h2:=s2 _ _ h1;have sm2:aU H (upd H2 a (.dK (kvS (aV A)))):=fun b w hb=>by
   have :=sm b w hb
   by_cases c:b=a
   ·rw[c,av]at this⊢
    exact this
   ·rw[aH c]at this⊢
    exact s2 b w this
  have hre:Rd H2 e (.dK (kvS (oV L))):=by
   have :=sm2 _ _ he
   by_cases c:e=a
   ·rw[c,av]at this
    rw[c,<-be this];exact .inr ⟨o,fz2⟩
   ·rw[aH c]at this
    exact .inl this
  obtain⟨⟨w,h⟩,hq,ew⟩:=aE.mp (sub _ (cD hum));have ew:w=u.1:=ew;subst ew;have ge:=lk_oV nL hq▸qF u.1 hre;have hlk:Ts.length=k:=by
   have :=congrArg gE S.ks
   rw[ae,ae,aW]at this;omega
  have hnew:u.1∉Ts.map (·.1):=by
   rw[S.ks,vI];intro z;obtain⟨j,hj,ej⟩:=aR.mp z;rw[aW]at hj;rw[ef]at ej;have e2:(A.map (·.1))[k]'(by rw[ae];exact hk)=u.1:=by rw[bR,(bw.mp hu).2]
   rw[<-e2]at ej;have :=(bY nA).mp ej;omega
  have fin:∀x:Int,(x=0\/x=1)->(∀y,h=some y->x=y)->(h=none->∀q,u.2=some q->(q,x)∈Ts)->∃a_1 H4,V.ref t=V.ref a_1/\tO H2 a_1 (kV (dq u.1)) (.int x) H4/\D2.nx [some (.ref a),some (.ref e),some (.ref t),some (kV (dq u.1)),some (pV u.2)] H4:=by
   intro x hx c1 c2;have hdp:=dput (x:=.int x) h2 (by unfold mV;rw[ae];omega) (by rw[iU];exact hnew);rw[lH]at hdp;refine⟨t,_,rfl,hdp,hD2 _ _ ⟨⟨_,_,rfl⟩,by rw[aH hta.symm];exact fz2,fun b w hb=>?_,_,av,?_⟩⟩
   ·have :=sm2 b w hb
    by_cases c:b=a
    ·rw[c,av]at this⊢
     exact this
    ·rw[aH c]at this⊢
     rw[aH (bb hb ht)];exact this
   ·rw[bP,hu]
    exact S.snoc nL hq hx c1 c2
  refine⟨e,_,rfl,ge,?_⟩;cases h with
  |some y=>
   rw[if_pos (by simp[hV])];exact⟨e,_,rfl,ge,fin y (l01 _ hq y rfl) (fun z hz=>be hz) (fun z=>nomatch z)⟩
  |none=>
   rw[if_neg (by simp[hV])];cases hp2:u.2 with
   |none=>
    rw[hp2]at fin;rw[if_pos (by simp[pV])];exact fin 0 (.inl rfl) (fun y hy=>nomatch hy) (fun _ q hq=>nomatch hq)
   |some q=>
    rw[hp2]at fin;rw[if_neg (by simp[pV])];have hqT:=up k u q hu hp2;rw[<-S.ks]at hqT;obtain⟨⟨w,x⟩,hw,ew⟩:=aE.mp hqT;have ew:w=q:=ew;subst ew;exact⟨t,_,rfl,sZ (by rw[S.ks,vI];exact nA.sublist (oE ..)) hw▸qF w (.inl h2),fin x (S.v01 _ hw) (fun y hy=>nomatch hy) (fun _ q hq=>by cases hq;exact hw)⟩
 ·rintro σ H1 ⟨⟨y3,y4,rfl⟩,fz,sm,Ts,h1,S⟩
  rw[hkl,bN]at S;refine⟨o,fz,?_⟩;unfold nq;walk_at "wp";exact q _ t Ts sm ht (by rw[aH hta];exact h1) S
noncomputable def tl(Ts:List (Nm×Int))(v:Nm):Int:=(rdO Ts v).getD 0
theorem iS{Ts:List (Nm×Int)}(nd:(Ts.map (·.1)).Nodup){v:Nm}{x:Int}(m:(v,x)∈Ts):rdO Ts v=some x:=by
 have h:=sZ nd m;rw[uT]at h;obtain⟨y,h1,h2⟩:=fN.mp h;cases h2;exact h1
theorem lj{Ts:List (Nm×Int)}(nd:(Ts.map (·.1)).Nodup){v:Nm}{x:Int}(m:(v,x)∈Ts):tl Ts v=x:=by
 unfold tl;rw[iS nd m];rfl
theorem gh.up{F:List (Nm×Nm)}{A:List (Nm×Option Nm)}(g:gh F A):∀(i:Nat) e q,A[i]? =some e->e.2=some q->q∈(A.take i).map (·.1):=by
 induction g with
 |one s=>
  intro i e q h1 h2;cases i with
  |zero=>cases h1;cases h2
  |succ i=>cases h1
 | @more A v p g hq hv he ih=>
  intro i e q h1 h2;by_cases c:i<A.length
  ·rw[eY c]at h1
   rw[List.take_append_of_le_length (gj c)];exact ih i e q h1 h2
  ·rw[cA (by omega)]at h1
   have h0:i-A.length=0:=by
    have :=(bw.mp h1).1
    rw[bJ]at this;omega
   rw[h0]at h1;cases h1;cases h2;have :i=A.length:=by omega
   rw[this,List.take_left];exact hq
structure Few(F:List (Nm×Nm))(ws:List Nm)(ms Ts:List (Nm×Int))(n:Nat):Prop where
 nd:(Ts.map (·.1)).Nodup
 ks:∀v,v∈Ts.map (·.1)↔v∈ws
 v01:∀q∈Ts,q.2=0\/q.2=1
 ext:∀q∈ms,q∈Ts
 ch:ch (tl Ts) F=n
 few:∀T,(∀v∈ws,Tells T (rdO ms) v)->n<=F5.ch T F
theorem half_01{rd:Nm->Option Int}{S:Cl}{n:Nm}{y:Int}(h:S.half rd n=some y):y=0\/y=1:=by
 have :F5.half (S.zo rd n).1 (S.zo rd n).2=some y:=h;unfold F5.half at this;split at this
 ·cases this;exact .inl rfl
 ·split at this
  ·cases this;exact .inr rfl
  ·cases this
theorem kP{rd:Nm->Option Int}:∀{R:List (Nm×Option Nm)}{S:Cl}{e:Nm×Option Int},e∈(R.map (·.1)).zip (halves rd R S)->∃S',e.2=Cl.half rd S' e.1
 | [],_,_,h=>nomatch h
 |x::R,S,e,h=>by
  rcases aI.mp (show e∈(x.1,S.half rd x.1)::(R.map (·.1)).zip (halves rd R (S.step rd x))from h)with rfl|h
  ·exact⟨S,rfl⟩
  ·exact kP h
theorem BG{T:Nm->Int}{rd:Nm->Option Int}:∀{R:List (Nm×Option Nm)}{S:Cl},(∀e∈R,∀h,(e.1,h)∈(R.map (·.1)).zip (halves rd R S)->(∀x,h=some x->T e.1=x)/\(h=none->∀q,e.2=some q->T e.1=T q))->Fit T R (halves rd R S)
 | [],_,_=>trivial
 |x::R,S,h=>by
  have h0:=h x au (S.half rd x.1) au;exact⟨h0.1,h0.2,BG fun e he y hy=>h e (aF _ he) y (aF _ hy)⟩
theorem few_of{F:List (Nm×Nm)}{ws vs:List Nm}{A:List (Nm×Option Nm)}{ms Ts:List (Nm×Int)}(t:Tree F ws)(fd:Found F vs A)(hvs:∀v,v∈vs↔v∈ws)(hm:∀q∈ms,q.1∈ws/\(q.2=0\/q.2=1))(nm:(ms.map (·.1)).Nodup)(S:Stl A (lv (rdO ms) A.reverse) Ts):Few F ws ms Ts (fC (rdO ms) A.reverse S0).w:=by
 have hr:∀n x,rdO ms n=some x->x=0\/x=1:=fun n x h=>(hm _ (ft h)).2;have nA:=fd.g.nd;have nT:(Ts.map (·.1)).Nodup:=S.ks▸nA;obtain⟨s,hs⟩:∃s,s∈A.map (·.1):=by
  cases fd.g with
  |one s=>exact⟨s,au⟩
  |more g hq hv he=>exact⟨_,by rw[aG];exact ai.mpr (.inl hq)⟩
 obtain⟨al,len⟩:=t.all nA (fun v hv=>(hvs v).mp (fd.sub v hv)) fd.cl hs;have hkA:∀v,v∈A.map (·.1)↔v∈ws:=fun v=>⟨fun h=>(hvs v).mp (fd.sub v h),al v⟩;have nL:((lv (rdO ms) A.reverse).map (·.1)).Nodup:=by rw[jT,eN];exact(oF _).nodup_iff.mpr nA
 have hL:∀e∈A,∃h,(e.1,h)∈lv (rdO ms) A.reverse:=fun e he=>by
  have :e.1∈(lv (rdO ms) A.reverse).map (·.1):=by rw[jT];exact lE.mpr (cD he)
  obtain⟨q,hq,e⟩:=aE.mp this;exact⟨q.2,e▸hq⟩
 have ext:∀q∈ms,q∈Ts:=fun q hq=>by
  obtain⟨e,he,ee⟩:=aE.mp (al _ (hm q hq).1);obtain⟨h,hh⟩:=hL e he;obtain⟨S',e2⟩:=kP hh;have e2:h=Cl.half (rdO ms) S' e.1:=e2;rw[yR (hm q hq).2 (by rw[ee];exact iS nm hq)]at e2;subst e2;have :=S.sm e he _ hh;rw[ee]at this;exact this
 have tells:∀v∈ws,Tells (tl Ts) (rdO ms) v:=fun v hv=>by
  rw[<-hkA,<-S.ks]at hv;obtain⟨q,hq,rfl⟩:=aE.mp hv;have e1:=lj nT (show(q.1,q.2)∈Ts from hq);refine⟨by rw[e1];exact S.v01 q hq,fun x hx=>?_⟩;exact lj nT (ext _ (ft hx))
 have inA:∀e∈A.reverse,e.1∈ws:=fun e he=>(hkA _).mp (cD (jt.mp he));have d0:∀T R,due T S0.cs R=0:=fun T R=>by
  unfold due
  induction R with
  |nil=>rfl
  |cons e R ih=>rw[aY,fk,ih];rfl
 have fit:Fit (tl Ts) A.reverse (halves (rdO ms) A.reverse S0):=BG fun e he h hh=>by
  have he:=jt.mp he;refine⟨fun x hx=>lj nT (S.sm e he x (hx▸hh)),fun hn q hq=>?_⟩;obtain⟨x,x1,x2⟩:=S.no e he (hn▸hh) q hq;rw[lj nT x1,lj nT x2]
 have few1:=B0 hr fd.g.back (S:=S0) (fun _ _ h=>nomatch h) (fun e he=>tells _ (inA e he)) fit;rw[d0]at few1;refine⟨nT,fun v=>by rw[S.ks];exact hkA v,S.v01,ext,?_,fun T hT=>?_⟩
 ·rw[fd.g.ch len,few1]
  show _=0+0+_;omega
 ·have :=uN hr fd.g.back (S:=S0) (fun _ _ h=>nomatch h) fun e he=>hT _ (inA e he)
  rw[d0]at this;rw[fd.g.ch len];have h0:S0.w=0:=rfl;omega
noncomputable def vV:Sp:=fun vs H Q _=>∃(f r:Addr)(al:V)(ys:List V)(F:List (Nm×Nm))(ws:List Nm)(ms:List (Nm×Int)),vs=[.ref f,.ref r,al]/\Good H f al ys F ws/\H r=some (.dK (kvS (mV ms)))/\(∀q∈ms,q.1∈ws/\(q.2=0\/q.2=1))/\(ms.map (·.1)).Nodup/\
 ∀H' p t w Ts wys,aU H H'->H p=none->H' p=some (.tup [.ref t,.ref w])->H' t=some (.dK (kvS (mV Ts)))->H' w=some (.lst wys)->Few F ws ms Ts wys.length->Q (.ref p) H'
theorem wp_fw{G:Gam}{K:aa}(g1:G.fn "frame_list" 2=some (spFl,[]))(g2:G.fn "is_read" 2=some (spIr,[]))(g3:G.fn "neighbours" 2=some (spNb,[]))(g4:G.fn "reached" 1=some (spRe,[]))(g5:G.fn "climbed" 2=some (spCl,[]))(g6:G.fn "settled" 2=some (spSe,[])):Sat G K vV vi pk:=by
 rintro vs H Q E ⟨f,r,al,ys,F,ws,ms,rfl,g,hr,hm,nm,q⟩;have hle:=g.le;have n63:=g.n63;have lm:ms.length<=63:=by
  have :=dS nm (m:=ws) fun v hv=>by obtain⟨q,hq,rfl⟩:=aE.mp hv;exact(hm q hq).1
  rw[ae]at this;omega
 unfold vi;change wpB G K _ _ _ [some (.ref f),some (.ref r),some al,none,none,none] H;walk_at "wp";refine⟨_,_,g1,f,al,ys,F,ws,rfl,g,fun H1 n ns s1 n1 h1 rs=>?_⟩;have t':=g.t.names rs.nd rs.mem;have nl:ns.length<=63:=by
  have :=dS rs.nd fun v hv=>(rs.mem v).mp hv
  omega
 unfold qd;walk_at "wp";refine⟨_,_,g2,r,n,ms,ns,rfl,s1 _ _ hr,h1,(fun q hq=>⟨(rs.mem _).mpr (hm q hq).1,(hm q hq).2⟩),(fun v hv=>g.nm v ((rs.mem v).mp hv)),by omega,by omega,fun H2 s2=>⟨_,rfl,?_⟩⟩;rw[if_neg (by decide)];unfold qc;walk_at "wp";refine⟨_,_,g4,_,_,g3,n,f,ns,ys,F,rfl,s2 _ _ h1,g.fr.same (s1.trans s2),rs.nd,t'.sub,by omega,by omega,fun H3 d ls s3 n3 h3 b e3=>?_⟩;refine⟨d,ls,F,rfl,b,?_,?_,?_,by omega,fun H4 a A s4 n4 h4 fd=>?_⟩
 ·intro z
  have :=t'.len
  rw[z]at e3;rw[<-e3]at this;cases this
 ·rw[e3]
  exact t'.sub
 ·have :=congrArg gE e3
  rw[ae]at this;omega
 have s5:=((s1.trans s2).trans s3).trans s4;have lA:A.length<=63:=by
  have :=dS fd.g.nd fd.sub
  rw[e3,ae]at this;omega
 unfold qb;walk_at "wp";refine⟨_,_,g5,a,r,A,ms,rfl,h4,s5 _ _ hr,fd.g.back,fd.g.nd,lA,fun H5 p e w wys s6 n6 h6 he hw ew=>?_⟩;unfold qa;walk_at "wp";have nL:((lv (rdO ms) A.reverse).map (·.1)).Nodup:=by rw[jT,eN];exact(oF _).nodup_iff.mpr fd.g.nd
 refine⟨_,_,g6,.inr (.inl ⟨p,_,0,_,rfl,rfl,SqT.of h6,rfl,?_⟩)⟩;refine⟨a,e,A,_,rfl,s6 _ _ h4,he,fd.g.nd,nL,(fun v hv=>by rw[jT];exact lE.mpr hv),(fun u hu x hx=>?_),fd.g.up,by omega,fun H6 t Ts s7 n7 h7 S=>?_⟩
 ·obtain⟨S',e2⟩:=kP hu
  rw[hx]at e2;exact half_01 e2.symm
 refine .inr (.inl ⟨p,_,1,_,rfl,rfl,SqT.of (s7 _ _ h6),rfl,(by show 2<=sizeLine;decide),fun p2 n2=>?_⟩);have s8:=(s5.trans s6).trans s7;refine q _ p2 t w Ts wys (s8.trans (aB n2)) (s8.free n2) av (aB n2 _ _ h7) (aB n2 _ _ (s7 _ _ hw)) ?_;rw[ew];exact few_of g.t fd (fun v=>by rw[e3];exact rs.mem v) hm nm S
end F5
namespace F5
open PySem R
noncomputable def uH:List Str:=["_law_script","_law_k"]
noncomputable def m7:List Str:=["_law_script","_law_k"]
noncomputable def iq:CB:=
  (.cons (.ret (.bin .Mod (.bin .Mult (.bin .Add (.idx (.var 0) (.var 1)) (.con (.int 1))) (.bin .Add (.con (.int 48271)) (.bin .Mult (.bin .Mult (.con (.int 7919)) (.var 1)) (.var 1)))) (.con (.int 2147483629))))
  .nil)
noncomputable def nH:CB:=
  (.cons (.iff (.and (.cmp .Eq (.bin .Mod (.bin .FloorDiv (.idx (.var 0) (.con (.int 0))) (.con (.int 64))) (.con (.int 2))) (.con (.int 1))) (.cmp .Gt (.idx (.var 0) (.var 1)) (.bin .Pow (.con (.int 10)) (.con (.int 12)))))
  (.cons (.ret (.bin .Mod (.idx (.var 0) (.var 1)) (.bin .Pow (.con (.int 10)) (.con (.int 30)))))
  .nil)
  .nil)
  iq)
noncomputable def wc:List Str:=["_law_number","_law_form"]
noncomputable def pd:List Str:=["_law_number","_law_form","_law_letters","_law_ahead","_law_word"]
noncomputable def lS:CB:=
  (.cons (.ret (.bin .Add (.var 4) (.cut (.con (.str "zzz")) .no (.yes (.bin .Mod (.bin .FloorDiv (.var 1) (.con (.int 4))) (.con (.int 4)))))))
  .nil)
noncomputable def lT:CB:=
  (.cons (.asg (.name 4) (.bin .Add (.bin .Add (.cut (.con (.str "qqq")) .no (.yes (.var 3))) (.idx (.var 2) (.bin .Mod (.var 0) (.con (.int 26))))) (.idx (.var 2) (.bin .Mod (.bin .FloorDiv (.var 0) (.con (.int 26))) (.con (.int 26))))))
  lS)
noncomputable def lU:CB:=
  (.cons (.asg (.name 3) (.bin .Mod (.var 1) (.con (.int 4))))
  lT)
noncomputable def pY:CB:=
  (.cons (.asg (.name 2) (.con (.str "abcdefghijklmnopqrstuvwxyz")))
  lU)
noncomputable def uI:List Str:=["_law_number","_law_k","_law_form"]
noncomputable def m8:List Str:=["_law_number","_law_k","_law_form"]
noncomputable def kD:CB:=
  (.cons (.ret (.bin .Mod (.var 0) (.var 1)))
  .nil)
noncomputable def kE:CB:=
  (.cons (.iff (.cmp .Eq (.bin .Mod (.var 2) (.con (.int 5))) (.con (.int 2)))
  (.cons (.ret (.bin .Mod (.var 0) (.bfn .min (.cons (.var 1) (.cons (.con (.int 3)) .nil)))))
  .nil)
  .nil)
  kD)
noncomputable def nI:CB:=
  (.cons (.iff (.cmp .Eq (.bin .Mod (.var 2) (.con (.int 5))) (.con (.int 1)))
  (.cons (.ret (.bin .Sub (.var 1) (.con (.int 1))))
  .nil)
  .nil)
  kE)
noncomputable def uG:List Str:=["_law_script","_law_form","_law_most"]
noncomputable def m6:List Str:=["_law_script","_law_form","_law_most","_law_frame_here","_law_k","_law_number","_law_branch","_law_at"]
noncomputable def kA:CB:=
  (.cons (.ret (.var 3))
  .nil)
noncomputable def jd:CB:=
  (.cons (.asg (.name 3) (.bin .Add (.bin .Add (.cut (.var 3) .no (.yes (.var 7))) (.lst (.cons (.var 6) .nil))) (.cut (.var 3) (.yes (.var 7)) .no)))
  .nil)
noncomputable def gq:CB:=
  (.cons (.asg (.name 7) (.bin .Mod (.bin .FloorDiv (.var 5) (.con (.int 2))) (.bin .Add (.bfn .len (.cons (.var 3) .nil)) (.con (.int 1)))))
  jd)
noncomputable def je:CB:=
  (.cons (.iff (.cmp .Eq (.bin .Mod (.var 5) (.con (.int 2))) (.con (.int 1)))
  (.cons (.asg (.name 6) (.tup (.cons (.idx (.var 6) (.con (.int 1))) (.cons (.idx (.var 6) (.con (.int 0))) .nil))))
  .nil)
  .nil)
  gq)
noncomputable def jf:CB:=
  (.cons (.asg (.name 6) (.tup (.cons (.call "_law_name" (.cons (.var 4) (.cons (.var 1) .nil))) (.cons (.call "_law_name" (.cons (.call "_law_above" (.cons (.bin .FloorDiv (.var 5) (.con (.int 200))) (.cons (.var 4) (.cons (.var 1) .nil)))) (.cons (.var 1) .nil))) .nil))))
  je)
noncomputable def kB:CB:=
  (.cons (.forr (.name 4) (.range2 (.con (.int 1)) (.bfn .min (.cons (.bfn .len (.cons (.var 0) .nil)) (.cons (.var 2) .nil))))
  (.cons (.asg (.name 5) (.call "_law_drawn" (.cons (.var 0) (.cons (.var 4) .nil))))
  jf))
  kA)
noncomputable def nG:CB:=
  (.cons (.asg (.name 3) (.lst .nil))
  kB)
noncomputable def uF:List Str:=["_law_script","_law_form","_law_most"]
noncomputable def m5:List Str:=["_law_script","_law_form","_law_most"]
noncomputable def nF:CB:=
  (.cons (.ret (.comp ["_law_k"] [1] (.name 0) (.range1 (.bfn .max (.cons (.con (.int 1)) (.cons (.bfn .min (.cons (.bfn .len (.cons (.var 0) .nil)) (.cons (.var 2) .nil))) .nil)))) .no (.call "_law_name" (.cons (.var 0) (.cons (.var 1) .nil)))))
  .nil)
end F5
namespace F5
open PySem PySem.Spec PyProof.Rows L2 R Cp Kc Lt
theorem tJ{ns:List Int}{k:Nat}(h:k<ns.length):atI (ns.map V.int) (k:Int)=some (.int ns[k]):=fF (by rw[aZ,ah h];rfl)
noncomputable def Ae(K:aa):Sp:=fun vs H Q _=>∃(s:Addr)(ns:List Int)(k:Nat),vs=[.ref s,.int k]/\SqL K H s (ns.map V.int)/\k<ns.length/\k<=100/\∀d:Int,Q (.int d) H
theorem wp_dr{G:Gam}{K:aa}:Sat G K (Ae K) nH m7:=by
 rintro vs H Q E ⟨s,ns,k,rfl,hs,hk,l1,q⟩;unfold nH;change wpB G K _ _ _ [some (.ref s),some (.int k)] H;walk_at "wp";have a0:=tJ (ns:=ns) (k:=0) (by omega);have ak:=tJ hk;have last:wpB G K (fun _=>E) iq {nx:=fun x H'=>Q V.non H',rt:=Q} [some (.ref s),some (.int k)] H:=by
  unfold iq;walk_at "wp";refine .inl ⟨s,_,_,_,rfl,rfl,hs,ak,?_⟩;walk_at "wp";have h2:(k:Int)*k<=100*100:=Int.mul_le_mul (by omega) (by omega) (by omega) (by decide);have h3:0<=(k:Int)*k:=Int.mul_nonneg (by omega) (by omega);have h4:7919*(k:Int)*k=7919*(k*k):=Int.mul_assoc ..;exact⟨cmulL (by decide) (by decide),xG (by omega) (by omega),xG (by omega) (by omega),by decide,q _⟩
 refine .inl ⟨s,_,0,_,rfl,rfl,hs,a0,?_⟩;walk_at "wp";refine⟨⟨by decide,by decide⟩,by decide,?_⟩;split
 ·refine .inl ⟨s,_,_,_,rfl,rfl,hs,ak,⟨by decide,by decide,by decide⟩,nh.mpr ⟨_,rfl,?_⟩⟩
  split
  ·refine .inl ⟨s,_,_,_,rfl,rfl,hs,ak,⟨by decide,by decide,by decide⟩,kJ.mpr ⟨by decide,q _⟩⟩
  ·exact last
 ·rw[if_neg aQ]
  exact last
noncomputable def fsg(c k:Int):List Nat:=[113,113,113].take (c%4).toNat++[tj k]++[tj (k/26)]++[122,122,122].take (c/4%4).toNat
noncomputable def fnm(c k:Int):Str:=mkS (fsg c k)
noncomputable def spNm:Sp:=fun vs H Q _=>∃(c k:Int),vs=[.int k,.int c]/\∀H',aU H H'->Q (.str (fnm c k)) H'
theorem wp_nm{G:Gam}{K:aa}:Sat G K spNm pY pd:=by
 rintro vs H Q E ⟨c,k,rfl,q⟩;unfold pY;change wpB G K _ _ _ [some (.int k),some (.int c),none,none,none] H;walk_at "wp";unfold lU;walk_at "wp";refine⟨by decide,?_⟩;unfold lT;walk_at "wp";have e1:c%4=((c%4).toNat:Int):=(fi (bX _ (by decide))).symm;have e2:c/4%4=((c/4%4).toNat:Int):=(fi (bX _ (by decide))).symm;have l1:([113,113,113].take (c%4).toNat).length<=3:=by rw[aW];exact eU ..
 have l2:([122,122,122].take (c/4%4).toNat).length<=3:=by rw[aW];exact eU ..
 rw[e1];rw[show cP "qqq"=mkS [113,113,113] by decide+kernel,va];have h1a:∀x:Nat,[x].length=1:=fun _=>rfl;refine⟨by decide+kernel,by decide,_,lJ,qf _,?_,⟨by decide,by decide⟩,by decide,_,lJ,qf _,?_,?_⟩
 ·rw[mk1,jz,jz,h1a]
  exact short (by omega)
 ·rw[mk1,mk1,sW,jz,jz,aA,h1a,h1a]
  exact short (by omega)
 unfold lS;walk_at "wp";rw[e2,show cP "zzz"=mkS [122,122,122] by decide+kernel,va,mk1,mk1,sW,sW];refine⟨⟨by decide,by decide⟩,by decide,by decide+kernel,?_,?_⟩
 ·rw[jz,jz,aA,aA,h1a,h1a]
  exact short (by omega)
 ·rw[sW]
  exact q H (aU.refl H)
theorem fnm_ok(c k:Int):eR (fnm c k)=true:=by
 have l1:([113,113,113].take (c%4).toNat).length<=3:=by rw[aW];exact eU ..
 have l2:([122,122,122].take (c/4%4).toNat).length<=3:=by rw[aW];exact eU ..
 have hl:(fnm c k).length=([113,113,113].take (c%4).toNat).length+2+([122,122,122].take (c/4%4).toNat).length:=by
  show(mkS (fsg c k)).length=_;rw[jz];unfold fsg;simp only[aA,bg,dw]
 unfold eR;rw[hl,aN];refine⟨decide_eq_true (by omega),?_⟩;show(fsg c k).toArray.toList.all fA=true;rw[Cf];unfold fsg;simp only[List.all_append,aN,mY,List.all_nil,lett_ok,and_true];have h1:[113,113,113].all fA=true:=by decide
 have h2:[122,122,122].all fA=true:=by decide
 rw[dh]at h1 h2;exact⟨dh.mpr fun y hy=>h1 y (gC hy),dh.mpr fun y hy=>h2 y (gC hy)⟩
theorem fnm_inj{c:Int}{i j:Nat}(hi:i<600)(hj:j<600)(h:fnm c i=fnm c j):i=j:=by
 have e:fsg c i=fsg c j:=by
  have :=congrArg (fun z:Str=>z.cps.toList) h
  simpa[fnm]using this
 unfold fsg at e;have e1:=List.append_cancel_right e;have e2:=List.append_inj_right' e1 (by simp);have e3:=List.append_cancel_left (List.append_inj_left' e1 (by simp));injection e2 with e2 _
 injection e3 with e3 _;have a:=uV e2;have b:=uV e3;omega
noncomputable def spAb:Sp:=fun vs H Q _=>∃(n c:Int)(k:Nat),vs=[.int n,.int k,.int c]/\1<=k/\k<=100/\∀j:Nat,j<k->Q (.int j) H
theorem wp_ab{G:Gam}{K:aa}:Sat G K spAb nI m8:=by
 rintro vs H Q E ⟨n,c,k,rfl,h1,h2,q⟩;unfold nI;change wpB G K _ _ _ [some (.int n),some (.int k),some (.int c)] H;walk_at "wp";refine⟨by decide,?_⟩;have fin:∀m:Int,0<m->m<=k->Q (.int (n%m)) H:=fun m hm hk=>by
  have h0:=bX n (show m≠0 by omega);have h1:=cM n hm;have :=q (n%m).toNat (by omega);rw[fi h0]at this;exact this
 split
 ·have :=q (k-1) (by omega)
  rw[show((k-1:Nat):Int)=(k:Int)-1 by omega]at this;exact this
 ·unfold kE
  walk_at "wp"
  refine⟨by decide,?_⟩;split
  ·refine⟨_,_,rfl,kJ.mpr ?_⟩
   split
   ·exact⟨by decide,fin _ (by decide) (by omega)⟩
   ·exact⟨by omega,fin _ (by omega) (by omega)⟩
  ·unfold kD
   walk_at "wp"
   exact⟨by omega,fin _ (by omega) (by omega)⟩
theorem Tree.put{F F':List (Nm×Nm)}{vs:List Nm}(t:Tree F vs){v u:Nm}{e:Nm×Nm}(hv:v∉vs)(hu:u∈vs)(he:e=(v,u)\/e=(u,v))(p:F'.Perm (e::F)):Tree F' (vs++[v]):=by
 have t':Tree (e::F) (vs++[v]):=by
  have m1:∀{x},x∈vs->x∈vs++[v]:=fun h=>ai.mpr (.inl h);have m2:v∈vs++[v]:=ai.mpr (.inr au);refine⟨?_,fun x hx=>?_,by rw[aA,t.len];rfl,fun S hS a ha b hb sa=>?_⟩
  ·rw[b7]
   refine⟨t.nd,by simp,fun a ha b hb z=>?_⟩;cases aq.mp hb;exact hv (z▸ha)
  ·rcases aI.mp hx with rfl|hx
   ·rcases he with rfl|rfl
    ·exact⟨m2,m1 hu⟩
    ·exact⟨m1 hu,m2⟩
   ·exact⟨m1 (t.sub x hx).1,m1 (t.sub x hx).2⟩
  ·have hS':∀x∈F,S x.1↔S x.2:=fun x hx=>hS x (aF _ hx)
   have he':S v↔S u:=by
    have :=hS e au
    rcases he with rfl|rfl
    ·exact this
    ·exact this.symm
   have ka:S u:=by
    rcases ai.mp ha with ha|ha
    ·exact t.conn S hS' a ha u hu sa
    ·cases aq.mp ha
     exact he'.mp sa
   rcases ai.mp hb with hb|hb
   ·exact t.conn S hS' u hu b hb ka
   ·cases aq.mp hb
    exact he'.mpr ka
 exact t'.perm p
noncomputable def nms(c:Int)(n:Nat):List Nm:=(aM n).map fun k:Nat=>fnm c k
theorem Bi(c:Int)(n:Nat):nms c (n+1)=nms c n++[fnm c n]:=by unfold nms;rw[List.range_succ,aG];rfl
theorem nms_mem{c:Int}{n j:Nat}(h:j<n):fnm c j∈nms c n:=aE.mpr ⟨j,dO.mpr h,rfl⟩
theorem nms_new{c:Int}{n:Nat}(h:n<600):fnm c n∉nms c n:=fun z=>by
 obtain⟨j,hj,e⟩:=aE.mp z;have hj:=dO.mp hj;have :=fnm_inj (by omega) h e;omega
noncomputable def spFr(K:aa):Sp:=fun vs H Q _=>∃(s:Addr)(ns:List Int)(c:Int),vs=[.ref s,.int c,.int 40]/\SqL K H s (ns.map V.int)/\
 ∀H' f ys F,aU H H'->H f=none->Frm H' f ys F->Tree F (nms c (max 1 (min ns.length 40)))->Q (.ref f) H'
theorem sL{α β:Type}{P:α->β->Prop}:∀{a:List α}{b:List β}{a':List α}{b':List β},Paired P a b->Paired P a' b'->Paired P (a++a') (b++b')
 |_,_,_,_,.nil,h=>h
 |_,_,_,_,.cons r t,h=>.cons r (sL t h)
theorem uB{α β:Type}{P:α->β->Prop}:∀{a:List α}{b:List β}(n:Nat),Paired P a b->Paired P (a.take n) (b.take n)
 |_,_,0,_=>.nil
 |_,_,_+1,.nil=>.nil
 |_,_,n+1,.cons r t=>.cons r (uB n t)
theorem uC{α β:Type}{P:α->β->Prop}:∀{a:List α}{b:List β}(n:Nat),Paired P a b->Paired P (a.drop n) (b.drop n)
 |_,_,0,h=>h
 |_,_,_+1,.nil=>.nil
 |_,_,n+1,.cons r t=>uC n t
theorem yU{ys:List V}{z:Nat}(h:z<=ys.length):tz ys none (some (z:Int))=ys.take z:=by
 unfold tz;rw[HT.oY,HT.sC,tY h,uf,kh]
theorem yV{ys:List V}{z:Nat}(h:z<=ys.length):tz ys (some (z:Int)) none=ys.drop z:=by
 unfold tz;rw[HT.oY,HT.sC,tY h,j6 (by rw[qr];omega)]
theorem fr4{G:Gam}{K:aa}{E:XS}{D:Ends}{H H1:Hp}{s f p:Addr}{c dn:Int}{ys:List V}{F:List (Nm×Nm)}{e:Nm×Nm}{y4 y7:Option V}(hp:H1 p=some (.tup [.str e.1,.str e.2]))(s1:aU H H1)(fr:Frm H1 f ys F)(l:F.length<=200)
  (hk:∀H2 f' ys' F' y7,aU H H2->H f'=none->Frm H2 f' ys' F'->F'.Perm (e::F)->D.nx [some (.ref s),some (.int c),some (.int 40),some (.ref f'),y4,some (.int dn),some (.ref p),y7] H2):
  wpB G K E gq D [some (.ref s),some (.int c),some (.int 40),some (.ref f),y4,some (.int dn),some (.ref p),y7] H1:=by
 have hl:=fr.len;unfold gq;walk_at "wp";refine⟨⟨by decide,by decide⟩,.inl ⟨f,_,rfl,.inl (SqL.of fr.hf),?_⟩⟩;walk_at "wp";refine⟨by omega,?_⟩;have h0:=bX (dn/2) (show(ys.length:Int)+1≠0 by omega);have h1:=cM (dn/2) (show(0:Int)<(ys.length:Int)+1 by omega);obtain⟨m,hm⟩:=fO h0;rw[hm]at h1⊢;unfold jd;walk_at "wp";refine .inl ⟨f,ys,rfl,SqL.of fr.hf,fun p1 n1=>⟨(by show 1<=sizeLine;decide),fun p2 n2=>?_⟩⟩;rw[yU (by omega)]at n2⊢;have s2:=(aB (o:=.lst (ys.take m)) n1).trans (aB (o:=.lst [.ref p]) n2);have lt:(ys.take m).length<=ys.length:=by rw[aW];omega
 have ld:(ys.drop m).length<=ys.length:=by rw[qr];omega
 refine .inr (.inr (.inl ⟨p1,p2,_,_,rfl,rfl,aB n2 _ _ av,av,fM (by show _+1<=_;omega),fun p3 n3=>?_⟩));have s3:=s2.trans (aB (o:=.lst (ys.take m++[.ref p])) n3);refine .inl ⟨f,ys,rfl,SqL.of (s3 _ _ fr.hf),fun p4 n4=>?_⟩;rw[yV (by omega)];have s4:=s3.trans (aB (o:=.lst (ys.drop m)) n4);refine .inr (.inr (.inl ⟨p3,p4,_,_,rfl,rfl,aB n4 _ _ av,av,fM (by rw[aA];show _+1+_<=_;omega),fun p5 n5=>?_⟩));have s5:=s4.trans (aB (o:=.lst (ys.take m++[.ref p]++ys.drop m)) n5);refine hk _ p5 _ (F.take m++[e]++F.drop m) _ (s1.trans s5) ((s1.trans s4).free n5) ⟨av,?_⟩ ?_
 ·exact sL (sL (uB m (fr.same s5).br) (.cons ⟨p,rfl,s5 _ _ hp⟩ .nil)) (uC m (fr.same s5).br)
 ·rw[i8]
  refine List.perm_middle.trans ?_;show(e::(F.take m++F.drop m)).Perm (e::F);rw[List.take_append_drop]
theorem wp_fr{G:Gam}{K:aa}(g1:G.fn "_law_drawn" 2=some (Ae K,[]))(g2:G.fn "_law_name" 2=some (spNm,[]))(g3:G.fn "_law_above" 3=some (spAb,[])):Sat G K (spFr K) nG m6:=by
 rintro vs H Q E ⟨s,ns,c,rfl,hs,q⟩;unfold nG;change wpB G K _ _ _ [some (.ref s),some (.int c),some (.int 40),none,none,none,none,none] H;walk_at "wp";refine⟨aL _,fun f0 n0=>?_⟩;unfold kB;walk_at "wp";refine hU ?_;walk_at "wp";have em:(if(40:Int)<(ns.map V.int).length then(40:Int)else((ns.map V.int).length:Int))=((min ns.length 40:Nat):Int):=by
  rw[ae];split <;>omega
 refine .inl ⟨s,_,rfl,.inl (aU.seq (aB n0) hs),_,_,rfl,?_⟩;rw[em];refine⟨1,_,rfl,by omega,?_⟩;have et:(((min ns.length 40:Nat):Int)-1).toNat=min ns.length 40-1:=by omega
 rw[et];refine fX jP (fun i σ H'=>aU H H'/\∃f ys F y4 y5 y6 y7,σ=[some (.ref s),some (.int c),some (.int 40),some (.ref f),y4,y5,y6,y7]/\H f=none/\Frm H' f ys F/\Tree F (nms c (i+1)))
  ⟨aB n0,f0,[],[],_,_,_,_,rfl,n0,⟨av,.nil⟩,⟨by simp[nms],(fun e he=>nomatch he),rfl,fun S _ a ha b hb=>?_⟩⟩ (fun _ _ _ _ _=>trivial) ?_ ?_
 ·have h1:a=fnm c ((0:Nat):Int):=aq.mp ha
  have h2:b=fnm c ((0:Nat):Int):=aq.mp hb;rw[h1,h2];exact id
 ·rintro i x σ H1 H2 D2 hi ⟨s1,f,ys,F,y4,y5,y6,y7,rfl,nf,fr,t⟩ rfl s2 hD _
  have ek:(1:Int)+(i:Int)=((i+1:Nat):Int):=by omega
  rw[ek];walk_at "wp";refine⟨_,_,g1,s,ns,i+1,rfl,(s1.trans s2).seq hs,by omega,by omega,fun dn=>?_⟩;unfold jf;walk_at "wp";refine⟨_,_,g2,c,_,rfl,fun H3 s3=>⟨_,_,g2,_,_,g3,⟨by decide,by decide⟩,_,c,i+1,rfl,by omega,by omega,fun j hj=>⟨c,j,rfl,fun H4 s4=>⟨(by show 2<=sizeLine;decide),fun p hp=>?_⟩⟩⟩⟩;have s5:=(s1.trans s2).trans ((s3.trans s4).trans (aB (o:=.tup [.str (fnm c ((i+1:Nat):Int)),.str (fnm c j)]) hp));have fr5:=fr.same (s2.trans ((s3.trans s4).trans (aB (o:=.tup [.str (fnm c ((i+1:Nat):Int)),.str (fnm c j)]) hp)));have new:=nms_new (c:=c) (n:=i+1) (by omega);have old:=nms_mem (c:=c) hj;have hk2:∀{e:Nm×Nm}{p':Addr},(e=(fnm c ((i+1:Nat):Int),fnm c j)\/e=(fnm c j,fnm c ((i+1:Nat):Int)))->∀H6 f' ys' F' y7,aU H H6->H f'=none->Frm H6 f' ys' F'->F'.Perm (e::F)->D2.nx [some (.ref s),some (.int c),some (.int 40),some (.ref f'),some (.int ((i+1:Nat):Int)),some (.int dn),some (.ref p'),y7] H6:=fun he H6 f' ys' F' y7 s6 n6 fr6 pm=>hD _ _ ⟨s6,f',ys',F',_,_,_,_,rfl,n6,fr6,Bi c (i+1)▸t.put new old he pm⟩;have hl:=t.len;have hl2:(nms c (i+1)).length=i+1:=by unfold nms;rw[ae,dz]
  unfold je;walk_at "wp";refine⟨by decide,?_⟩;split
  ·refine .inr (.inl ⟨p,_,1,_,rfl,rfl,SqT.of av,rfl,.inr (.inl ⟨p,_,0,_,rfl,rfl,SqT.of av,rfl,(by show 2<=sizeLine;decide),fun p2 n2=>?_⟩)⟩)
   exact fr4 (e:=(fnm c j,fnm c ((i+1:Nat):Int))) av (s5.trans (aB n2)) (fr5.same (aB n2)) (by omega) (hk2 (.inr rfl))
  ·exact fr4 (e:=(fnm c ((i+1:Nat):Int),fnm c j)) av s5 fr5 (by omega) (hk2 (.inl rfl))
 ·rintro σ H1 ⟨s1,f,ys,F,y4,y5,y6,y7,rfl,nf,fr,t⟩
  rw[show min ns.length 40-1+1=max 1 (min ns.length 40) by omega]at t;unfold kA;walk_at "wp";exact q H1 f ys F s1 nf fr t
noncomputable def spNs(K:aa):Sp:=fun vs H Q _=>∃(s:Addr)(ns:List Int)(c:Int),vs=[.ref s,.int c,.int 40]/\SqL K H s (ns.map V.int)/\
 ∀H' l,aU H H'->H l=none->H' l=some (.lst ((nms c (max 1 (min ns.length 40))).map V.str))->Q (.ref l) H'
theorem wp_ns{G:Gam}{K:aa}(g2:G.fn "_law_name" 2=some (spNm,[])):Sat G K (spNs K) nF m5:=by
 rintro vs H Q E ⟨s,ns,c,rfl,hs,q⟩;unfold nF;change wpB G K _ _ _ [some (.ref s),some (.int c),some (.int 40)] H;walk_at "wp";refine fB ?_;walk_at "wp";have em:(if(40:Int)<(ns.map V.int).length then(40:Int)else((ns.map V.int).length:Int))=((min ns.length 40:Nat):Int):=by
  rw[ae];split <;>omega
 refine .inl ⟨s,_,rfl,.inl hs,_,_,rfl,?_⟩;rw[em];refine⟨_,_,rfl,((max 1 (min ns.length 40):Nat):Int),?_,by omega,by omega,?_⟩
 ·congr 2
  split <;>omega
 rw[cE];refine iN jP (fM (by omega)) (fun _ _=>trivial) (fun i v _=>v=V.str ((nms c (max 1 (min ns.length 40))).getD i "")) (fun _ _ _ _ _ h=>h) (fun τ=>∃t,τ=[t,some (.int c)]) ⟨none,rfl⟩ ?_ ?_
 ·rintro i x τ H3 R hi ⟨t,rfl⟩ s3 rfl k
  refine⟨_,_,g2,_,rfl,_,rfl,c,_,rfl,fun H4 s4=>k _ _ _ ⟨_,rfl⟩ s4 ?_⟩;unfold nms;rw[aK,aZ,Ci hi,zw];rfl
 ·intro vs H2 l hvl hF s2 hl2
  rw[qT (by rw[hvl];unfold nms;rw[ae,dz]) hF];exact q _ l (s2.trans (aB hl2)) (s2.free hl2) av
end F5
namespace F5
open PySem R
noncomputable def wb:List Str:=["_law_script","_law_names_here","_law_form"]
noncomputable def o9:List Str:=["_law_script","_law_names_here","_law_form","_law_marked","_law_k","_law_number","_law_way"]
noncomputable def lQ:CB:=
  (.cons (.ret (.var 3))
  .nil)
noncomputable def jM:CB:=
  (.cons (.iff (.cmp .Lt (.var 6) (.con (.int 2)))
  (.cons (.putk (.var 3) (.idx (.var 1) (.var 4)) (.var 6))
  .nil)
  .nil)
  .nil)
noncomputable def fE:CB:=
  (.cons (.asg (.name 6) (.bin .Mod (.var 5) (.idx (.lst (.cons (.con (.int 3)) (.cons (.con (.int 5)) (.cons (.con (.int 12)) (.cons (.con (.int 2)) .nil))))) (.bin .Mod (.bin .FloorDiv (.var 2) (.con (.int 16))) (.con (.int 4))))))
  jM)
noncomputable def gK:CB:=
  (.cons (.iff (.and (.cmp .Eq (.bin .Mod (.bin .FloorDiv (.var 2) (.con (.int 64))) (.con (.int 2))) (.con (.int 1))) (.cmp .Gt (.idx (.var 0) (.var 4)) (.bin .Pow (.con (.int 10)) (.con (.int 32)))))
  (.cons (.asg (.name 5) (.divb (.idx (.var 0) (.var 4)) (.bin .Pow (.con (.int 10)) (.con (.int 30)))))
  .nil)
  .nil)
  fE)
noncomputable def lR:CB:=
  (.cons (.forr (.name 4) (.range1 (.bfn .len (.cons (.var 1) .nil)))
  (.cons (.asg (.name 5) (.bin .Mod (.bin .Mult (.ite (.cmp .NotEq (.var 0) (.lst .nil)) (.call "_law_drawn" (.cons (.var 0) (.cons (.var 4) .nil))) (.con (.int 5))) (.con (.int 69621))) (.con (.int 2147483647))))
  gK))
  lQ)
noncomputable def pX:CB:=
  (.cons (.asg (.name 3) (.dic .nil))
  lR)
end F5
namespace F5
open PySem PySem.Spec PyProof.Rows L2 R Cp Kc Lt
noncomputable def bD(e:Nm×Nm):D:=.tup [.str e.1,.str e.2]
theorem sF{K:aa}{H:Hp}:∀{ys:List V}{F:List (Nm×Nm)},Paired (Br H) ys F->fT K H (F.map bD) ys
 |_,_,.nil=>rfl
 |_,_,.cons ⟨p,e,h⟩ t=>⟨_,_,rfl,⟨p,_,e,SqT.of h,_,_,rfl,rfl,_,_,rfl,rfl,rfl⟩,sF t⟩
theorem wG:∀F:List (Nm×Nm),gH (F.map bD)<=1
 | []=>aL _
 |e::F=>by
  have :=wG F
  show max (hgt (bD e)) (gH (F.map bD))<=1;have h1:hgt (bD e)=1:=rfl;omega
theorem BE(ns:List Int):hgt (.lst (ns.map .int))<=1:=by
 show gH (ns.map .int)+1<=1;have :gH (ns.map .int)=0:=by
  induction ns with
  |nil=>rfl
  |cons a l ih=>
   show max (hgt (.int a)) (gH (l.map .int))=0;rw[ih];rfl
 omega
noncomputable def spRd(K:aa):Sp:=fun vs H Q _=>∃(s n:Addr)(ns:List Int)(ws:List Nm),vs=[.ref s,.ref n,.int (ns.getD 0 0)]/\SqL K H s (ns.map V.int)/\H n=some (.lst (ws.map V.str))/\ws.Nodup/\ws.length=max 1 (min ns.length 40)/\
 ∀H' r ms,aU H H'->H r=none->H' r=some (.dK (kvS (mV ms)))->(∀q∈ms,q.1∈ws/\(q.2=0\/q.2=1))->(ms.map (·.1)).Nodup->Q (.ref r) H'
theorem rd4{G:Gam}{K:aa}{E:XS}{D:Ends}{H H1:Hp}{s n r:Addr}{c d:Int}{ws:List Nm}{k:Nat}{ms:List (Nm×Int)}{y6:Option V}(hn:H n=some (.lst (ws.map V.str)))(hk:k<ws.length)(nd:ws.Nodup)(l:ws.length<=100)(s1:aU H H1)(nr:H r=none)(hr:H1 r=some (.dK (kvS (mV ms))))(h1:∀q∈ms,q.1∈ws.take k/\(q.2=0\/q.2=1))(h2:(ms.map (·.1)).Nodup)
  (hD:∀H2 ms y6,aU H H2->H2 r=some (.dK (kvS (mV ms)))->(∀q∈ms,q.1∈ws.take (k+1)/\(q.2=0\/q.2=1))->(ms.map (·.1)).Nodup->D.nx [some (.ref s),some (.ref n),some (.int c),some (.ref r),some (.int k),some (.int d),y6] H2):
  wpB G K E fE D [some (.ref s),some (.ref n),some (.int c),some (.ref r),some (.int k),some (.int d),y6] H1:=by
 unfold fE;walk_at "wp";refine⟨(by show 4<=sizeLine;decide),fun p hp=>⟨⟨by decide,by decide⟩,by decide,?_⟩⟩;have s2:aU H1 (upd H1 p (.lst [.int 3,.int 5,.int 12,.int 2])):=aB hp;have ex:∃m:Int,atI [V.int 3,.int 5,.int 12,.int 2] (c/16%4)=some (.int m)/\0<m:=by
  have h0:0<=c/16%4:=bX _ (by decide);have h1:c/16%4<4:=cM _ (by decide);have h:c/16%4=0\/c/16%4=1\/c/16%4=2\/c/16%4=3:=by omega
  rcases h with h|h|h|h
  ·rw[h];exact⟨3,rfl,by decide⟩
  ·rw[h];exact⟨5,rfl,by decide⟩
  ·rw[h];exact⟨12,rfl,by decide⟩
  ·rw[h];exact⟨2,rfl,by decide⟩
 obtain⟨m,hm,m0⟩:=ex;refine .inl ⟨p,_,_,_,rfl,rfl,SqL.of av,hm,kJ.mpr ⟨m0,?_⟩⟩;have w0:0<=d%m:=bX _ (by omega);generalize d%m=w at w0;have s3:=s1.trans s2;have hr2:=s2 _ _ hr;generalize upd H1 p (.lst [.int 3,.int 5,.int 12,.int 2])=H2 at s3 hr2;have up:∀{v:Nm},v∈ws.take k->v∈ws.take (k+1):=fun h=>by rw[bP];exact ai.mpr (.inl h)
 have new:ws[k]∉ms.map (·.1):=fun z=>by
  obtain⟨q,hq,e⟩:=aE.mp z;have :=(h1 q hq).1;rw[e]at this;obtain⟨j,hj,ej⟩:=aR.mp this;rw[aW]at hj;rw[ef]at ej;have :=(bY nd).mp ej;omega
 have lm:ms.length<=100:=by
  have :=dS h2 (m:=ws) fun v hv=>by obtain⟨q,hq,rfl⟩:=aE.mp hv;exact gC (h1 q hq).1
  rw[ae]at this;omega
 unfold jM;walk_at "wp";by_cases c2:w<2
 ·rw[if_pos (decide_eq_true c2)]
  have hdp:=dput (v:=ws[k]) (x:=.int w) hr2 (by unfold mV;rw[ae];omega) (by rw[iU];exact new);rw[lH]at hdp;refine .inl ⟨n,_,_,_,rfl,rfl,SqL.of (s3 _ _ hn),fF (by rw[aZ,ah hk];rfl),r,_,rfl,hdp,?_⟩;refine hD _ _ _ (cZ s3 nr) av (fun q hq=>?_) ?_
  ·rcases ai.mp hq with hq|hq
   ·exact⟨up (h1 q hq).1,(h1 q hq).2⟩
   ·cases aq.mp hq
    refine⟨?_,show w=0\/w=1 by omega⟩;rw[bP,ah hk];exact ai.mpr (.inr au)
  ·rw[aG,b7]
   refine⟨h2,by simp,fun a ha b hb z=>?_⟩;cases aq.mp hb;have z:a=ws[k]:=z;exact new (z▸ha)
 ·rw[if_neg (by simpa using c2)]
  exact hD _ _ _ s3 hr2 (fun q hq=>⟨up (h1 q hq).1,(h1 q hq).2⟩) h2
theorem wp_rd{G:Gam}{K:aa}(g1:G.fn "_law_drawn" 2=some (Ae K,[])):Sat G K (spRd K) pX o9:=by
 rintro vs H Q E ⟨s,n,ns,ws,rfl,hs,hn,nd,lw,q⟩;unfold pX;change wpB G K _ _ _ [some (.ref s),some (.ref n),some (.int (ns.getD 0 0)),none,none,none,none] H;walk_at "wp";refine .inl ⟨trivial,fun r nr=>?_⟩;unfold lR;walk_at "wp";refine hU ?_;walk_at "wp";refine .inl ⟨n,_,rfl,.inl (SqL.of (aB nr _ _ hn)),?_⟩;refine⟨_,rfl,by rw[ae];omega,by rw[ae];omega,?_⟩;rw[cE,ae];refine fX jP (fun i σ H'=>aU H H'/\∃ms y4 y5 y6,σ=[some (.ref s),some (.ref n),some (.int (ns.getD 0 0)),some (.ref r),y4,y5,y6]/\H' r=some (.dK (kvS (mV ms)))/\(∀q∈ms,q.1∈ws.take i/\(q.2=0\/q.2=1))/\(ms.map (·.1)).Nodup)
  ⟨aB nr,[],_,_,_,rfl,av,(fun q hq=>nomatch hq),eF⟩ (fun _ _ _ _ _=>trivial) ?_ ?_
 ·rintro i x σ H1 H2 D2 hi ⟨s1,ms,y4,y5,y6,rfl,hr,h1,h2⟩ rfl s2 hD _
  walk_at "wp"
  rw[zw];refine⟨aL _,fun p hp=>?_⟩;have s3:=(s1.trans s2).trans (aB (o:=.lst []) hp);have hr3:=aB (o:=.lst []) hp _ _ (s2 _ _ hr);have fin:∀d:Int,wpB G K (fun _=>E) gK D2 [some (.ref s),some (.ref n),some (.int (ns.getD 0 0)),some (.ref r),some (.int i),some (.int d),y6] (upd H2 p (.lst [])):=by
   intro d;have last:∀d:Int,wpB G K (fun _=>E) fE D2 [some (.ref s),some (.ref n),some (.int (ns.getD 0 0)),some (.ref r),some (.int i),some (.int d),y6] (upd H2 p (.lst [])):=fun d=>rd4 hn hi nd (by omega) s3 nr hr3 h1 h2 fun H4 ms' y6 s4 hr4 h3 h4=>hD _ _ ⟨s4,ms',_,_,_,rfl,hr4,h3,h4⟩;unfold gK;walk_at "wp";refine⟨⟨by decide,by decide⟩,by decide,?_⟩;by_cases c1:ns.getD 0 0/64%2=1
   ·have hi2:i<ns.length:=by
     have :ns≠[]:=fun z=>by rw[z]at c1;exact absurd c1 (by decide)
     have :=dN.mpr this
     omega
    rw[if_pos (decide_eq_true c1)];refine .inl ⟨s,_,_,_,rfl,rfl,s3.seq hs,tJ hi2,⟨by decide,by decide,by decide⟩,nh.mpr ⟨_,rfl,?_⟩⟩;split
    ·exact .inl ⟨s,_,_,_,rfl,rfl,s3.seq hs,tJ hi2,⟨by decide,by decide,by decide⟩,_,_,rfl,rfl,⟨by decide+kernel,by decide+kernel⟩,last _⟩
    ·exact last d
   ·rw[if_neg (by simpa using c1),if_neg aQ]
    exact last d
  refine⟨.lst (ns.map .int),.lst [],⟨s,_,rfl,s3.seq hs,fT.ints ns⟩,⟨p,_,rfl,SqL.of av,rfl⟩,?_,_,rfl,?_⟩
  ·exact aP (BE ns) (by decide)
  cases ns with
  |nil=>
   rw[if_neg (by show ¬(!eqD (.lst []) (.lst []))=true;decide)];exact⟨xG (by decide) (by decide),by decide,fin _⟩
  |cons y ns=>
   rw[if_pos (show(!eqD (.lst ((y::ns).map .int)) (.lst []))=true from rfl)];have lw':ws.length=max 1 (min (ns.length+1) 40):=lw;refine⟨_,_,g1,s,y::ns,i,rfl,s3.seq hs,(by rw[bg];omega),by omega,fun d=>Bm.mpr ⟨xG (by decide) (by decide),kJ.mpr ⟨by decide,fin _⟩⟩⟩
 ·rintro σ H1 ⟨s1,ms,y4,y5,y6,rfl,hr,h1,h2⟩
  rw[bN]at h1;unfold lQ;walk_at "wp";exact q H1 r ms s1 nr hr h1 h2
noncomputable def rplI(Ts:List (Nm×Int))(v:Nm)(x:Int):List (Nm×Int):=Ts.map fun q=>if q.1=v then(q.1,x)else q
theorem rpl_mV(Ts:List (Nm×Int))(v:Nm)(x:Int):sG (mV Ts) v (.int x)=mV (rplI Ts v x):=by
 unfold sG mV rplI;rw[bQ,bQ];apply dJ;intro q _;show(if q.1=v then(q.1,V.int x)else(q.1,V.int q.2))=((if q.1=v then(q.1,x)else q).1,V.int (if q.1=v then(q.1,x)else q).2);by_cases c:q.1=v
 ·rw[if_pos c,if_pos c]
 ·rw[if_neg c,if_neg c]
structure Tld(ws:List Nm)(ms Ts:List (Nm×Int)):Prop where
 ks:Ts.map (·.1)=ws
 v01:∀q∈Ts,q.2=0\/q.2=1
 ext:∀q∈ms,q∈Ts
theorem Tld.get{ws:List Nm}{ms Ts:List (Nm×Int)}(t:Tld ws ms Ts)(nd:ws.Nodup){v:Nm}(hv:v∈ws){H:Hp}{a:Addr}(h:H a=some (.dK (kvS (mV Ts)))):∃x:Int,(x=0\/x=1)/\kc H a (.str v) (some (.int x))/\tl Ts v=x:=by
 rw[<-t.ks]at hv;obtain⟨⟨u,x⟩,hu,e⟩:=aE.mp hv;have e:u=v:=e;subst e;have nT:(Ts.map (·.1)).Nodup:=t.ks.symm▸nd;exact⟨x,t.v01 _ hu,sZ nT hu▸qF u (.inl h),lj nT hu⟩
theorem din{H:Hp}{a:Addr}{ms:List (Nm×Int)}{v:Nm}(h:H a=some (.dK (kvS (mV ms)))):kc H a (.str v) ((rdO ms v).map V.int):=uT v ms▸qF v (.inl h)
end F5
namespace F5
open PySem
theorem gh.len{F:List (Nm×Nm)}{A:List (Nm×Option Nm)}(g:gh F A):A.length<=F.length+1:=by
 obtain⟨L,h1,h2,_,h4,_⟩:=g.edges;have :=L2.iK h1 h2;omega
theorem u5(F:List (Nm×Nm)):∀(k:Nat){A:List (Nm×Option Nm)},gh F A->F.length+1-A.length<=k->∃B,gh F B/\(∀v∈A.map (·.1),v∈B.map (·.1))/\∀v∈B.map (·.1),∀x∈adj F v,x∈B.map (·.1)
 |k,A,g,hk=>by
  by_cases c:∀v∈A.map (·.1),∀x∈adj F v,x∈A.map (·.1)
  ·exact⟨A,g,fun _ h=>h,c⟩
  ·have :∃v,v∈A.map (·.1)/\∃x,x∈adj F v/\x∉A.map (·.1):=by
    apply gU
    intro z;exact c fun v hv x hx=>gU fun hn=>z ⟨v,hv,x,hx,hn⟩
   obtain⟨v,hv,x,hx,hn⟩:=this;have g2:=gh.more g hv hn hx;have l2:=g2.len;rw[aA,bJ]at l2;cases k with
   |zero=>omega
   |succ k=>
    obtain⟨B,b1,b2,b3⟩:=u5 F k g2 (by rw[aA,bJ];omega);exact⟨B,b1,fun u hu=>b2 u (by rw[aG];exact ai.mpr (.inl hu)),b3⟩
theorem vc{F:List (Nm×Nm)}{S:List Nm}(nd:S.Nodup)(cn:∀P:Nm->Prop,(∀e∈F,P e.1↔P e.2)->∀a∈S,∀b∈S,P a->P b):S.length<=F.length+1:=by
 cases S with
 |nil=>exact aL _
 |cons s S=>
  obtain⟨B,b1,b2,b3⟩:=u5 F (F.length+1) (gh.one s) (Nat.sub_le ..);have h:∀v∈s::S,v∈B.map (·.1):=fun v hv=>cn (fun x=>x∈B.map (·.1)) (fun e he=>⟨fun z=>b3 _ z _ (iT.mpr (.inl he)),fun z=>b3 _ z _ (iT.mpr (.inr he))⟩) s au v hv (b2 s au);have h1:=L2.iK nd h;have h2:=b1.len;rw[ae]at h1;omega
noncomputable def both(S:List Nm)(e:Nm×Nm):Bool:=decide (e.1∈S)&&decide (e.2∈S)
theorem gd{S:List Nm}{e:Nm×Nm}:both S e=true↔e.1∈S/\e.2∈S:=by
 unfold both;rw[aN,decide_eq_true_eq,decide_eq_true_eq]
structure Cut(F:List (Nm×Nm))(ws:List Nm)(e:Nm×Nm)(S1 S2:List Nm):Prop where
 t1:Tree (F.filter (both S1)) S1
 t2:Tree (F.filter (both S2)) S2
 b:e.2∉S1
 b2:e.2∈S2
 sp:∀v,v∈ws↔v∈S1\/v∈S2
 dj:∀v∈S1,v∉S2
 ch:∀T,F5.ch T F=(if T e.1≠T e.2 then 1 else 0)+F5.ch T (F.filter (both S1))+F5.ch T (F.filter (both S2))
theorem cut_of{F:List (Nm×Nm)}{ws S1 S2:List Nm}{e:Nm×Nm}{A:List (Nm×Option Nm)}(t:Tree F ws)(he:e∈F)(g:gh (F.filter fun x=>decide (x≠e)) A)(h1:A.map (·.1)=S1)(ha:e.1∈S1)(sub:∀v∈S1,v∈ws)
  (cl:∀x∈F,x≠e->(x.1∈S1↔x.2∈S1))(h2:S2=ws.filter fun v=>decide (v∉S1)):Cut F ws e S1 S2:=by
 have n1:S1.Nodup:=h1▸g.nd;have m2:∀v,v∈S2↔v∈ws/\v∉S1:=fun v=>by rw[h2,ck,decide_eq_true_eq]
 have n2:S2.Nodup:=by rw[h2];exact t.nd.sublist List.filter_sublist
 have lF:(F.filter fun x=>decide (x≠e)).length<F.length:=by
  apply Nat.lt_of_le_of_ne (zt ..)
  intro z;have :=List.length_filter_eq_length_iff.mp z e he;simp at this
 have hb:e.2∉S1:=fun z=>by
  have all:∀v∈ws,v∈S1:=fun v hv=>t.conn (fun x=>x∈S1) (fun x hx=>by
   by_cases c:x=e
   ·rw[c];exact⟨fun _=>z,fun _=>ha⟩
   ·exact cl x hx c) e.1 (sub _ ha) v hv ha
  have l1:=L2.iK t.nd all;have l2:=g.len;have l3:=congrArg gE h1;rw[ae]at l3;have :=t.len;omega
 have hb2:e.2∈S2:=(m2 _).mpr ⟨(t.sub e he).2,hb⟩;have c1:∀P:Nm->Prop,(∀x∈F.filter (both S1),P x.1↔P x.2)->∀a∈S1,∀b∈S1,P a->P b:=fun P hP a ha' b hb' pa=>by
  have :=t.conn (fun x=>(x∈S1->P x)/\(x∉S1->P e.1)) (fun x hx=>by
   by_cases c:x=e
   ·rw[c]
    exact⟨fun h=>⟨fun z=>absurd z hb,fun _=>h.1 ha⟩,fun h=>⟨fun _=>h.2 hb,fun z=>absurd ha z⟩⟩
   ·have k:=cl x hx c
    by_cases d:x.1∈S1
    ·have d2:=k.mp d
     have :=hP x (ck.mpr ⟨hx,gd.mpr ⟨d,d2⟩⟩)
     exact⟨fun h=>⟨fun _=>this.mp (h.1 d),fun z=>absurd d2 z⟩,fun h=>⟨fun _=>this.mpr (h.1 d2),fun z=>absurd d z⟩⟩
    ·have d2:=fun z=>d (k.mpr z)
     exact⟨fun h=>⟨fun z=>absurd z d2,fun _=>h.2 d⟩,fun h=>⟨fun z=>absurd z d,fun _=>h.2 d2⟩⟩) a (sub a ha') b (sub b hb') ⟨fun _=>pa,fun z=>absurd ha' z⟩
  exact this.1 hb'
 have c2:∀P:Nm->Prop,(∀x∈F.filter (both S2),P x.1↔P x.2)->∀a∈S2,∀b∈S2,P a->P b:=fun P hP a ha' b hb' pa=>by
  have :=t.conn (fun x=>(x∈S1->P e.2)/\(x∉S1->P x)) (fun x hx=>by
   by_cases c:x=e
   ·rw[c]
    exact⟨fun h=>⟨fun z=>absurd z hb,fun _=>h.1 ha⟩,fun h=>⟨fun _=>h.2 hb,fun z=>absurd ha z⟩⟩
   ·have k:=cl x hx c
    by_cases d:x.1∈S1
    ·have d2:=k.mp d
     exact⟨fun h=>⟨fun _=>h.1 d,fun z=>absurd d2 z⟩,fun h=>⟨fun _=>h.1 d2,fun z=>absurd d z⟩⟩
    ·have d2:=fun z=>d (k.mpr z)
     have :=hP x (ck.mpr ⟨hx,gd.mpr ⟨(m2 _).mpr ⟨(t.sub x hx).1,d⟩,(m2 _).mpr ⟨(t.sub x hx).2,d2⟩⟩⟩)
     exact⟨fun h=>⟨fun z=>absurd z d2,fun _=>this.mp (h.2 d)⟩,fun h=>⟨fun z=>absurd z d,fun _=>this.mpr (h.2 d2)⟩⟩) a ((m2 a).mp ha').1 b ((m2 b).mp hb').1 ⟨fun z=>absurd z ((m2 a).mp ha').2,fun _=>pa⟩
  exact this.2 ((m2 b).mp hb').2
 have cnt:∀p:Nm×Nm->Bool,F.countP p=(F.filter fun x=>decide (x=e)).countP p+(F.filter (both S1)).countP p+(F.filter (both S2)).countP p:=fun p=>by
  rw[nS,nS,nS];have key:∀x∈F,(x=e/\both S1 x=false/\both S2 x=false)\/(x≠e/\both S1 x=true/\both S2 x=false)\/(x≠e/\both S1 x=false/\both S2 x=true):=fun x hx=>by
   have nb:∀{S:List Nm},¬(x.1∈S/\x.2∈S)->both S x=false:=fun h=>by
    cases c:both _ x with
    |false=>rfl
    |true=>exact absurd (gd.mp c) h
   by_cases c:x=e
   ·refine .inl ⟨c,nb fun z=>?_,nb fun z=>?_⟩
    ·rw[c]at z;exact hb z.2
    ·rw[c]at z;exact((m2 _).mp z.1).2 ha
   ·have k:=cl x hx c
    by_cases d:x.1∈S1
    ·exact .inr (.inl ⟨c,gd.mpr ⟨d,k.mp d⟩,nb fun z=>((m2 _).mp z.1).2 d⟩)
    ·exact .inr (.inr ⟨c,nb fun z=>d z.1,gd.mpr ⟨(m2 _).mpr ⟨(t.sub x hx).1,d⟩,(m2 _).mpr ⟨(t.sub x hx).2,fun z=>d (k.mpr z)⟩⟩⟩)
  clear cl t he lF c1 c2;clear g h2 m2 n2 hb2 hb
  induction F with
  |nil=>rfl
  |cons x F ih=>
   have ih:=ih fun y hy=>key y (aF _ hy);rw[cL,cL,cL,cL,ih];rcases key x au with⟨k1,k2,k3⟩ |⟨k1,k2,k3⟩ |⟨k1,k2,k3⟩
   ·rw[k2,k3]
    simp only[k1,dk,decide_true,gA];simp;omega
   ·rw[k2,k3]
    simp only[k1,dk,decide_false,gA];simp;omega
   ·rw[k2,k3]
    simp only[k1,dk,decide_false,gA];simp;omega
 have l0:=cnt fun _=>true;simp only[List.countP_true]at l0;have l1:=vc n1 c1;have l2:=vc n2 c2;have l3:ws.length=S1.length+S2.length:=by
  have p:ws.Perm (S1++S2):=(iF t.nd (b7.mpr ⟨n1,n2,fun a ha' b hb' z=>((m2 b).mp hb').2 (z▸ha')⟩)).mpr fun v=>by
   rw[ai,m2];exact⟨fun h=>(Classical.em (v∈S1)).imp id fun z=>⟨h,z⟩,fun h=>h.elim (sub v) (·.1)⟩
  rw[p.length_eq,aA]
 have l4:1<=(F.filter fun x=>decide (x=e)).length:=dN.mpr (List.ne_nil_of_mem (ck.mpr ⟨he,decide_eq_true rfl⟩));have l5:=t.len;have le:(F.filter fun x=>decide (x=e)).length=1:=by omega
 have ee:(F.filter fun x=>decide (x=e))=[e]:=by
  obtain⟨x,hx⟩:=xZ.mp le;have :x∈F.filter fun x=>decide (x=e):=by rw[hx];exact au
  have :=of_decide_eq_true (ck.mp this).2
  rw[hx,this]
 refine⟨⟨n1,fun x hx=>gd.mp (ck.mp hx).2,by omega,c1⟩,⟨n2,fun x hx=>gd.mp (ck.mp hx).2,by omega,c2⟩,hb,hb2,fun v=>⟨fun h=>(Classical.em (v∈S1)).imp id fun z=>(m2 v).mpr ⟨h,z⟩,fun h=>h.elim (sub v) fun z=>((m2 v).mp z).1⟩,fun v hv z=>((m2 v).mp z).2 hv,fun T=>?_⟩;have :=cnt fun x=>decide (T x.1≠T x.2);rw[ee]at this;unfold F5.ch;rw[this,cL,List.countP_nil];simp only[decide_eq_true_eq,Nat.zero_add]
noncomputable def IsW(F:List (Nm×Nm))(ws:List Nm)(rd:Nm->Option Int)(n:Nat):Prop:=(∃T,(∀v∈ws,Tells T rd v)/\ch T F=n)/\∀T,(∀v∈ws,Tells T rd v)->n<=ch T F
theorem pS{T T':Nm->Int}{F:List (Nm×Nm)}{S:List Nm}(sub:∀e∈F,e.1∈S/\e.2∈S)(h:∀v∈S,T v=T' v):ch T F=ch T' F:=by
 unfold ch;apply List.countP_congr;intro e he;rw[h _ (sub e he).1,h _ (sub e he).2]
theorem Tells.congr{T T':Nm->Int}{rd rd':Nm->Option Int}{v:Nm}(h:Tells T rd v)(h1:T v=T' v)(h2:rd v=rd' v):Tells T' rd' v:=⟨h1▸h.1,fun x hx=>h1▸h.2 x (h2.trans hx)⟩
theorem Cut.parts{F:List (Nm×Nm)}{ws S1 S2:List Nm}{e:Nm×Nm}(c:Cut F ws e S1 S2){rd r1 r2:Nm->Option Int}{n n1 n2:Nat}(e1:∀v∈S1,r1 v=rd v)(e2:∀v∈S2,r2 v=rd v)(w:IsW F ws rd n)(w1:IsW (F.filter (both S1)) S1 r1 n1)(w2:IsW (F.filter (both S2)) S2 r2 n2):n=n1+n2\/n=n1+n2+1:=by
 have lo:n1+n2<=n:=by
  obtain⟨⟨T,hT,eT⟩,_⟩:=w;have h1:=w1.2 T fun v hv=>(hT v ((c.sp v).mpr (.inl hv))).congr rfl (e1 v hv).symm;have h2:=w2.2 T fun v hv=>(hT v ((c.sp v).mpr (.inr hv))).congr rfl (e2 v hv).symm;have :=c.ch T;omega
 have hi:n<=n1+n2+1:=by
  obtain⟨⟨T1,h1,x1⟩,_⟩:=w1;obtain⟨⟨T2,h2,x2⟩,_⟩:=w2;have y1:∀v∈S1,T1 v=(fun v=>if v∈S1 then T1 v else T2 v) v:=fun v hv=>(if_pos hv).symm;have y2:∀v∈S2,T2 v=(fun v=>if v∈S1 then T1 v else T2 v) v:=fun v hv=>(if_neg fun z=>c.dj v z hv).symm;have :=w.2 (fun v=>if v∈S1 then T1 v else T2 v) fun v hv=>by
   rcases(c.sp v).mp hv with hv|hv
   ·exact(h1 v hv).congr (y1 v hv) (e1 v hv)
   ·exact(h2 v hv).congr (y2 v hv) (e2 v hv)
  rw[c.ch,<-pS c.t1.sub y1,<-pS c.t2.sub y2,x1,x2]at this;have h1:∀(P:Prop)[Decidable P],(if P then 1 else 0:Nat)<=1:=fun P _=>by split <;>decide
  have :=aP this (Ce (Ce (h1 _) _) _)
  omega
 omega
end F5
namespace F5
open PySem R
noncomputable def wa:List Str:=["_law_frame_here","_law_cut","_law_name_here"]
noncomputable def o8:List Str:=["_law_frame_here","_law_cut","_law_name_here","_law_some","_law_before","_law_branch"]
noncomputable def lN:CB:=
  (.cons (.ret (.var 3))
  .nil)
noncomputable def jL:CB:=
  (.cons (.forr (.name 5) (.seq (.var 0))
  (.cons (.iff (.and (.cmp .NotEq (.var 5) (.var 1)) (.cmp .NotEq (.cmp .In (.idx (.var 5) (.con (.int 0))) (.var 3)) (.cmp .In (.idx (.var 5) (.con (.int 1))) (.var 3))))
  (.cons (.asg (.name 3) (.bin .Add (.var 3) (.comp ["_law_one"] [3] (.name 0) (.seq (.var 5)) (.yes (.cmp .NotIn (.var 0) (.var 1))) (.var 0))))
  .nil)
  .nil)
  .nil))
  .nil)
noncomputable def lO:CB:=
  (.cons (.whl (.cmp .Gt (.bfn .len (.cons (.var 3) .nil)) (.var 4))
  (.cons (.asg (.name 4) (.bfn .len (.cons (.var 3) .nil)))
  jL))
  lN)
noncomputable def lP:CB:=
  (.cons (.asg (.name 4) (.con (.int 0)))
  lO)
noncomputable def pW:CB:=
  (.cons (.asg (.name 3) (.lst (.cons (.var 2) .nil)))
  lP)
noncomputable def we:List Str:=["_law_frame_here","_law_marked","_law_names_here"]
noncomputable def pf:List Str:=["_law_frame_here","_law_marked","_law_names_here","_law_some","_law_part","_law_name_here","_law_alone_here"]
noncomputable def iY:CB:=
  (.cons (.ret (.bfn .len (.cons (.idx (.call "fewest" (.cons (.var 3) (.cons (.var 4) (.cons (.var 6) .nil)))) (.con (.int 1))) .nil)))
  .nil)
noncomputable def lV:CB:=
  (.cons (.iff (.cmp .Eq (.var 3) (.lst .nil))
  (.cons (.asg (.name 6) (.idx (.var 2) (.con (.int 0))))
  .nil)
  .nil)
  iY)
noncomputable def iZ:CB:=
  (.cons (.asg (.name 6) (.con .none))
  lV)
noncomputable def lW:CB:=
  (.cons (.forr (.name 5) (.seq (.var 2))
  (.cons (.iff (.x2 .ink (.var 5) (.var 1))
  (.cons (.putk (.var 4) (.var 5) (.x2 .idxk (.var 1) (.var 5)))
  .nil)
  .nil)
  .nil))
  iZ)
noncomputable def lX:CB:=
  (.cons (.asg (.name 4) (.dic .nil))
  lW)
noncomputable def pZ:CB:=
  (.cons (.asgc 3 (.comp ["_law_branch"] [2] (.name 0) (.seq (.var 0)) (.yes (.and (.cmp .In (.idx (.var 0) (.con (.int 0))) (.var 1)) (.cmp .In (.idx (.var 0) (.con (.int 1))) (.var 1)))) (.var 0)))
  lX)
end F5
namespace F5
open PySem PySem.Spec PyProof.Rows L2 R Cp Kc Lt
structure Sd(F:List (Nm×Nm))(e:Nm×Nm)(ws:List Nm)(H H':Hp)(l:Addr)(A:List (Nm×Option Nm)):Prop where
 sm:aU H H'
 nl:H l=none
 hl:H' l=some (.lst ((A.map (·.1)).map V.str))
 g:gh (F.filter fun x=>decide (x≠e)) A
 ha:e.1∈A.map (·.1)
 sub:∀v∈A.map (·.1),v∈ws
theorem Sd.same{F:List (Nm×Nm)}{e:Nm×Nm}{ws:List Nm}{H H1 H2:Hp}{l:Addr}{A:List (Nm×Option Nm)}(d:Sd F e ws H H1 l A)(s:aU H1 H2):Sd F e ws H H2 l A:={d with sm:=d.sm.trans s,hl:=s _ _ d.hl}
theorem Sd.le{F:List (Nm×Nm)}{e:Nm×Nm}{ws:List Nm}{H H1:Hp}{l:Addr}{A:List (Nm×Option Nm)}(d:Sd F e ws H H1 l A):A.length<=ws.length:=by
 have :=dS d.g.nd d.sub
 rw[ae]at this;exact this
noncomputable def spSd:Sp:=fun vs H Q _=>∃(f p:Addr)(ys:List V)(F:List (Nm×Nm))(ws:List Nm)(e:Nm×Nm),vs=[.ref f,.ref p,.str e.1]/\Frm H f ys F/\H p=some (.tup [.str e.1,.str e.2])/\(∀x∈F,x.1∈ws/\x.2∈ws)/\e∈F/\ws.length<=100/\F.length<=100/\
 ∀H' l A,Sd F e ws H H' l A->(∀x∈F,x≠e->(x.1∈A.map (·.1)↔x.2∈A.map (·.1)))->Q (.ref l) H'
theorem pE{K:aa}{H:Hp}{l:Addr}{S:List Nm}{v:Nm}{Q:VK}(hl:H l=some (.lst (S.map V.str)))(q:Q (.bl (decide (v∈S))) H):fu K .In (.str v) (.ref l) H Q:=by
 refine .inr ⟨l,_,rfl,.inl (SqL.of hl),rfl,mL S,?_⟩;show Q (.bl (inV (V.str v) (S.map V.str))) H;rw[iW];exact q
theorem xv{K:aa}{H:Hp}{l:Addr}{S:List Nm}{v:Nm}{Q:VK}(hl:H l=some (.lst (S.map V.str)))(q:Q (.bl (!decide (v∈S))) H):fu K .NotIn (.str v) (.ref l) H Q:=by
 refine .inr ⟨l,_,rfl,.inl (SqL.of hl),rfl,mL S,?_⟩;show Q (.bl (!inV (V.str v) (S.map V.str))) H;rw[iW];exact q
theorem ne_pair{K:aa}{H:Hp}{p p':Addr}{a b c d:Nm}{Q:VK}(h1:H p=some (.tup [.str a,.str b]))(h2:H p'=some (.tup [.str c,.str d]))(q:Q (.bl (!decide ((a,b)=(c,d)))) H):fu K .NotEq (.ref p) (.ref p') H Q:=by
 refine⟨.tup [.str a,.str b],.tup [.str c,.str d],⟨p,_,rfl,SqT.of h1,_,_,rfl,rfl,_,_,rfl,rfl,rfl⟩,⟨p',_,rfl,SqT.of h2,_,_,rfl,rfl,_,_,rfl,rfl,rfl⟩,aP (ar 1) (by decide),?_⟩;have :eqD (.tup [.str a,.str b]) (.tup [.str c,.str d])=decide ((a,b)=(c,d)):=by
  show((a==c)&&((b==d)&&true))=_;rw[gA,gM,aN,beq_iff_eq,beq_iff_eq,decide_eq_true_eq,tW]
 rw[this];exact q
theorem ne_bl{K:aa}{H:Hp}{a b:Bool}{Q:VK}(q:Q (.bl (!(decide (a=b)))) H):fu K .NotEq (.bl a) (.bl b) H Q:=by
 refine⟨.bl a,.bl b,rfl,rfl,aL _,?_⟩;have :eqD (.bl a) (.bl b)=decide (a=b):=by cases a<;>cases b<;>rfl
 rw[this];exact q
theorem wp_sd{G:Gam}{K:aa}:Sat G K spSd pW o8:=by
 rintro vs H Q E ⟨f,p,ys,F,ws,e,rfl,fr,hp,sub,he,l1,l2,q⟩;have hle:=fr.len;unfold pW;change wpB G K _ _ _ [some (.ref f),some (.ref p),some (.str e.1),none,none,none] H;walk_at "wp";refine⟨(by show 1<=sizeLine;decide),fun l nl=>?_⟩;unfold lP;walk_at "wp";unfold lO;walk_at "wp";refine⟨fun m σ H'=>∃(l:Addr)(A:List (Nm×Option Nm))(b:Nat)(u:Option V),m=ws.length+1-b/\σ=[some (.ref f),some (.ref p),some (.str e.1),some (.ref l),some (.int b),u]/\b<=A.length/\Sd F e ws H H' l A/\(A.length=b->∀x∈F,x≠e->(x.1∈A.map (·.1)↔x.2∈A.map (·.1))),
  ⟨_,l,[(e.1,none)],0,none,rfl,rfl,aL _,⟨aB nl,nl,av,.one _,au,fun v hv=>by rw[aq.mp hv];exact(sub e he).1⟩,fun z=>nomatch z⟩,?_⟩
 rintro m σ H2 ⟨l,A,b,u,rfl,rfl,lb,D,cl⟩;have lA:=D.le;walk_at "wp";refine .inl ⟨l,_,rfl,.inl (SqL.of D.hl),nh.mpr ⟨_,rfl,?_⟩⟩;rw[ae,ae];by_cases hb:A.length=b
 ·rw[if_neg (by rw[decide_eq_false (by omega)];decide)]
  unfold lN;walk_at "wp";exact q H2 l A D (cl hb)
 ·rw[if_pos (decide_eq_true (by omega))]
  refine⟨fun σ' H'=>∃m',m'<ws.length+1-b/\∃(l:Addr)(A:List (Nm×Option Nm))(b:Nat)(u:Option V),m'=ws.length+1-b/\σ'=[some (.ref f),some (.ref p),some (.str e.1),some (.ref l),some (.int b),u]/\b<=A.length/\Sd F e ws H H' l A/\(A.length=b->∀x∈F,x≠e->(x.1∈A.map (·.1)↔x.2∈A.map (·.1))),fun _ _ h=>h,?_⟩;refine .inl ⟨l,_,rfl,.inl (SqL.of D.hl),?_⟩;rw[ae,ae];unfold jL;walk_at "wp";refine hU (cU rfl (SqL.of (D.sm _ _ fr.hf)) (fX eI (fun k σ H'=>∃(l:Addr)(A':List (Nm×Option Nm))(u:Option V),σ=[some (.ref f),some (.ref p),some (.str e.1),some (.ref l),some (.int A.length),u]/\Sd F e ws H H' l A'/\A.length<=A'.length/\(A'.length=A.length->∀x∈F.take k,x≠e->(x.1∈A'.map (·.1)↔x.2∈A'.map (·.1))))
   ⟨l,A,_,rfl,D,ar _,fun _ x hx=>nomatch hx⟩ (fun k σ H' _ ⟨_,_,_,_,D,_⟩=>SqL.of (D.sm _ _ fr.hf)) ?_ ?_))
  ·rintro k y σ H3 H4 D2 hk ⟨l',A',u',rfl,D',lA',cl'⟩ hy s4 hD2 _
   obtain⟨c,d,p',hF,rfl,hp'⟩:=fr.at_ hy;have D4:=D'.same s4;have lA4:=D4.le;have hkF:F.take (k+1)=F.take k++[(c,d)]:=by rw[bP,hF];rfl
   have hp4:=D4.sm _ _ hp';have hcd:(c,d)∈F:=bj hF;have j8:((c,d)≠e->(c∈A'.map (·.1)↔d∈A'.map (·.1)))->D2.nx [some (.ref f),some (.ref p),some (.str e.1),some (.ref l'),some (.int A.length),some (.ref p')] H4:=fun h=>hD2 _ _ ⟨l',A',_,rfl,D4,lA',fun z x hx hn=>by
    rw[hkF]at hx;rcases ai.mp hx with hx|hx
    ·exact cl' z x hx hn
    ·cases aq.mp hx
     exact h hn⟩
   have more:∀{v w:Nm},v∈A'.map (·.1)->w∉A'.map (·.1)->(c,d)≠e->((c,d)=(v,w)\/(c,d)=(w,v))->∀(H5:Hp)(r:Addr),aU H4 H5->H4 r=none->H5 r=some (.lst ((A'.map (·.1)).map V.str++[.str w]))->D2.nx [some (.ref f),some (.ref p),some (.str e.1),some (.ref r),some (.int A.length),some (.ref p')] H5:=by
    intro v w hv hw hne hvw H5 r s5 n5 h5;have hF':(c,d)∈F.filter fun x=>decide (x≠e):=ck.mpr ⟨hcd,decide_eq_true hne⟩;have g':gh (F.filter fun x=>decide (x≠e)) (A'++[(w,some v)]):=.more D'.g hv hw (iT.mpr (hvw.imp (fun z:(c,d)=(v,w)=>z▸hF') (fun z:(c,d)=(w,v)=>z▸hF')));have mw:w∈ws:=by
     have :=sub _ hcd
     rcases hvw with z|z
     ·cases z;exact this.2
     ·cases z;exact this.1
    refine hD2 _ _ ⟨r,A'++[(w,some v)],_,rfl,⟨D4.sm.trans s5,D4.sm.free n5,?_,g',?_,fun x hx=>?_⟩,by rw[aA];omega,fun z=>?_⟩
    ·rw[h5,aG,aG]
     rfl
    ·rw[aG]
     exact ai.mpr (.inl D'.ha)
    ·rw[aG]at hx
     rcases ai.mp hx with hx|hx
     ·exact D'.sub x hx
     ·rw[aq.mp hx];exact mw
    ·rw[aA,bJ]at z
     omega
   walk_at "wp"
   refine ne_pair hp4 (D4.sm _ _ hp) ⟨_,rfl,?_⟩;clear hD2;by_cases ce:(c,d)=e
   ·rw[if_neg (by rw[decide_eq_true (show(c,d)=(e.1,e.2)from ce)];decide),if_neg aQ]
    exact j8 fun z=>absurd ce z
   ·rw[if_pos (by rw[decide_eq_false (show ¬(c,d)=(e.1,e.2)from ce)];rfl)]
    refine .inr (.inl ⟨p',_,0,_,rfl,rfl,SqT.of hp4,rfl,pE D4.hl (.inr (.inl ⟨p',_,1,_,rfl,rfl,SqT.of hp4,rfl,pE D4.hl (ne_bl ⟨_,rfl,?_⟩)⟩))⟩);by_cases ci:c∈A'.map (·.1)↔d∈A'.map (·.1)
    ·rw[if_neg (by simp only[decide_eq_decide.mpr ci];simp)]
     exact j8 fun _=>ci
    ·have cd:(decide (c∈A'.map (·.1))=decide (d∈A'.map (·.1)))->False:=fun z=>ci (decide_eq_decide.mp z)
     rw[if_pos (by rw[decide_eq_false cd];rfl)];refine fB (vm rfl (SqT.of hp4) (jW seq_tup (by show 2<=sizeLine;decide) (fun H6 s6=>SqT.of (s6 _ _ hp4)) (fun y=> !inV y ((A'.map (·.1)).map V.str)) (fun y=>y) (fun τ=>∃u,τ=[u,some (.ref l')]) ⟨none,rfl⟩ ?_ ?_))
     ·rintro x τ H6 Rt Rf hx ⟨u,rfl⟩ s6 kt kf
      have hx':∃v,x=V.str v:=by
       rcases aI.mp hx with z|hx
       ·exact⟨c,z⟩
       ·exact⟨d,aq.mp hx⟩
      obtain⟨v,rfl⟩:=hx';rw[iW]at kt kf;walk_at "wp";refine xv (s6 _ _ D4.hl) ⟨_,rfl,?_⟩;by_cases hv:v∈A'.map (·.1)
      ·rw[decide_eq_true hv]at kt kf⊢
       rw[if_neg (by decide)];exact kf _ _ ⟨_,rfl⟩ (aU.refl _) rfl
      ·rw[decide_eq_false hv]at kt kf⊢
       rw[if_pos (by rfl)];exact kt _ _ ⟨_,rfl⟩ (aU.refl _) rfl
     ·intro H6 r s6 n6
      have hin:∀v,inV (V.str v) ((A'.map (·.1)).map V.str)=decide (v∈A'.map (·.1)):=fun v=>iW v _;have fin:∀{w:Nm},(([V.str c,V.str d].filter fun y=> !inV y ((A'.map (·.1)).map V.str)).map fun y=>y)=[.str w]->(∀(H5:Hp)(r:Addr),aU H4 H5->H4 r=none->H5 r=some (.lst ((A'.map (·.1)).map V.str++[.str w]))->D2.nx [some (.ref f),some (.ref p),some (.str e.1),some (.ref r),some (.int A.length),some (.ref p')] H5)->iI K .Add (.ref l') (.ref r) (upd H6 r (.lst (([V.str c,V.str d].filter fun y=> !inV y ((A'.map (·.1)).map V.str)).map fun y=>y))) fun x H1=>D2.nx [some (.ref f),some (.ref p),some (.str e.1),some x,some (.int A.length),some (.ref p')] H1:=by
       intro w hw k;rw[hw];have s7:=s6.trans (aB (o:=.lst [.str w]) n6);refine .inr (.inr (.inl ⟨l',r,_,_,rfl,rfl,s7 _ _ D4.hl,av,fM (by rw[ae,ae];show _+1<=_;omega),fun r2 n2=>?_⟩));exact k _ r2 (s7.trans (aB n2)) (s7.free n2) av
      by_cases hc:c∈A'.map (·.1)
      ·have hd:d∉A'.map (·.1):=fun z=>ci ⟨fun _=>z,fun _=>hc⟩
       refine fin (w:=d) ?_ (more hc hd ce (.inl rfl));rw[dQ,hin,decide_eq_true hc,if_neg (by decide),dQ,hin,decide_eq_false hd,if_pos (by rfl)];rfl
      ·have hd:d∈A'.map (·.1):=gU fun z=>ci ⟨fun y=>absurd y hc,fun y=>absurd y z⟩
       refine fin (w:=c) ?_ (more hd hc ce (.inr rfl));rw[dQ,hin,decide_eq_false hc,if_pos (by rfl),dQ,hin,decide_eq_true hd,if_neg (by decide)];rfl
  ·rintro σ H3 ⟨l',A',u',rfl,D',lA',cl'⟩
   rw[hle,bN]at cl';exact⟨_,by omega,l',A',A.length,_,rfl,rfl,lA',D',cl'⟩
theorem IsW.congr{F:List (Nm×Nm)}{ws:List Nm}{r1 r2:Nm->Option Int}{n:Nat}(w:IsW F ws r1 n)(h:∀v∈ws,r1 v=r2 v):IsW F ws r2 n:=by
 obtain⟨⟨T,h1,h2⟩,h3⟩:=w;exact⟨⟨T,fun v hv=>(h1 v hv).congr rfl (h v hv),h2⟩,fun T hT=>h3 T fun v hv=>(hT v hv).congr rfl (h v hv).symm⟩
theorem Few.sg{F:List (Nm×Nm)}{ws:List Nm}{ms Ts:List (Nm×Int)}{n:Nat}(w:Few F ws ms Ts n):∀v∈ws,Tells (tl Ts) (rdO ms) v:=fun v hv=>by
 obtain⟨q,hq,rfl⟩:=aE.mp ((w.ks v).mpr hv);have e1:=lj w.nd (show(q.1,q.2)∈Ts from hq);exact⟨by rw[e1];exact w.v01 q hq,fun x hx=>lj w.nd (w.ext _ (ft hx))⟩
theorem Few.isW{F:List (Nm×Nm)}{ws:List Nm}{ms Ts:List (Nm×Int)}{n:Nat}(w:Few F ws ms Ts n):IsW F ws (rdO ms) n:=⟨⟨_,w.sg,w.ch⟩,w.few⟩
noncomputable def spMn:Sp:=fun vs H Q _=>∃(f r n:Addr)(ys:List V)(F:List (Nm×Nm))(S:List Nm)(ms:List (Nm×Int)),vs=[.ref f,.ref r,.ref n]/\Frm H f ys F/\H r=some (.dK (kvS (mV ms)))/\H n=some (.lst (S.map V.str))/\Tree (F.filter (both S)) S/\S.length<64/\F.length<=100/\(∀v∈S,eR v=true)/\(ms.map (·.1)).Nodup/\(∀q∈ms,q.2=0\/q.2=1)/\
 ∀H' k,aU H H'->IsW (F.filter (both S)) S (rdO ms) k->Q (.int k) H'
noncomputable def nP(H:Hp)(S:List Nm)(y:V):Bool:=match itm H y 0,itm H y 1 with
 |.str a,.str b=>both S (a,b)
 |_,_=>false
theorem vj{H:Hp}{S:List Nm}{p:Addr}{a b:Nm}(h:H p=some (.tup [.str a,.str b])):nP H S (.ref p)=both S (a,b):=by
 unfold nP;rw[kN h,kN h];rfl
theorem xP{H:Hp}{S:List Nm}:∀{ys:List V}{F:List (Nm×Nm)},Paired (Br H) ys F->Paired (Br H) ((ys.filter (nP H S)).map fun y=>y) (F.filter (both S))
 |_,_,.nil=>.nil
 |y::ys,e::F,.cons ⟨p,h1,h2⟩ t=>by
  have ih:=xP (S:=S) t;subst h1;rw[dQ,dQ,vj h2];cases c:both S (e.1,e.2)with
  |true=>
   rw[if_pos rfl,if_pos rfl,aY];exact .cons ⟨p,rfl,h2⟩ ih
  |false=>
   rw[if_neg aQ,if_neg aQ];exact ih
structure Pt(S:List Nm)(ms ps:List (Nm×Int)):Prop where
 nd:(ps.map (·.1)).Nodup
 sub:∀q∈ps,q∈ms/\q.1∈S
 all:∀q∈ms,q.1∈S->q∈ps
theorem Pt.eq{S:List Nm}{ms ps:List (Nm×Int)}(p:Pt S ms ps)(nm:(ms.map (·.1)).Nodup):∀v∈S,rdO ps v=rdO ms v:=fun v hv=>by
 cases c:rdO ms v with
 |some x=>exact iS p.nd (p.all _ (ft c) hv)
 |none=>
  cases d:rdO ps v with
  |none=>rfl
  |some x=>
   rw[iS nm (p.sub _ (ft d)).1]at c;cases c
theorem mn4{G:Gam}{K:aa}{E:XS}{D:Ends}{Q:VK}(g1:G.fn "fewest" 3=some (vV,[])){H:Hp}{f r n l d:Addr}{zs:List V}{F1:List (Nm×Nm)}{S:List Nm}{ms ps:List (Nm×Int)}{y5:Option V}(fr:Frm H l zs F1)(hn:H n=some (.lst (S.map V.str)))(hd:H d=some (.dK (kvS (mV ps))))(t:Tree F1 S)(l1:S.length<64)(ok:∀v∈S,eR v=true)(nm:(ms.map (·.1)).Nodup)(v01:∀q∈ms,q.2=0\/q.2=1)(p:Pt S ms ps)(hD:D.rt=Q)
  (q:∀H' k,aU H H'->IsW F1 S (rdO ms) k->Q (.int k) H'):wpB G K E iZ D [some (.ref f),some (.ref r),some (.ref n),some (.ref l),some (.ref d),y5,none] H:=by
 unfold iZ;walk_at "wp";have fin:∀(al:V)(H4:Hp),aU H H4->((F1=[]/\∃a,al=.str a/\S=[a])\/(F1≠[]/\al=.non))->wpB G K E iY D [some (.ref f),some (.ref r),some (.ref n),some (.ref l),some (.ref d),y5,some al] H4:=by
  intro al H4 s4 hal;unfold iY;walk_at "wp";refine⟨_,_,g1,l,d,al,zs,F1,S,ps,rfl,⟨fr.same s4,t,l1,ok,hal⟩,s4 _ _ hd,(fun u hu=>⟨(p.sub u hu).2,v01 _ (p.sub u hu).1⟩),p.nd,fun H5 p5 u w Ts wys s5 n5 h5 h6 h7 fw=>?_⟩;refine .inr (.inl ⟨p5,_,1,_,rfl,rfl,SqT.of h5,rfl,.inl ⟨w,_,rfl,.inl (SqL.of h7),?_⟩⟩);rw[hD];exact q _ _ (s4.trans s5) (fw.isW.congr (p.eq nm))
 unfold lV;walk_at "wp";refine⟨aL _,fun b nb=>?_⟩;have s1:aU H (upd H b (.lst [])):=aB nb;have hh:=wG F1;refine⟨.lst (F1.map bD),.lst [],⟨l,_,rfl,SqL.of (s1 _ _ fr.hf),sF (fr.same s1).br⟩,⟨b,_,rfl,SqL.of av,rfl⟩,by show gH (F1.map bD)+1<=30;omega,_,rfl,?_⟩;have len:=t.len;cases F1 with
 |nil=>
  cases S with
  |nil=>cases len
  |cons v S=>
   have :S=[]:=dP.mp (by simpa using len);subst this;rw[if_pos (show eqD (.lst (([]:List (Nm×Nm)).map bD)) (.lst [])=true from rfl)];exact .inl ⟨n,_,0,.str v,rfl,rfl,SqL.of (s1 _ _ hn),(fF (j:=0) (fK ..):atI ([v].map V.str) ((0:Nat):Int)=_),fin _ _ s1 (.inl ⟨rfl,v,rfl,rfl⟩)⟩
 |cons e F1=>
  rw[if_neg (by show ¬jm (bD e::F1.map bD) []=true;exact fun z=>nomatch z)];exact fin _ _ s1 (.inr ⟨(fun z=>nomatch z),rfl⟩)
theorem wp_mn{G:Gam}{K:aa}(g1:G.fn "fewest" 3=some (vV,[])):Sat G K spMn pZ pf:=by
 rintro vs H Q E ⟨f,r,n,ys,F,S,ms,rfl,fr,hr,hn,t,l1,l2,ok,nm,v01,q⟩;have hle:=fr.len;unfold pZ;change wpB G K _ _ _ [some (.ref f),some (.ref r),some (.ref n),none,none,none,none] H;walk_at "wp";refine fB (cU rfl (SqL.of fr.hf) (jW eI (fM (by omega)) (fun H4 s6=>SqL.of (s6 _ _ fr.hf)) (nP H S) (fun y=>y) (fun τ=>∃u,τ=[u,some (.ref n)]) ⟨none,rfl⟩ ?_ ?_))
 ·rintro x τ H3 Rt Rf hx ⟨u,rfl⟩ s3 kt kf
  obtain⟨i,hi,ei⟩:=aR.mp hx;obtain⟨a,b,p,hF,rfl,hp⟩:=fr.at_ (ah hi▸congrArg some ei);rw[vj hp]at kt kf;walk_at "wp";refine .inr (.inl ⟨p,_,0,_,rfl,rfl,SqT.of (s3 _ _ hp),rfl,pE (s3 _ _ hn) ⟨_,rfl,?_⟩⟩);by_cases c1:a∈S
  ·rw[if_pos (decide_eq_true c1)]
   refine .inr (.inl ⟨p,_,1,_,rfl,rfl,SqT.of (s3 _ _ hp),rfl,pE (s3 _ _ hn) ⟨_,rfl,?_⟩⟩);by_cases c2:b∈S
   ·rw[if_pos (decide_eq_true c2)]
    exact kt _ _ ⟨_,rfl⟩ (aU.refl _) (gd.mpr ⟨c1,c2⟩)
   ·rw[if_neg (by rw[decide_eq_false c2];decide)]
    exact kf _ _ ⟨_,rfl⟩ (aU.refl _) (by unfold both;rw[decide_eq_false c2,dk])
  ·rw[if_neg (by rw[decide_eq_false c1];decide)]
   exact kf _ _ ⟨_,rfl⟩ (aU.refl _) (by unfold both;rw[decide_eq_false c1,eG])
 ·intro H2 l s2 hl2
  have s3:=s2.trans (aB (o:=.lst ((ys.filter (nP H S)).map fun y=>y)) hl2);have fr3:Frm (upd H2 l (.lst ((ys.filter (nP H S)).map fun y=>y))) l ((ys.filter (nP H S)).map fun y=>y) (F.filter (both S)):=⟨av,L2.Paired.lG (xP fr.br) fun _ _ ⟨p,e,h⟩=>⟨p,e,s3 _ _ h⟩⟩;generalize upd H2 l (.lst ((ys.filter (nP H S)).map fun y=>y))=H3 at s3 fr3;unfold lX;walk_at "wp";refine .inl ⟨trivial,fun d nd=>?_⟩;have s4:=s3.trans (aB (o:=.dK []) nd);have ndH:H d=none:=s3.free nd;unfold lW;walk_at "wp";refine hU (cU rfl (SqL.of (s4 _ _ hn)) (fX eI (fun k σ H'=>aU H3 H'/\∃ps u,σ=[some (.ref f),some (.ref r),some (.ref n),some (.ref l),some (.ref d),u,none]/\H' d=some (.dK (kvS (mV ps)))/\Pt (S.take k) ms ps)
   ⟨aB nd,[],_,rfl,av,eF,(fun u hu=>nomatch hu),(fun u _ hu=>nomatch hu)⟩ (fun k σ H' _ s=>SqL.of ((s3.trans s.1) _ _ hn)) ?_ ?_))
  ·rintro k x σ H5 H6 D2 hk ⟨s5,ps,u,rfl,hd,p⟩ hx s6 hD2 _
   rw[ae]at hk;rw[aZ,ah hk]at hx;cases hx;have s7:=s5.trans s6;have hr7:=(s3.trans s7) _ _ hr;have et:S.take (k+1)=S.take k++[S[k]]:=by rw[bP,ah hk];rfl
   have new:S[k]∉S.take k:=fun z=>by
    obtain⟨j,hj,ej⟩:=aR.mp z;rw[aW]at hj;rw[ef]at ej;have :=(bY t.nd).mp ej;omega
   have lp:ps.length<=64:=by
    have :=dS p.nd (m:=S) fun v hv=>by obtain⟨u,hu,rfl⟩:=aE.mp hv;exact gC (p.sub u hu).2
    rw[ae]at this;omega
   walk_at "wp"
   refine⟨r,_,rfl,din hr7,?_⟩;cases c:rdO ms S[k]with
   |none=>
    rw[if_neg (fun z=>nomatch z)];refine hD2 _ _ ⟨s7,ps,_,rfl,s6 _ _ hd,p.nd,fun u hu=>⟨(p.sub u hu).1,et▸ai.mpr (.inl (p.sub u hu).2)⟩,fun u hu hk2=>?_⟩;rw[et]at hk2;rcases ai.mp hk2 with z|z
    ·exact p.all u hu z
    ·have z:u.1=S[k]:=aq.mp z
     have :=iS nm (show(u.1,u.2)∈ms from hu)
     rw[z,c]at this;cases this
   |some y=>
    have my:=ft c;rw[if_pos (by rfl)];have nk:S[k]∉ps.map (·.1):=fun z=>by
     obtain⟨u,hu,e⟩:=aE.mp z;exact new (e▸(p.sub u hu).2)
    have hdp:=dput (v:=S[k]) (x:=.int y) (s6 _ _ hd) (by unfold mV;rw[ae];omega) (by rw[iU];exact nk);rw[lH]at hdp;refine⟨r,_,rfl,sZ nm my▸qF S[k] (.inl hr7),d,_,rfl,hdp,?_⟩;refine hD2 _ _ ⟨cZ s7 nd,_,_,rfl,av,?_,fun u hu=>?_,fun u hu hk2=>?_⟩
    ·rw[aG,b7]
     refine⟨p.nd,by simp,fun a ha b hb z=>?_⟩;have hb:b=S[k]:=aq.mp hb;exact nk (hb▸z▸ha)
    ·rcases ai.mp hu with hu|hu
     ·exact⟨(p.sub u hu).1,et▸ai.mpr (.inl (p.sub u hu).2)⟩
     ·cases aq.mp hu
      exact⟨my,et▸ai.mpr (.inr au)⟩
    ·rw[et]at hk2
     rcases ai.mp hk2 with z|z
     ·exact ai.mpr (.inl (p.all u hu z))
     ·have z:u.1=S[k]:=aq.mp z
      refine ai.mpr (.inr (aq.mpr ?_));have :=oB nm (show(S[k],u.2)∈ms from z▸(show(u.1,u.2)∈ms from hu)) my;rw[<-z,<-this]
  ·rintro σ H5 ⟨s5,ps,u,rfl,hd,p⟩
   rw[ae,bN]at p;exact mn4 g1 (fr3.same s5) ((s3.trans s5) _ _ hn) hd t l1 ok nm v01 p rfl fun H' k s' w=>q H' k ((s3.trans s5).trans s') w
end F5
namespace F5
open PySem R
noncomputable def p_law:List Str:=["_law_script"]
noncomputable def Bk:List Str:=["_law_script","_law_form","_law_names_here","_law_frame_here","_law_marked","_law_told","_law_ways","_law_many_here","_law_k","_law_number","_law_cut","_law_first","_law_other","_law_apart","_law_near","_law_more"]
noncomputable def xH:CB:=
  (.cons (.ret (.con (.bool true)))
  .nil)
noncomputable def kU:CB:=
  (.cons (.iff (.cmp .Lt (.bfn .len (.cons (.idx (.call "fewest" (.cons (.var 3) (.cons (.var 15) .nil))) (.con (.int 1))) .nil)) (.var 7))
  (.cons (.ret (.con (.bool false)))
  .nil)
  .nil)
  .nil)
noncomputable def p0:CB:=
  (.cons (.putk (.var 15) (.var 14) (.get2 (.var 4) (.var 14) (.bin .Mod (.var 8) (.con (.int 2)))))
  kU)
noncomputable def kW:CB:=
  (.cons (.asg (.name 15) (.bfn .dictc (.cons (.var 4) .nil)))
  p0)
noncomputable def kX:CB:=
  (.cons (.iff (.cmp .NotEq (.bfn .len (.cons (.idx (.call "fewest" (.cons (.bin .Add (.lst (.cons (.tup (.cons (.con (.str "newname")) (.cons (.var 14) .nil))) .nil)) (.var 3)) (.cons (.var 15) .nil))) (.con (.int 1))) .nil)) (.var 7))
  (.cons (.ret (.con (.bool false)))
  .nil)
  .nil)
  kW)
noncomputable def p7:CB:=
  (.cons (.iff (.cmp .Eq (.bin .Mod (.var 8) (.con (.int 2))) (.con (.int 1)))
  (.cons (.putk (.var 15) (.con (.str "newname")) (.x2 .idxk (.var 5) (.var 14)))
  .nil)
  .nil)
  kX)
noncomputable def mS:CB:=
  (.cons (.asg (.name 15) (.bfn .dictc (.cons (.var 4) .nil)))
  p7)
noncomputable def mT:CB:=
  (.cons (.asg (.name 14) (.idx (.var 2) (.bin .Mod (.bin .FloorDiv (.var 9) (.con (.int 64))) (.bfn .len (.cons (.var 2) .nil)))))
  mS)
noncomputable def rM:CB:=
  (.cons (.iff (.or (.cmp .In (.idx (.var 10) (.con (.int 1))) (.var 11)) (.not (.or (.cmp .Eq (.var 7) (.var 13)) (.cmp .Eq (.var 7) (.bin .Add (.var 13) (.con (.int 1)))))))
  (.cons (.ret (.con (.bool false)))
  .nil)
  .nil)
  mT)
noncomputable def rN:CB:=
  (.cons (.asg (.name 13) (.bin .Add (.call "_law_many" (.cons (.var 3) (.cons (.var 4) (.cons (.var 11) .nil)))) (.call "_law_many" (.cons (.var 3) (.cons (.var 4) (.cons (.var 12) .nil))))))
  rM)
noncomputable def mU:CB:=
  (.cons (.asgc 12 (.comp ["_law_name_here"] [11] (.name 0) (.seq (.var 2)) (.yes (.cmp .NotIn (.var 0) (.var 1))) (.var 0)))
  rN)
noncomputable def rO:CB:=
  (.cons (.asg (.name 11) (.call "_law_side" (.cons (.var 3) (.cons (.var 10) (.cons (.idx (.var 10) (.con (.int 0))) .nil)))))
  mU)
noncomputable def rP:CB:=
  (.cons (.asg (.name 10) (.idx (.var 3) (.bin .Mod (.var 9) (.bfn .len (.cons (.var 3) .nil)))))
  rO)
noncomputable def rQ:CB:=
  (.cons (.asg (.name 9) (.bin .Add (.var 9) (.divb (.var 9) (.bin .Pow (.con (.int 10)) (.con (.int 20))))))
  rP)
noncomputable def tH:CB:=
  (.cons (.forr (.name 8) (.range1 (.bfn .min (.cons (.con (.int 10)) (.cons (.bfn .len (.cons (.var 3) .nil)) .nil))))
  (.cons (.asg (.name 9) (.call "_law_drawn" (.cons (.var 0) (.cons (.var 8) .nil))))
  rQ))
  xH)
noncomputable def xI:CB:=
  (.cons (.asg (.name 7) (.bfn .len (.cons (.var 6) .nil)))
  tH)
noncomputable def xJ:CB:=
  (.cons (.asg (.tup (.cons (.name 5) (.cons (.name 6) .nil))) (.call "fewest" (.cons (.var 3) (.cons (.var 4) .nil))))
  xI)
noncomputable def xK:CB:=
  (.cons (.iff (.cmp .Eq (.var 3) (.lst .nil))
  (.cons (.ret (.cmp .Eq (.idx (.call "fewest" (.cons (.lst .nil) (.cons (.var 4) (.cons (.idx (.var 2) (.con (.int 0))) .nil)))) (.con (.int 1))) (.lst .nil)))
  .nil)
  .nil)
  xJ)
noncomputable def xM:CB:=
  (.cons (.asg (.name 4) (.call "_law_read" (.cons (.var 0) (.cons (.var 2) (.cons (.var 1) .nil)))))
  xK)
noncomputable def xN:CB:=
  (.cons (.asg (.name 3) (.call "_law_frame" (.cons (.var 0) (.cons (.var 1) (.cons (.con (.int 40)) .nil)))))
  xM)
noncomputable def xO:CB:=
  (.cons (.asg (.name 2) (.call "_law_names" (.cons (.var 0) (.cons (.var 1) (.cons (.con (.int 40)) .nil)))))
  xN)
noncomputable def BX:CB:=
  (.cons (.asg (.name 1) (.call "_law_cell_at" (.cons (.var 0) (.cons (.con (.int 0)) .nil))))
  xO)
end F5
namespace F5
open PySem PySem.Spec PyProof.Rows L2 R Cp Kc Lt
noncomputable def nn:Str:="newname"
theorem nn_ok:eR nn=true:=by decide+kernel
theorem nn_new(c k:Int):fnm c k≠nn:=fun z=>by
 have e:fsg c k=[110,101,119,110,97,109,101]:=by
  have e1:(fnm c k).cps.toList=nn.cps.toList:=by rw[z]
  rw[show nn.cps.toList=[110,101,119,110,97,109,101] by decide+kernel]at e1;exact e1
 have h1:0<=c%4:=bX _ (by decide);have h2:c%4<4:=cM _ (by decide);have l:=congrArg gE e;unfold fsg at e l;have l2:([122,122,122].take (c/4%4).toNat).length<=3:=by rw[aW];exact eU ..
 have h:(c%4).toNat=0\/(c%4).toNat=1\/(c%4).toNat=2\/(c%4).toNat=3:=by omega
 rcases h with h|h|h|h
 ·rw[h]at l
  simp only[aA,bg,dw,List.take_zero]at l;omega
 ·rw[h]at e
  injection e with e _;cases e
 ·rw[h]at e
  injection e with e _;cases e
 ·rw[h]at e
  injection e with e _;cases e
theorem leaf{F:List (Nm×Nm)}{ws:List Nm}{ms Ts:List (Nm×Int)}{N n':Nat}{near:Nm}{rd':Nm->Option Int}(t:Tree F ws)(w:Few F ws ms Ts N)(hn:near∈ws)(new:nn∉ws)(w':IsW ((nn,near)::F) (ws++[nn]) rd' n')(e:∀v∈ws,rd' v=rdO ms v)(h:rd' nn=none\/rd' nn=some (tl Ts near)):n'=N:=by
 have hne:∀v∈ws,v≠nn:=fun v hv z=>new (z▸hv);have hi:n'<=N:=by
  have y:∀v∈ws,tl Ts v=(fun v=>if v=nn then tl Ts near else tl Ts v) v:=fun v hv=>(if_neg (hne v hv)).symm;have :=w'.2 (fun v=>if v=nn then tl Ts near else tl Ts v) fun v hv=>by
   rcases ai.mp hv with hv|hv
   ·exact(w.sg v hv).congr (y v hv) (e v hv).symm
   ·have hv:v=nn:=aq.mp hv
    subst hv;refine⟨by dsimp only;rw[if_pos rfl];exact(w.sg near hn).1,fun x hx=>?_⟩;dsimp only;rw[if_pos rfl];rcases h with h|h
    ·rw[h]at hx;cases hx
    ·rw[h]at hx;cases hx;rfl
  have e2:ch (fun v=>if v=nn then tl Ts near else tl Ts v) ((nn,near)::F)=ch (tl Ts) F:=by
   rw[pS t.sub y];unfold ch;rw[cL];have z:(fun v=>if v=nn then tl Ts near else tl Ts v) nn=(fun v=>if v=nn then tl Ts near else tl Ts v) near:=by
    dsimp only;rw[if_pos rfl,if_neg (hne near hn)]
   rw[if_neg (by simpa using z)];rfl
  rw[e2,w.ch]at this;exact this
 have lo:N<=n':=by
  obtain⟨⟨T,h1,h2⟩,_⟩:=w';have h3:=w.few T fun v hv=>(h1 v (ai.mpr (.inl hv))).congr rfl (e v hv);have :ch T F<=ch T ((nn,near)::F):=by
   unfold ch;rw[cL];omega
  omega
 omega
structure G55(G:Gam)(K:aa):Prop where
 g0:G.fn "_law_cell_at" 2=some (vW K,[])
 g1:G.fn "_law_names" 3=some (spNs K,[])
 g2:G.fn "_law_frame" 3=some (spFr K,[])
 g3:G.fn "_law_read" 3=some (spRd K,[])
 g4:G.fn "_law_drawn" 2=some (Ae K,[])
 g5:G.fn "fewest" 3=some (vV,[])
 g6:G.fn "fewest" 2=some (vV,[.non])
 g7:G.fn "_law_side" 3=some (spSd,[])
 g8:G.fn "_law_many" 3=some (spMn,[])
structure Dv(K:aa)(H:Hp)(s n f r tt:Addr)(ns:List Int)(ws:List Nm)(ys:List V)(F:List (Nm×Nm))(ms Ts:List (Nm×Int))(N:Nat):Prop where
 hs:SqL K H s (ns.map V.int)
 hn:H n=some (.lst (ws.map V.str))
 g:Good H f .non ys F ws
 hr:H r=some (.dK (kvS (mV ms)))
 hm:∀q∈ms,q.1∈ws/\(q.2=0\/q.2=1)
 nm:(ms.map (·.1)).Nodup
 ht:H tt=some (.dK (kvS (mV Ts)))
 fw:Few F ws ms Ts N
 new:nn∉ws
 l40:ws.length<=40
 lns:ws.length<=ns.length
 hF:F≠[]
theorem Dv.same{K:aa}{H H':Hp}{s n f r tt:Addr}{ns:List Int}{ws:List Nm}{ys:List V}{F:List (Nm×Nm)}{ms Ts:List (Nm×Int)}{N:Nat}(d:Dv K H s n f r tt ns ws ys F ms Ts N)(e:aU H H'):Dv K H' s n f r tt ns ws ys F ms Ts N:={d with hs:=e.seq d.hs,hn:=e _ _ d.hn,g:=d.g.grow (.of e),hr:=e _ _ d.hr,ht:=e _ _ d.ht}
section
variable {G:Gam}{K:aa}{E:XS}{D D2:Ends}{Q:VK}{H:Hp}{s n f r tt:Addr}{ns:List Int}{ws:List Nm}{ys:List V}{F:List (Nm×Nm)}{ms Ts:List (Nm×Int)}{N:Nat}{c:Int}{y6 y8 y9 y10 y11 y12 y13 y14 y15:Option V}
theorem lw14(g:G55 G K){k:Nat}{near:Nm}(d:Dv K H s n f r tt ns ws ys F ms Ts N)(hn:near∈ws)(hD:∀H' y15,aU H H'->D2.nx [some (.ref s),some (.int c),some (.ref n),some (.ref f),some (.ref r),some (.ref tt),y6,some (.int N),some (.int k),y9,y10,y11,y12,y13,some (.str near),y15] H'):
  wpB G K E kW D2 [some (.ref s),some (.int c),some (.ref n),some (.ref f),some (.ref r),some (.ref tt),y6,some (.int N),some (.int k),y9,y10,y11,y12,y13,some (.str near),y15] H:=by
 have hle:=d.g.le;unfold kW;walk_at "wp";refine⟨r,_,rfl,.inl d.hr,fun m hm=>?_⟩;have s1:aU H (upd H m (.dK (kvS (mV ms)))):=aB hm;have fin:∀ms':List (Nm×Int),(∀q∈ms,q∈ms')->(∀q∈ms',q.1∈ws/\(q.2=0\/q.2=1))->(ms'.map (·.1)).Nodup->wpB G K E kU D2 [some (.ref s),some (.int c),some (.ref n),some (.ref f),some (.ref r),some (.ref tt),y6,some (.int N),some (.int k),y9,y10,y11,y12,y13,some (.str near),some (.ref m)] (upd H m (.dK (kvS (mV ms')))):=by
  intro ms' h1 h2 h3;have s2:aU H (upd H m (.dK (kvS (mV ms')))):=aB hm;unfold kU;walk_at "wp";refine⟨_,_,g.g6,f,m,.non,ys,F,ws,ms',rfl,d.g.grow (.of s2),av,h2,h3,fun H5 p u w Ts' wys s5 n5 h5 h6 h7 fw=>?_⟩;refine .inr (.inl ⟨p,_,1,_,rfl,rfl,SqT.of h5,rfl,.inl ⟨w,_,rfl,.inl (SqL.of h7),Bs.mpr ⟨_,rfl,?_⟩⟩⟩);have :=d.fw.few (tl Ts') fun v hv=>⟨(fw.sg v hv).1,fun x hx=>lj fw.nd (fw.ext _ (h1 _ (ft hx)))⟩;rw[fw.ch]at this;rw[if_neg (by rw[decide_eq_false (by omega)];decide)];exact hD _ _ (s2.trans s5)
 unfold p0;walk_at "wp";refine⟨r,rfl,.inl ⟨_,.inl (s1 _ _ d.hr)⟩,by decide,_,din (s1 _ _ d.hr),m,?_⟩;have lm:ms.length<=63:=by
  have :=dS d.nm (m:=ws) fun v hv=>by obtain⟨q,hq,rfl⟩:=aE.mp hv;exact(d.hm q hq).1
  have :=d.l40
  rw[ae]at *;omega
 cases cx:rdO ms near with
 |some x=>
  have hx:=ft cx;have e1:rplI ms near x=ms:=by
   unfold rplI;have :∀q∈ms,(if q.1=near then(q.1,x)else q)=id q:=fun q hq=>by
    by_cases z:q.1=near
    ·rw[if_pos z]
     have :=oB d.nm (show(near,q.2)∈ms from z▸(show(q.1,q.2)∈ms from hq)) hx
     rw[<-this];rfl
    ·rw[if_neg z];rfl
   rw[dJ this,List.map_id]
  have hdp:=BK (v:=near) (x:=.int x) (av (H:=H) (a:=m) (o:=.dK (kvS (mV ms)))) (by unfold mV;rw[ae];omega) (by rw[iU];exact aE.mpr ⟨_,hx,rfl⟩);rw[rpl_mV,e1,sd]at hdp;exact⟨_,rfl,hdp,fin ms (fun _ h=>h) d.hm d.nm⟩
 |none=>
  have nk:near∉ms.map (·.1):=fun z=>by
   obtain⟨q,hq,e⟩:=aE.mp z;have :=iS d.nm (show(q.1,q.2)∈ms from hq);rw[show q.1=near from e,cx]at this;cases this
  have hdp:=dput (v:=near) (x:=.int ((k:Int)%2)) (av (H:=H) (a:=m) (o:=.dK (kvS (mV ms)))) (by unfold mV;rw[ae];omega) (by rw[iU];exact nk);rw[lH,sd]at hdp;refine⟨_,rfl,hdp,fin _ (fun q hq=>ai.mpr (.inl hq)) (fun q hq=>?_) ?_⟩
  ·rcases ai.mp hq with hq|hq
   ·exact d.hm q hq
   ·cases aq.mp hq
    exact⟨hn,show(k:Int)%2=0\/(k:Int)%2=1 by omega⟩
  ·rw[aG,b7]
   refine⟨d.nm,by simp,fun a ha b hb z=>?_⟩;have hb:b=near:=aq.mp hb;exact nk (hb▸z▸ha)
theorem lw9(g:G55 G K){k:Nat}{near:Nm}(d:Dv K H s n f r tt ns ws ys F ms Ts N)(hn:near∈ws)(hD:∀H' y15,aU H H'->D2.nx [some (.ref s),some (.int c),some (.ref n),some (.ref f),some (.ref r),some (.ref tt),y6,some (.int N),some (.int k),y9,y10,y11,y12,y13,some (.str near),y15] H'):
  wpB G K E mS D2 [some (.ref s),some (.int c),some (.ref n),some (.ref f),some (.ref r),some (.ref tt),y6,some (.int N),some (.int k),y9,y10,y11,y12,y13,some (.str near),y15] H:=by
 have hle:=d.g.le;have l40:=d.l40;unfold mS;walk_at "wp";refine⟨r,_,rfl,.inl d.hr,fun m hm=>?_⟩;have fin:∀ms':List (Nm×Int),(∀v∈ws,rdO ms' v=rdO ms v)->(∀q∈ms',q.1∈ws++[nn]/\(q.2=0\/q.2=1))->(ms'.map (·.1)).Nodup->(rdO ms' nn=none\/rdO ms' nn=some (tl Ts near))->wpB G K E kX D2 [some (.ref s),some (.int c),some (.ref n),some (.ref f),some (.ref r),some (.ref tt),y6,some (.int N),some (.int k),y9,y10,y11,y12,y13,some (.str near),some (.ref m)] (upd H m (.dK (kvS (mV ms')))):=by
  intro ms' h1 h2 h3 h4;have s2:aU H (upd H m (.dK (kvS (mV ms')))):=aB hm;have hm2:upd H m (.dK (kvS (mV ms'))) m=some (.dK (kvS (mV ms'))):=av;generalize upd H m (.dK (kvS (mV ms')))=H2 at s2 hm2;unfold kX;walk_at "wp";refine⟨_,_,g.g6,(by show 2<=sizeLine;decide),fun p hp=>⟨(by show 1<=sizeLine;decide),fun p1 h1'=>?_⟩⟩;have s3:=(aB (o:=.tup [.str nn,.str near]) hp).trans (aB (o:=.lst [.ref p]) h1');have hl:=d.g.fr.len;refine .inr (.inr (.inl ⟨p1,f,_,_,rfl,rfl,av,(s2.trans s3) _ _ d.g.fr.hf,fM (by show 1+_<=_;omega),fun p2 h2'=>?_⟩));have s4:=s3.trans (aB (o:=.lst ([.ref p]++ys)) h2');have s5:=s2.trans s4;have g2:Good (upd (upd (upd H2 p (.tup [.str nn,.str near])) p1 (.lst [.ref p])) p2 (.lst ([.ref p]++ys))) p2 .non (.ref p::ys) ((nn,near)::F) (ws++[nn]):=by
   refine⟨⟨av,.cons ⟨p,rfl,aB h2' _ _ (aB h1' _ _ av)⟩ (d.g.fr.same s5).br⟩,d.g.t.put d.new hn (.inl rfl) (d8 _),by rw[aA,bJ];omega,fun v hv=>?_,.inr ⟨(fun z=>nomatch z),rfl⟩⟩;rcases ai.mp hv with hv|hv
   ·exact d.g.nm v hv
   ·rw[aq.mp hv];exact nn_ok
  refine⟨p2,m,.non,_,_,_,ms',rfl,g2,s4 _ _ hm2,h2,h3,fun H6 p6 u w Ts' wys s6 n6 h6 h7 h8 fw=>?_⟩;refine .inr (.inl ⟨p6,_,1,_,rfl,rfl,SqT.of h6,rfl,.inl ⟨w,_,rfl,.inl (SqL.of h8),Bj.mpr ⟨_,rfl,?_⟩⟩⟩);have :=leaf d.g.t d.fw hn d.new fw.isW h1 h4;rw[if_neg (by rw[decide_eq_true (by omega)];decide)];exact lw14 g (d.same (s5.trans s6)) hn fun H' y15 s'=>hD H' y15 ((s5.trans s6).trans s')
 unfold p7;walk_at "wp";have nnms:nn∉ms.map (·.1):=fun z=>by
  obtain⟨q,hq,e⟩:=aE.mp z;exact d.new (e▸(d.hm q hq).1)
 have rn:rdO ms nn=none:=by
  cases cx:rdO ms nn with
  |none=>rfl
  |some x=>exact absurd (aE.mpr ⟨_,ft cx,rfl⟩) nnms
 have up:∀q∈ms,q.1∈ws++[nn]/\(q.2=0\/q.2=1):=fun q hq=>⟨ai.mpr (.inl (d.hm q hq).1),(d.hm q hq).2⟩;refine⟨by decide,?_⟩;split
 ·obtain⟨x,x01,gx,ex⟩:=Tld.get (ms:=ms) ⟨rfl,d.fw.v01,d.fw.ext⟩ d.fw.nd ((d.fw.ks near).mpr hn) d.ht
  have lm:ms.length<=63:=by
   have :=dS d.nm (m:=ws) fun v hv=>by obtain⟨q,hq,rfl⟩:=aE.mp hv;exact(d.hm q hq).1
   rw[ae]at this;omega
  have hdp:=dput (v:=nn) (x:=.int x) (av (H:=H) (a:=m) (o:=.dK (kvS (mV ms)))) (by unfold mV;rw[ae];omega) (by rw[iU];exact nnms);rw[lH,sd]at hdp;have nd2:((ms++[(nn,x)]).map (·.1)).Nodup:=by
   rw[aG,b7];refine⟨d.nm,by simp,fun a ha b hb z=>?_⟩;have hb:b=nn:=aq.mp hb;exact nnms (hb▸z▸ha)
  refine⟨tt,_,rfl,?_,m,_,rfl,hdp,fin _ (fun v hv=>?_) (fun q hq=>?_) nd2 (.inr ?_)⟩
  ·obtain⟨x',_,gx',ex'⟩:=Tld.get (ms:=ms) ⟨rfl,d.fw.v01,d.fw.ext⟩ d.fw.nd ((d.fw.ks near).mpr hn) (aB (o:=.dK (kvS (mV ms))) hm _ _ d.ht)
   have :x'=x:=ex'.symm.trans ex;exact this▸gx'
  ·cases cx:rdO ms v with
   |some y=>exact iS nd2 (ai.mpr (.inl (ft cx)))
   |none=>
    cases cy:rdO (ms++[(nn,x)]) v with
    |none=>rfl
    |some y=>
     rcases ai.mp (ft cy)with z|z
     ·rw[iS d.nm z]at cx
      cases cx
     ·have z:v=nn:=congrArg Prod.fst (aq.mp z)
      exact absurd (z▸hv) d.new
  ·rcases ai.mp hq with hq|hq
   ·exact up q hq
   ·cases aq.mp hq
    exact⟨ai.mpr (.inr au),x01⟩
  ·rw[ex]
   exact iS nd2 (ai.mpr (.inr au))
 ·exact fin ms (fun _ _=>rfl) up d.nm (.inl rn)
theorem lw5(g:G55 G K){k:Nat}{num:Int}{l p:Addr}{e:Nm×Nm}{A:List (Nm×Option Nm)}(d:Dv K H s n f r tt ns ws ys F ms Ts N)(he:e∈F)(hp:H p=some (.tup [.str e.1,.str e.2]))(H0:Hp)(S:Sd F e ws H0 H l A)(cl:∀x∈F,x≠e->(x.1∈A.map (·.1)↔x.2∈A.map (·.1)))(hD:∀H' σ,aU H H'->(∃y9 y10 y11 y12 y13 y14 y15,σ=[some (.ref s),some (.int c),some (.ref n),some (.ref f),some (.ref r),some (.ref tt),y6,some (.int N),some (.int k),y9,y10,y11,y12,y13,y14,y15])->D2.nx σ H'):
  wpB G K E mU D2 [some (.ref s),some (.int c),some (.ref n),some (.ref f),some (.ref r),some (.ref tt),y6,some (.int N),some (.int k),some (.int num),some (.ref p),some (.ref l),y12,y13,y14,y15] H:=by
 have hle:=d.g.le;have l40:=d.l40;have ct:=cut_of d.g.t he S.g rfl S.ha S.sub cl rfl;have lA:=S.le;unfold mU;walk_at "wp";refine fB (cU rfl (SqL.of d.hn) (jW eI (fM (by rw[ae];omega)) (fun H4 s6=>SqL.of (s6 _ _ d.hn)) (fun y=> !inV y ((A.map (·.1)).map V.str)) (fun y=>y) (fun τ=>∃u,τ=[u,some (.ref l)]) ⟨none,rfl⟩ ?_ ?_))
 ·rintro x τ H6 Rt Rf hx ⟨u,rfl⟩ s6 kt kf
  obtain⟨v,_,rfl⟩:=aE.mp hx;rw[iW]at kt kf;walk_at "wp";refine xv (s6 _ _ S.hl) ⟨_,rfl,?_⟩;by_cases hv:v∈A.map (·.1)
  ·rw[decide_eq_true hv]at kt kf⊢
   rw[if_neg (by decide)];exact kf _ _ ⟨_,rfl⟩ (aU.refl _) rfl
  ·rw[decide_eq_false hv]at kt kf⊢
   rw[if_pos (by rfl)];exact kt _ _ ⟨_,rfl⟩ (aU.refl _) rfl
 ·intro H2 l2 s2 n2
  have e2:(((ws.map V.str).filter fun y=> !inV y ((A.map (·.1)).map V.str)).map fun y=>y)=(ws.filter fun v=>decide (v∉A.map (·.1))).map V.str:=by
   rw[List.map_id',List.filter_map];congr 1;apply List.filter_congr;intro v _;show(!inV (V.str v) ((A.map (·.1)).map V.str))=_;rw[iW,decide_not]
  rw[e2];generalize hS2:(ws.filter fun v=>decide (v∉A.map (·.1)))=S2 at ct;have s3:=s2.trans (aB (o:=.lst (S2.map V.str)) n2);have h3:upd H2 l2 (.lst (S2.map V.str)) l2=some (.lst (S2.map V.str)):=av;generalize upd H2 l2 (.lst (S2.map V.str))=H3 at s3 h3;have d3:=d.same s3;have l2':S2.length<64:=by
   have :=dS ct.t2.nd (m:=ws) fun v hv=>(ct.sp v).mpr (.inr hv)
   omega
  unfold rN;walk_at "wp";refine⟨_,_,g.g8,f,r,l,ys,F,A.map (·.1),ms,rfl,d3.g.fr,d3.hr,s3 _ _ S.hl,ct.t1,by rw[ae];omega,by omega,(fun v hv=>d.g.nm v (S.sub v hv)),d.nm,(fun q hq=>(d.hm q hq).2),fun H4 k1 s4 w1=>?_⟩;have d4:=d3.same s4;refine⟨_,_,g.g8,f,r,l2,ys,F,S2,ms,rfl,d4.g.fr,d4.hr,s4 _ _ h3,ct.t2,l2',by omega,(fun v hv=>d.g.nm v ((ct.sp v).mpr (.inr hv))),d.nm,(fun q hq=>(d.hm q hq).2),fun H5 k2 s5 w2=>tM.mpr ?_⟩;have pt:=ct.parts (fun _ _=>rfl) (fun _ _=>rfl) d.fw.isW w1 w2;have s6:=(s3.trans s4).trans s5;have d5:=d.same s6;unfold rM;walk_at "wp";refine .inr (.inl ⟨p,_,1,_,rfl,rfl,SqT.of (s6 _ _ hp),rfl,pE (s6 _ _ S.hl) ⟨_,rfl,?_⟩⟩);rw[if_neg (by rw[decide_eq_false ct.b];decide)];have last:wpB G K E mT D2 [some (.ref s),some (.int c),some (.ref n),some (.ref f),some (.ref r),some (.ref tt),y6,some (.int N),some (.int k),some (.int num),some (.ref p),some (.ref l),some (.ref l2),some (.int ((k1:Int)+k2)),y14,y15] H5:=by
   have w0:0<ws.length:=by have :=d.g.t.len;omega
   unfold mT;walk_at "wp";refine⟨⟨by decide,by decide⟩,.inl ⟨n,_,rfl,.inl (SqL.of d5.hn),kJ.mpr ⟨by rw[ae];omega,?_⟩⟩⟩;rw[ae];have h0:=bX (num/64) (show(ws.length:Int)≠0 by omega);have h1:=cM (num/64) (show(0:Int)<(ws.length:Int) by omega);obtain⟨j,hj⟩:=fO h0;rw[hj]at h1⊢;have hj2:j<ws.length:=by omega
   refine .inl ⟨n,_,_,_,rfl,rfl,SqL.of d5.hn,fF (by rw[aZ,ah hj2];rfl),?_⟩;exact lw9 g d5 (cK hj2) fun H' y15 s'=>hD H' _ (s6.trans s') ⟨_,_,_,_,_,_,_,rfl⟩
  by_cases c1:(N:Int)=(k1:Int)+k2
  ·rw[if_pos (decide_eq_true c1),if_neg (by decide)]
   exact last
  ·rw[if_neg (by simpa using c1),if_neg (by rw[decide_eq_true (show(N:Int)=(k1:Int)+k2+1 by omega)];decide)]
   exact last
theorem lw8(g:G55 G K)(d:Dv K H s n f r tt ns ws ys F ms Ts N)(hD:D.rt=Q)(q:∀H',Q (.bl true) H'):
  wpB G K E tH D [some (.ref s),some (.int c),some (.ref n),some (.ref f),some (.ref r),some (.ref tt),y6,some (.int N),none,none,none,none,none,none,none,none] H:=by
 have hle:=d.g.le;have hl:=d.g.fr.len;have tl':=d.g.t.len;have f0:0<F.length:=dN.mpr d.hF;unfold tH;walk_at "wp";refine hU ?_;walk_at "wp";refine .inl ⟨f,_,rfl,.inl (SqL.of d.g.fr.hf),10,_,rfl,((min 10 ys.length:Nat):Int),?_,by omega,by omega,?_⟩
 ·congr 2
  split <;>omega
 rw[cE];refine fX jP (fun i σ H'=>aU H H'/\∃y8 y9 y10 y11 y12 y13 y14 y15,σ=[some (.ref s),some (.int c),some (.ref n),some (.ref f),some (.ref r),some (.ref tt),y6,some (.int N),y8,y9,y10,y11,y12,y13,y14,y15])
  ⟨aU.refl H,_,_,_,_,_,_,_,_,rfl⟩ (fun _ _ _ _ _=>trivial) ?_ ?_
 ·rintro i x σ H1 H2 D2 hi ⟨s1,y8,y9,y10,y11,y12,y13,y14,y15,rfl⟩ rfl s2 hD2 _
  have d2:=d.same (s1.trans s2);have lns:=d.lns;rw[zw];walk_at "wp";refine⟨_,_,g.g4,s,ns,i,rfl,d2.hs,by omega,by omega,fun num=>?_⟩;unfold rQ;walk_at "wp";refine⟨⟨by decide,by decide,by decide⟩,_,_,rfl,rfl,⟨by decide+kernel,by decide+kernel⟩,tM.mpr ?_⟩;generalize num+num/10^Int.toNat 20=num2;unfold rP;walk_at "wp";refine .inl ⟨f,_,rfl,.inl (SqL.of d2.g.fr.hf),kJ.mpr ⟨by omega,?_⟩⟩;have h0:=bX num2 (show(ys.length:Int)≠0 by omega);have h1:=cM num2 (show(0:Int)<(ys.length:Int) by omega);obtain⟨j,hj⟩:=fO h0;rw[hj]at h1⊢;have hj2:j<ys.length:=by omega
  obtain⟨a,b,p,hF,ey,hp⟩:=d2.g.fr.at_ (ah hj2);refine .inl ⟨f,_,_,.ref p,rfl,rfl,SqL.of d2.g.fr.hf,fF (by rw[ah hj2,ey]),?_⟩;unfold rO;walk_at "wp";have l40:=d.l40;refine⟨_,_,g.g7,.inr (.inl ⟨p,_,0,_,rfl,rfl,SqT.of hp,rfl,?_⟩)⟩;refine⟨f,p,ys,F,ws,(a,b),rfl,d2.g.fr,hp,d.g.t.sub,bj hF,by omega,by omega,fun H3 l A S cl=>?_⟩;exact lw5 g (d2.same S.sm) (bj hF) (S.sm _ _ hp) _ S cl fun H' σ s' ⟨_,_,_,_,_,_,_,e⟩=>hD2 _ _ ⟨(s1.trans s2).trans (S.sm.trans s'),_,_,_,_,_,_,_,_,e⟩
 ·rintro σ H1 ⟨s1,y8,y9,y10,y11,y12,y13,y14,y15,rfl⟩
  unfold xH;walk_at "wp";rw[hD];exact q _
end
noncomputable def so(K:aa):Sp:=fun vs H Q _=>∃(a:Addr)(ns:List Int),vs=[.ref a]/\SqL K H a (ns.map V.int)/\ns.length<=63/\∀H',Q (.bl true) H'
theorem zK{G:Gam}{K:aa}(g:G55 G K):Sat G K (so K) BX Bk:=by
 rintro vs H Q E ⟨s,ns,rfl,hs,_,q⟩;unfold BX;change wpB G K _ _ _ [some (.ref s),none,none,none,none,none,none,none,none,none,none,none,none,none,none,none] H;walk_at "wp";refine⟨_,_,g.g0,s,ns,0,rfl,hs,?_⟩;unfold xO;walk_at "wp";refine⟨_,_,g.g1,s,ns,_,rfl,hs,fun H1 n s1 n1 h1=>?_⟩;unfold xN;walk_at "wp";refine⟨_,_,g.g2,s,ns,_,rfl,s1.seq hs,fun H2 f ys F s2 n2 fr t=>?_⟩;unfold xM;walk_at "wp";have s12:=s1.trans s2;have hl:(nms (ns.getD 0 0) (max 1 (min ns.length 40))).length=max 1 (min ns.length 40):=by unfold nms;rw[ae,dz]
 generalize hws:nms (ns.getD 0 0) (max 1 (min ns.length 40))=ws at h1 t hl;refine⟨_,_,g.g3,s,n,ns,ws,rfl,s12.seq hs,s2 _ _ h1,t.nd,hl,fun H3 r ms s3 n3 h3 hm nm=>?_⟩;have hn3:=s3 _ _ (s2 _ _ h1);have s13:=s12.trans s3;have ok:∀u∈ws,eR u=true:=fun u hu=>by
  rw[<-hws]at hu;obtain⟨j,_,rfl⟩:=aE.mp hu;exact fnm_ok ..
 have new:nn∉ws:=fun hu=>by
  rw[<-hws]at hu;obtain⟨j,_,e⟩:=aE.mp hu;exact nn_new _ _ e
 have len:=t.len;unfold xK;walk_at "wp";refine⟨aL _,fun b nb=>?_⟩;have s4:aU H3 (upd H3 b (.lst [])):=aB nb;have hh:=wG F;have fr4:=fr.same (s3.trans s4);refine⟨.lst (F.map bD),.lst [],⟨f,_,rfl,SqL.of fr4.hf,sF fr4.br⟩,⟨b,_,rfl,SqL.of av,rfl⟩,by show gH (F.map bD)+1<=30;omega,_,rfl,?_⟩;generalize upd H3 b (.lst [])=H4 at s4 fr4;cases F with
 |nil=>
  rw[if_pos (show eqD (.lst (([]:List (Nm×Nm)).map bD)) (.lst [])=true from rfl)];have ew:∃v,ws=[v]:=by
   rw[dw,Nat.zero_add]at len;exact xZ.mp len
  obtain⟨v,ev⟩:=ew;refine⟨_,_,g.g5,aL _,fun p hp=>?_⟩;have s5:aU H4 (upd H4 p (.lst [])):=aB hp;refine .inl ⟨n,_,0,.str v,rfl,rfl,SqL.of (s5 _ _ (s4 _ _ hn3)),?_,?_⟩
  ·rw[ev]
   exact(fF (j:=0) (fK ..):atI ([v].map V.str) ((0:Nat):Int)=_)
  have g5:Good (upd H4 p (.lst [])) p (.str v) [] [] ws:=⟨⟨av,.nil⟩,t,(by rw[ev];show 1<64;decide),ok,.inl ⟨rfl,v,rfl,ev⟩⟩;refine⟨p,r,.str v,[],[],ws,ms,rfl,g5,s5 _ _ (s4 _ _ h3),hm,nm,fun H6 p6 u w Ts wys s6 n6 h6 h7 h8 fw=>?_⟩;refine .inr (.inl ⟨p6,_,1,_,rfl,rfl,SqT.of h6,rfl,aL _,fun b2 nb2=>?_⟩);have e0:wys=[]:=dP.mp fw.ch.symm;subst e0;exact⟨.lst [],.lst [],⟨w,_,rfl,SqL.of (aB nb2 _ _ h8),rfl⟩,⟨b2,_,rfl,SqL.of av,rfl⟩,by decide,q _⟩
 |cons e F=>
  rw[if_neg (by show ¬jm (bD e::F.map bD) []=true;exact fun z=>nomatch z)];have hle:(e::F).length+1=max 1 (min ns.length 40):=by omega
  rw[bg]at hle;have g4:Good H4 f .non ys (e::F) ws:=⟨fr4,t,by omega,ok,.inr ⟨(fun z=>nomatch z),rfl⟩⟩;unfold xJ;walk_at "wp";refine⟨_,_,g.g6,f,r,.non,ys,_,ws,ms,rfl,g4,s4 _ _ h3,hm,nm,fun H5 p u w Ts wys s5 n5 h5 h6 h7 fw=>?_⟩;refine⟨p,_,rfl,SqT.of h5,rfl,_,_,rfl,_,_,rfl,rfl,?_⟩;unfold xI;walk_at "wp";refine .inl ⟨w,_,rfl,.inl (SqL.of h7),?_⟩;exact lw8 g ⟨((s13.trans s4).trans s5).seq hs,s5 _ _ (s4 _ _ hn3),g4.grow (.of s5),s5 _ _ (s4 _ _ h3),hm,nm,h6,fw,new,by omega,by omega,(fun z=>nomatch z)⟩ rfl q
end F5
namespace Lm
open PySem PySem.Spec PySem.W PyProof.Rows L2 Q
noncomputable def BM(mg:Str->Option Value)(h:Heap):Prop:=∃bm ob,mg "__builtins__"=some (.ref bm)/\bm≠jr/\bm≠bL/\h.get? bm=some ob/\ob.cls=.type "module"/\ob.dict=some jr/\ob.data=.plain
end Lm
namespace Lm
open PySem PySem.Spec PySem.W PyProof.Rows L2 Q R
noncomputable def gI(K:aa)(tabs:List Addr)(a:Addr)(vs:List Value)(ns:List Int):Hp:=fun b=>
 if b∈tabs then some (.tbl #[])else if b=a/\K.lookup a=none then some (.frz {cls:=.type "list",data:=.seq vs.toArray} (.lst (ns.map V.int)))else none
theorem yL{P:Program}{w:World}{K:aa}{mg mb:Str->Option Value}{CX:CXT}{k:Nat}{fa a:Addr}{fd:fj}{x:Str}{sp:Sp}{s₁:Shared}{vs:List Value}{ns:List Int}{tabs:List Addr}(KX:K.In s₁.heap)
  (hns:s₁.heap.Ns bL mg)(hb:s₁.heap.Ns jr mb)(hbb:∀x:Str,x≠"__name__"->mb x=cW x)(hlim:s₁.heap.NoLimit)(hg:s₁.gens= #[])(ha:s₁.heap.get? a=some {cls:=.type "list",data:=.seq vs.toArray})
  (hi:IntsAre vs ns) (hl:ns.length<=sizeLine) (hr:iC k xW) (hT:∀p∈tabs,s₁.heap.get? p=some (tabObj #[])/\isCodeTable s₁.heap p/\K.lookup p=none)
  (F:∀base:Heap,K.In base->base.Ns bL mg->(∀b o,s₁.heap.get? b=some o->o.cls≠.none->o.cls≠.type "list"->base.get? b=some o)->gP P w K mg base CX k fa fd [x] sp)
  (hbind:∀(s:Shared)(u:Value),BindsTo s fd ⟨[u],[]⟩ [(x,u)])
  (hsp:∀H:Hp,(∀p∈tabs,H p=some (.tbl #[]))->SqL K H a (ns.map V.int)->sp [.ref a] H (fun v _=>v=.bl true) fun _ _ _=>False) (hCX:∀H e s',CX [] H s₁ (fun _ _ _=>False) e s'->False):
  i3 (model P w) xW (.call (.ref fa) ⟨[.ref a],[]⟩) (fun r s'=>r=.ok (.ret (.bool true))/\OldK s₁.heap s'.heap/\s'.os=s₁.os/\j7 s'.gens) s₁:=by
 have rv:=qQ hi;have lenV:=hi.length;have cases3:∀b,(b∈tabs/\gI K tabs a vs ns b=some (.tbl #[]))\/(b=a/\K.lookup a=none/\gI K tabs a vs ns b=some (.frz {cls:=.type "list",data:=.seq vs.toArray} (.lst (ns.map V.int))))\/gI K tabs a vs ns b=none:=fun b=>by
  unfold gI;by_cases h1:b∈tabs
  ·exact .inl ⟨h1,if_pos h1⟩
  ·rw[if_neg h1]
   by_cases h2:b=a/\K.lookup a=none
   ·exact .inr (.inl ⟨h2.1,h2.2,if_pos h2⟩)
   ·exact .inr (.inr (if_neg h2))
 have tabH:∀p∈tabs,gI K tabs a vs ns p=some (.tbl #[]):=fun p hp=>if_pos hp;have haT:a∉tabs:=fun z=>by
  have :=(hT a z).1
  rw[ha]at this;cases this
 --what is neither a table nor a list is not tracked
 have untr:∀{b:Addr}{o:Obj},s₁.heap.get? b=some o->o.cls≠.none\/(∃es ep,o.data=.dict es ep)->o.cls≠.type "list"\/(∃es ep,o.data=.dict es ep)->gI K tabs a vs ns b=none:=fun{b o} e h1 h2=>by
  rcases cases3 b with⟨q,_⟩ |⟨rfl,_⟩ |q
  ·have :=(hT b q).1
   rw[e]at this;cases this;rcases h1 with z|⟨_,_,z⟩
   ·exact absurd rfl z
   ·cases z
  ·rw[ha]at e;cases e
   rcases h2 with z|⟨_,_,z⟩
   ·exact absurd rfl z
   ·cases z
  ·exact q
 have nsK:∀{b:Addr}{m:Str->Option Value},s₁.heap.Ns b m->(uZ s₁.heap (gI K tabs a vs ns)).Ns b m:=fun{b m} ⟨o,es,ep,e,d,r⟩=>⟨o,es,ep,pF e (untr e (.inr ⟨_,_,d⟩) (.inr ⟨_,_,d⟩)),d,r⟩;have hKb:K.In (uZ s₁.heap (gI K tabs a vs ns)):=fun b o e=>pF (KX b o e) (by
  rcases cases3 b with⟨q,_⟩ |⟨rfl,z,_⟩ |q
  ·rw[(hT b q).2.2]at e;cases e
  ·rw[z]at e;cases e
  ·exact q)
 have hok:HOk P w (gI K tabs a vs ns) s₁.heap:=fun b o e=>by
  rcases cases3 b with⟨q,z⟩ |⟨rfl,_,z⟩ |z
  ·rw[z]at e;cases e
   exact(hT b q).1
  ·rw[z]at e;cases e
   exact⟨ha,by rw[ae];exact hl,vs,_,rv,ha⟩
  ·rw[z]at e;cases e
 have hS:SqL K (gI K tabs a vs ns) a (ns.map V.int):=by
  cases hk:K.lookup a with
  |none=>
   refine .inl (.inr ⟨{cls:=.type "list",data:=.seq vs.toArray},?_⟩);unfold gI;rw[if_neg haT,if_pos ⟨rfl,hk⟩]
  |some o=>
   have e:=KX a o hk;rw[ha]at e;cases e;exact .inr ⟨_,vs.toArray,_,hk,rfl,rfl,rfl,by rw[ax,lenV];exact hl,by simpa using rv⟩
 have hM:Mod K mg (uZ s₁.heap (gI K tabs a vs ns)):=⟨hKb,nsK hns,⟨mb,nsK hb,hbb⟩,let⟨mc,h1,h2⟩:=hlim;⟨mc,nsK h1,h2⟩⟩;have e0:Env0 P w K mg (uZ s₁.heap (gI K tabs a vs ns)) xW [] s₁ (gI K tabs a vs ns):=⟨rfl,hM,fun b o e=>of_hidT e,Nat.le_of_eq (yQ _ _),trivial,fun b hb=>absurd (show b∈([]:List Addr)from hb) (by simp),hok,.of_eq hg⟩;have f0:=F _ hKb (nsK hns) fun b o e h1 h2=>pF e (untr e (.inl h1) (.inl h2));refine i0 (f0.run xW [] s₁ (gI K tabs a vs ns) ⟨[.ref a],[]⟩ [.ref a] [.ref a] _ _ hr e0 (hbind s₁ (.ref a)) (.cons rfl .nil) (hsp _ tabH hS)) fun r s' h=>?_;cases r with
 |error e=>exact(hCX _ e s' h).elim
 |ok fl=>
  cases fl with
  |next =>exact iD h
  |brk=>exact iD h
  |cont=>exact iD h
  |ret u=>
   obtain⟨v,H',os,bare,un,hok',r',q⟩:=h;have q':v=.bl true:=q;subst q';obtain rfl:u=tU true:=r';have kept:∀b o,s₁.heap.get? b=some o->b∉tabs->s'.heap.get? b=some o:=fun b o e nt=>by
    rcases cases3 b with⟨z,_⟩ |⟨rfl,_,z⟩ |z
    ·exact absurd z nt
    ·have z2:=un.frzs b _ _ z
     obtain⟨e2,_⟩:=hok' b _ z2;rw[ha]at e;cases e;exact e2
    ·exact un.keep b o e z (by intro z;exact absurd (show b∈([]:List Addr)from z) (by simp)) (by simp)
   have grown:∀b∈tabs,∃more,s'.heap.get? b=some (tabObj (#[]++more)):=fun b hb=>by
    obtain⟨more,z⟩:=un.tbls b _ (tabH b hb);exact⟨more,hok' b _ z⟩
   refine⟨rfl,⟨fun b o e=>?_,fun b o e=>?_⟩,os,bare⟩
   ·by_cases hb:b∈tabs
    ·obtain⟨e1,ct,_⟩:=hT b hb
     rw[e]at e1;cases e1;obtain⟨more,z⟩:=grown b hb;exact .inr (.inl ⟨ct,rfl,#[],more,rfl,z⟩)
    ·exact .inl (kept b o e hb)
   ·by_cases hb:b∈tabs
    ·obtain⟨more,z⟩:=grown b hb
     exact⟨_,z⟩
    ·exact⟨o,kept b o e hb⟩
theorem bm_of{mg:Str->Option Value}{h:Heap}(hg:h.Ns bL mg)(hb:∃bm ob,mg "__builtins__"=some (.ref bm)/\bm≠jr/\h.get? bm=some ob/\ob.cls=.type "module"/\ob.dict=some jr/\ob.data=.plain):BM mg h:=by
 obtain⟨bm,ob,b1,b2,b3,b4,b5,b6⟩:=hb;refine⟨bm,ob,b1,b2,fun q=>?_,b3,b4,b5,b6⟩;obtain⟨o,es,ep,e,hd,_⟩:=hg;rw[q,e]at b3;cases b3;rw[hd]at b6;cases b6
theorem zM{l:PySem.W.OpenLaw}{n k:Nat}{q:Program}{loose:List Str}{XP:(Str->Option Value)->Heap->Prop}{YP:World->Heap->Prop}{d:DefRec}{K:Params->aa}{CX:CXT}{sp:aa->Sp}{x:Str}{tabs:List Addr}
  (hn:l.most=some n)(hn2:n<=sizeLine)(hdf:d.params.defaults=[])(hr:iC k xW)(hY:∀(w:World)(h:Heap),YP w h->(K w.params).In h)
  (hT:∀(w:World)(s₀:Shared)(mg mb:Str->Option Value)(h:Heap),Ground q loose [] XP w s₀ mg mb h->YP w h->∀p∈tabs,h.get? p=some (tabObj #[])/\isCodeTable h p/\(K w.params).lookup p=none)
  (F:∀(w:World)(mg:Str->Option Value)(fa:Addr)(h:Heap),(K w.params).In h->h.Ns bL mg->mg d.name=some (.ref fa)->
   ∃fd:fj,(∀(s:Shared)(u:Value),BindsTo s fd ⟨[u],[]⟩ [(x,u)])/\
    ∀base:Heap,(K w.params).In base->base.Ns bL mg->BM mg base->gP l.prog w (K w.params) mg base CX k fa fd [x] (sp (K w.params)))
  (hsp:∀(K:aa)(H:Hp)(a:Addr)(ns:List Int),ns.length<=n->(∀p∈tabs,H p=some (.tbl #[]))->SqL K H a (ns.map V.int)->sp K [.ref a] H (fun v _=>v=.bl true) fun _ _ _=>False)
  (hCX:∀(H:Hp)(s:Shared)(e:Value)(s':Shared),CX [] H s (fun _ _ _=>False) e s'->False):
  PySem.W.WalkO q loose XP YP l.row.toRowW d [] (fun f vs=>PySem.call f vs):=by
 refine Att.vk hn hdf fun w s₀ s₁ mg mb fa o pm cd doc a vs ns G Y ho hd hcd hmg hobj hints hlen hg=>?_;have KX:=hY w _ Y;obtain⟨fd,hb,hF⟩:=F w mg fa _ KX G.T.g hmg;have hbm:=bm_of G.T.g G.T.bmain;refine yL KX G.T.g G.T.b G.T.builtins G.T.nolimit hg hobj hints (aP hlen hn2) hr (hT w s₀ mg mb _ G Y) (fun base k1 k2 k3=>hF base k1 k2 ?_) hb (fun H t S=>hsp _ H a ns hlen t S) fun H e s'=>hCX H s₁ e s';obtain⟨bm,ob,b1,b2,b0,b3,b4,b5,b6⟩:=hbm;exact⟨bm,ob,b1,b2,b0,k3 bm ob b3 (by rw[b4];nofun) (by rw[b4];decide),b4,b5,b6⟩
end Lm
set_option maxHeartbeats 0
namespace K55
open PySem PySem.Spec PySem.Calls PyProof.Rows L2 R Cp Lt Lm
noncomputable def u0(P:PySem.Params):aa:=
 (nat_lit 2,⟨.none,none,(.dict #[] 0),#[]⟩)::
 (nat_lit 3,⟨.type "dict",none,(.dict #[⟨ay P "__name__",.str "__name__" 165,.str "law_copykin_k55_whole_by_parts" 372⟩,⟨ay P "__doc__",.str "__doc__" 166,.none⟩,⟨ay P "__package__",.str "__package__" 167,.none⟩,⟨ay P "__loader__",.str "__loader__" 168,.builtin "__main__.__loader__#opaque"⟩,⟨ay P "__spec__",.str "__spec__" 169,.none⟩,⟨ay P "__annotations__",.str "__annotations__" 170,.ref 6⟩,⟨ay P "__builtins__",.str "__builtins__" 171,.ref 4⟩,⟨ay P "__file__",.str "__file__" 173,.str "/claim/cut.py" 172⟩,⟨ay P "__cached__",.str "__cached__" 174,.none⟩,⟨ay P "KinError",.str "KinError" 206,.ref 24⟩,⟨ay P "NoFrame",.str "NoFrame" 222,.ref 37⟩,⟨ay P "LETTERS",.str "LETTERS" 226,.str "abcdefghijklmnopqrstuvwxyz" 225⟩,⟨ay P "LONGEST_NAME",.str "LONGEST_NAME" 228,.int 8 227⟩,⟨ay P "is_whole",.str "is_whole" 235,.ref 46⟩,⟨ay P "is_name",.str "is_name" 241,.ref 51⟩,⟨ay P "is_reading",.str "is_reading" 248,.ref 58⟩,⟨ay P "neighbours",.str "neighbours" 262,.ref 65⟩,⟨ay P "reached",.str "reached" 274,.ref 72⟩,⟨ay P "leads_one_way",.str "leads_one_way" 282,.ref 79⟩,⟨ay P "MOST_BRANCHES",.str "MOST_BRANCHES" 286,.int 80 285⟩,⟨ay P "is_pair",.str "is_pair" 293,.ref 86⟩,⟨ay P "names_of",.str "names_of" 299,.ref 91⟩,⟨ay P "is_frame",.str "is_frame" 305,.ref 96⟩,⟨ay P "frame_list",.str "frame_list" 313,.ref 104⟩,⟨ay P "is_read",.str "is_read" 321,.ref 109⟩,⟨ay P "begun_at",.str "begun_at" 327,.ref 114⟩,⟨ay P "joined",.str "joined" 333,.ref 119⟩,⟨ay P "left_over",.str "left_over" 342,.ref 126⟩,⟨ay P "climbed",.str "climbed" 348,.ref 131⟩,⟨ay P "settled",.str "settled" 359,.ref 138⟩,⟨ay P "fewest",.str "fewest" 371,.ref 146⟩,⟨ay P "_law_cell_at",.str "_law_cell_at" 381,.ref 153⟩,⟨ay P "_law_drawn",.str "_law_drawn" 389,.ref 160⟩,⟨ay P "_law_name",.str "_law_name" 400,.ref 167⟩,⟨ay P "_law_above",.str "_law_above" 409,.ref 174⟩,⟨ay P "_law_frame",.str "_law_frame" 423,.ref 181⟩,⟨ay P "_law_names",.str "_law_names" 429,.ref 186⟩,⟨ay P "_law_alone",.str "_law_alone" 437,.ref 193⟩,⟨ay P "_law_read",.str "_law_read" 450,.ref 200⟩,⟨ay P "_law_side",.str "_law_side" 456,.ref 205⟩,⟨ay P "_law_many",.str "_law_many" 462,.ref 210⟩,⟨ay P "law",.str "law" 468,.ref 215⟩] 42),#[]⟩)::
 (nat_lit 23,⟨.type "dict",none,(.dict #[⟨ay P "__module__",.str "__module__" 196,.str "copykin.errors" 187⟩,⟨ay P "__firstlineno__",.str "__firstlineno__" 200,.int 2 199⟩,⟨ay P "__static_attributes__",.str "__static_attributes__" 201,.ref 22⟩,⟨ay P "__weakref__",.str "__weakref__" 203,.ref 25⟩,⟨ay P "__doc__",.str "__doc__" 204,.none⟩] 3),#[]⟩)::
 (nat_lit 24,⟨.type "type",none,(.cls {name:="KinError",bases:=[.type "ValueError"],mro:=[.ref 24,.type "ValueError",.type "Exception",.type "BaseException",.type "object"],ns:=23,qualname:="KinError",hasDict:=true,slotNames:=[],subclasses:=[.ref 37],abstract:=false,collection:=none,hasDel:=false}),#[(some (.ref 15)),none,(some (.str "KinError" 189)),(some (.str "KinError" 197)),(some (.builtin "ValueError.__new__")),(some (.bool true))]⟩)::
 (nat_lit 36,⟨.type "dict",none,(.dict #[⟨ay P "__module__",.str "__module__" 214,.str "copykin.errors" 187⟩,⟨ay P "__firstlineno__",.str "__firstlineno__" 218,.int 4 217⟩,⟨ay P "__static_attributes__",.str "__static_attributes__" 219,.ref 35⟩,⟨ay P "__doc__",.str "__doc__" 220,.none⟩] 2),#[]⟩)::
 (nat_lit 37,⟨.type "type",none,(.cls {name:="NoFrame",bases:=[.ref 24],mro:=[.ref 37,.ref 24,.type "ValueError",.type "Exception",.type "BaseException",.type "object"],ns:=36,qualname:="NoFrame",hasDict:=true,slotNames:=[],subclasses:=[],abstract:=false,collection:=none,hasDel:=false}),#[(some (.ref 28)),none,(some (.str "NoFrame" 207)),(some (.str "NoFrame" 215)),(some (.builtin "ValueError.__new__")),(some (.bool true))]⟩)::
 (nat_lit 45,⟨.type "code",none,(.fields #[.str "is_whole" 229,.str "is_whole" 230,.str "/claim/cut.py" 231,.int 9 0,.int 1 0,.int 0 0,.int 0 0,.int 3 0,.ref 40,.bool true,.int 181 0,.ref 41,.none,.ref 42,.ref 43,.ref 44,.int 233 0,.int 9 0,.str "/claim/cut.py" 234]),#[]⟩)::
 (nat_lit 46,⟨.type "function",none,(.func (aJ "is_whole" "is_whole" (bB (top 6)) (bp (top 6)) (aO (top 6)) .none .none .none (.str "copykin.tables" 223) none (.ref 45) .none)),#[]⟩)::
 (nat_lit 50,⟨.type "code",none,(.fields #[.str "is_name" 236,.str "is_name" 237,.str "/claim/cut.py" 238,.int 11 0,.int 1 0,.int 0 0,.int 0 0,.int 3 0,.ref 47,.bool true,.int 181 0,.ref 48,.none,.none,.none,.ref 49,.int 239 0,.int 11 0,.str "/claim/cut.py" 240]),#[]⟩)::
 (nat_lit 51,⟨.type "function",none,(.func (aJ "is_name" "is_name" (bB (top 7)) (bp (top 7)) (aO (top 7)) .none .none .none (.str "copykin.tables" 223) none (.ref 50) .none)),#[]⟩)::
 (nat_lit 57,⟨.type "code",none,(.fields #[.str "is_reading" 242,.str "is_reading" 243,.str "/claim/cut.py" 244,.int 17 0,.int 1 0,.int 0 0,.int 0 0,.int 3 0,.ref 52,.bool true,.int 181 0,.ref 53,.none,.ref 54,.ref 55,.ref 56,.int 246 0,.int 17 0,.str "/claim/cut.py" 247]),#[]⟩)::
 (nat_lit 58,⟨.type "function",none,(.func (aJ "is_reading" "is_reading" (bB (top 8)) (bp (top 8)) (aO (top 8)) .none .none .none (.str "copykin.tables" 223) none (.ref 57) .none)),#[]⟩)::
 (nat_lit 64,⟨.type "code",none,(.fields #[.str "neighbours" 251,.str "neighbours" 252,.str "/claim/cut.py" 253,.int 20 0,.int 2 0,.int 0 0,.int 0 0,.int 3 0,.ref 59,.bool true,.int 181 0,.ref 60,.none,.ref 61,.ref 62,.ref 63,.int 260 0,.int 20 0,.str "/claim/cut.py" 261]),#[]⟩)::
 (nat_lit 65,⟨.type "function",none,(.func (aJ "neighbours" "neighbours" (bB (top 10)) (bp (top 10)) (aO (top 10)) .none .none .none (.str "copykin.ways" 249) none (.ref 64) .none)),#[]⟩)::
 (nat_lit 71,⟨.type "code",none,(.fields #[.str "reached" 263,.str "reached" 264,.str "/claim/cut.py" 265,.int 28 0,.int 1 0,.int 0 0,.int 0 0,.int 3 0,.ref 66,.bool true,.int 181 0,.ref 67,.none,.ref 68,.ref 69,.ref 70,.int 272 0,.int 28 0,.str "/claim/cut.py" 273]),#[]⟩)::
 (nat_lit 72,⟨.type "function",none,(.func (aJ "reached" "reached" (bB (top 11)) (bp (top 11)) (aO (top 11)) .none .none .none (.str "copykin.ways" 249) none (.ref 71) .none)),#[]⟩)::
 (nat_lit 78,⟨.type "code",none,(.fields #[.str "leads_one_way" 275,.str "leads_one_way" 276,.str "/claim/cut.py" 277,.int 39 0,.int 2 0,.int 0 0,.int 0 0,.int 3 0,.ref 73,.bool true,.int 181 0,.ref 74,.none,.ref 75,.ref 76,.ref 77,.int 280 0,.int 39 0,.str "/claim/cut.py" 281]),#[]⟩)::
 (nat_lit 79,⟨.type "function",none,(.func (aJ "leads_one_way" "leads_one_way" (bB (top 12)) (bp (top 12)) (aO (top 12)) .none .none .none (.str "copykin.ways" 249) none (.ref 78) .none)),#[]⟩)::
 (nat_lit 85,⟨.type "code",none,(.fields #[.str "is_pair" 287,.str "is_pair" 288,.str "/claim/cut.py" 289,.int 45 0,.int 1 0,.int 0 0,.int 0 0,.int 3 0,.ref 80,.bool true,.int 181 0,.ref 81,.none,.ref 82,.ref 83,.ref 84,.int 291 0,.int 45 0,.str "/claim/cut.py" 292]),#[]⟩)::
 (nat_lit 86,⟨.type "function",none,(.func (aJ "is_pair" "is_pair" (bB (top 15)) (bp (top 15)) (aO (top 15)) .none .none .none (.str "copykin.frames" 283) none (.ref 85) .none)),#[]⟩)::
 (nat_lit 90,⟨.type "code",none,(.fields #[.str "names_of" 294,.str "names_of" 295,.str "/claim/cut.py" 296,.int 49 0,.int 1 0,.int 0 0,.int 0 0,.int 3 0,.ref 87,.bool true,.int 181 0,.ref 88,.none,.none,.none,.ref 89,.int 297 0,.int 49 0,.str "/claim/cut.py" 298]),#[]⟩)::
 (nat_lit 91,⟨.type "function",none,(.func (aJ "names_of" "names_of" (bB (top 16)) (bp (top 16)) (aO (top 16)) .none .none .none (.str "copykin.frames" 283) none (.ref 90) .none)),#[]⟩)::
 (nat_lit 95,⟨.type "code",none,(.fields #[.str "is_frame" 300,.str "is_frame" 301,.str "/claim/cut.py" 302,.int 51 0,.int 2 0,.int 0 0,.int 0 0,.int 3 0,.ref 92,.bool true,.int 181 0,.ref 93,.none,.none,.none,.ref 94,.int 303 0,.int 51 0,.str "/claim/cut.py" 304]),#[]⟩)::
 (nat_lit 96,⟨.type "function",none,(.func (aJ "is_frame" "is_frame" (bB (top 17)) (bp (top 17)) (aO (top 17)) .none .none .none (.str "copykin.frames" 283) none (.ref 95) .none)),#[]⟩)::
 (nat_lit 97,⟨.type "tuple",none,(.seq #[.none] 0),#[]⟩)::
 (nat_lit 103,⟨.type "code",none,(.fields #[.str "frame_list" 306,.str "frame_list" 307,.str "/claim/cut.py" 308,.int 59 0,.int 2 0,.int 0 0,.int 0 0,.int 3 0,.ref 98,.bool true,.int 181 0,.ref 99,.none,.ref 100,.ref 101,.ref 102,.int 311 0,.int 59 0,.str "/claim/cut.py" 312]),#[]⟩)::
 (nat_lit 104,⟨.type "function",none,(.func (aJ "frame_list" "frame_list" (bB (top 18)) (bp (top 18)) (aO (top 18)) (.ref 97) .none .none (.str "copykin.frames" 283) none (.ref 103) .none)),#[]⟩)::
 (nat_lit 108,⟨.type "code",none,(.fields #[.str "is_read" 316,.str "is_read" 317,.str "/claim/cut.py" 318,.int 64 0,.int 2 0,.int 0 0,.int 0 0,.int 3 0,.ref 105,.bool true,.int 181 0,.ref 106,.none,.none,.none,.ref 107,.int 319 0,.int 64 0,.str "/claim/cut.py" 320]),#[]⟩)::
 (nat_lit 109,⟨.type "function",none,(.func (aJ "is_read" "is_read" (bB (top 20)) (bp (top 20)) (aO (top 20)) .none .none .none (.str "copykin.changes" 314) none (.ref 108) .none)),#[]⟩)::
 (nat_lit 113,⟨.type "code",none,(.fields #[.str "begun_at" 322,.str "begun_at" 323,.str "/claim/cut.py" 324,.int 68 0,.int 2 0,.int 0 0,.int 0 0,.int 3 0,.ref 110,.bool true,.int 181 0,.ref 111,.none,.none,.none,.ref 112,.int 325 0,.int 68 0,.str "/claim/cut.py" 326]),#[]⟩)::
 (nat_lit 114,⟨.type "function",none,(.func (aJ "begun_at" "begun_at" (bB (top 21)) (bp (top 21)) (aO (top 21)) .none .none .none (.str "copykin.changes" 314) none (.ref 113) .none)),#[]⟩)::
 (nat_lit 118,⟨.type "code",none,(.fields #[.str "joined" 328,.str "joined" 329,.str "/claim/cut.py" 330,.int 70 0,.int 3 0,.int 0 0,.int 0 0,.int 3 0,.ref 115,.bool true,.int 181 0,.ref 116,.none,.none,.none,.ref 117,.int 331 0,.int 70 0,.str "/claim/cut.py" 332]),#[]⟩)::
 (nat_lit 119,⟨.type "function",none,(.func (aJ "joined" "joined" (bB (top 22)) (bp (top 22)) (aO (top 22)) .none .none .none (.str "copykin.changes" 314) none (.ref 118) .none)),#[]⟩)::
 (nat_lit 125,⟨.type "code",none,(.fields #[.str "left_over" 334,.str "left_over" 335,.str "/claim/cut.py" 336,.int 72 0,.int 3 0,.int 0 0,.int 0 0,.int 3 0,.ref 120,.bool true,.int 181 0,.ref 121,.none,.ref 122,.ref 123,.ref 124,.int 340 0,.int 72 0,.str "/claim/cut.py" 341]),#[]⟩)::
 (nat_lit 126,⟨.type "function",none,(.func (aJ "left_over" "left_over" (bB (top 23)) (bp (top 23)) (aO (top 23)) .none .none .none (.str "copykin.changes" 314) none (.ref 125) .none)),#[]⟩)::
 (nat_lit 130,⟨.type "code",none,(.fields #[.str "climbed" 343,.str "climbed" 344,.str "/claim/cut.py" 345,.int 78 0,.int 2 0,.int 0 0,.int 0 0,.int 3 0,.ref 127,.bool true,.int 181 0,.ref 128,.none,.none,.none,.ref 129,.int 346 0,.int 78 0,.str "/claim/cut.py" 347]),#[]⟩)::
 (nat_lit 131,⟨.type "function",none,(.func (aJ "climbed" "climbed" (bB (top 24)) (bp (top 24)) (aO (top 24)) .none .none .none (.str "copykin.changes" 314) none (.ref 130) .none)),#[]⟩)::
 (nat_lit 137,⟨.type "code",none,(.fields #[.str "settled" 349,.str "settled" 350,.str "/claim/cut.py" 351,.int 95 0,.int 2 0,.int 0 0,.int 0 0,.int 3 0,.ref 132,.bool true,.int 181 0,.ref 133,.none,.ref 134,.ref 135,.ref 136,.int 357 0,.int 95 0,.str "/claim/cut.py" 358]),#[]⟩)::
 (nat_lit 138,⟨.type "function",none,(.func (aJ "settled" "settled" (bB (top 25)) (bp (top 25)) (aO (top 25)) .none .none .none (.str "copykin.changes" 314) none (.ref 137) .none)),#[]⟩)::
 (nat_lit 139,⟨.type "tuple",none,(.seq #[.none] 0),#[]⟩)::
 (nat_lit 145,⟨.type "code",none,(.fields #[.str "fewest" 360,.str "fewest" 361,.str "/claim/cut.py" 362,.int 103 0,.int 3 0,.int 0 0,.int 0 0,.int 3 0,.ref 140,.bool true,.int 181 0,.ref 141,.none,.ref 142,.ref 143,.ref 144,.int 369 0,.int 103 0,.str "/claim/cut.py" 370]),#[]⟩)::
 (nat_lit 146,⟨.type "function",none,(.func (aJ "fewest" "fewest" (bB (top 26)) (bp (top 26)) (aO (top 26)) (.ref 139) .none .none (.str "copykin.changes" 314) none (.ref 145) .none)),#[]⟩)::
 (nat_lit 152,⟨.type "code",none,(.fields #[.str "_law_cell_at" 374,.str "_law_cell_at" 375,.str "/claim/cut.py" 376,.int 111 0,.int 2 0,.int 0 0,.int 0 0,.int 3 0,.ref 147,.bool true,.int 181 0,.ref 148,.none,.ref 149,.ref 150,.ref 151,.int 379 0,.int 111 0,.str "/claim/cut.py" 380]),#[]⟩)::
 (nat_lit 153,⟨.type "function",none,(.func (aJ "_law_cell_at" "_law_cell_at" (bB (top 28)) (bp (top 28)) (aO (top 28)) .none .none .none (.str "law_copykin_k55_whole_by_parts" 372) none (.ref 152) .none)),#[]⟩)::
 (nat_lit 159,⟨.type "code",none,(.fields #[.str "_law_drawn" 382,.str "_law_drawn" 383,.str "/claim/cut.py" 384,.int 115 0,.int 2 0,.int 0 0,.int 0 0,.int 3 0,.ref 154,.bool true,.int 181 0,.ref 155,.none,.ref 156,.ref 157,.ref 158,.int 387 0,.int 115 0,.str "/claim/cut.py" 388]),#[]⟩)::
 (nat_lit 160,⟨.type "function",none,(.func (aJ "_law_drawn" "_law_drawn" (bB (top 29)) (bp (top 29)) (aO (top 29)) .none .none .none (.str "law_copykin_k55_whole_by_parts" 372) none (.ref 159) .none)),#[]⟩)::
 (nat_lit 166,⟨.type "code",none,(.fields #[.str "_law_name" 390,.str "_law_name" 391,.str "/claim/cut.py" 392,.int 119 0,.int 2 0,.int 0 0,.int 0 0,.int 3 0,.ref 161,.bool true,.int 181 0,.ref 162,.none,.ref 163,.ref 164,.ref 165,.int 398 0,.int 119 0,.str "/claim/cut.py" 399]),#[]⟩)::
 (nat_lit 167,⟨.type "function",none,(.func (aJ "_law_name" "_law_name" (bB (top 30)) (bp (top 30)) (aO (top 30)) .none .none .none (.str "law_copykin_k55_whole_by_parts" 372) none (.ref 166) .none)),#[]⟩)::
 (nat_lit 173,⟨.type "code",none,(.fields #[.str "_law_above" 401,.str "_law_above" 402,.str "/claim/cut.py" 403,.int 124 0,.int 3 0,.int 0 0,.int 0 0,.int 3 0,.ref 168,.bool true,.int 181 0,.ref 169,.none,.ref 170,.ref 171,.ref 172,.int 407 0,.int 124 0,.str "/claim/cut.py" 408]),#[]⟩)::
 (nat_lit 174,⟨.type "function",none,(.func (aJ "_law_above" "_law_above" (bB (top 31)) (bp (top 31)) (aO (top 31)) .none .none .none (.str "law_copykin_k55_whole_by_parts" 372) none (.ref 173) .none)),#[]⟩)::
 (nat_lit 180,⟨.type "code",none,(.fields #[.str "_law_frame" 410,.str "_law_frame" 411,.str "/claim/cut.py" 412,.int 130 0,.int 3 0,.int 0 0,.int 0 0,.int 3 0,.ref 175,.bool true,.int 181 0,.ref 176,.none,.ref 177,.ref 178,.ref 179,.int 421 0,.int 130 0,.str "/claim/cut.py" 422]),#[]⟩)::
 (nat_lit 181,⟨.type "function",none,(.func (aJ "_law_frame" "_law_frame" (bB (top 32)) (bp (top 32)) (aO (top 32)) .none .none .none (.str "law_copykin_k55_whole_by_parts" 372) none (.ref 180) .none)),#[]⟩)::
 (nat_lit 185,⟨.type "code",none,(.fields #[.str "_law_names" 424,.str "_law_names" 425,.str "/claim/cut.py" 426,.int 140 0,.int 3 0,.int 0 0,.int 0 0,.int 3 0,.ref 182,.bool true,.int 181 0,.ref 183,.none,.none,.none,.ref 184,.int 427 0,.int 140 0,.str "/claim/cut.py" 428]),#[]⟩)::
 (nat_lit 186,⟨.type "function",none,(.func (aJ "_law_names" "_law_names" (bB (top 33)) (bp (top 33)) (aO (top 33)) .none .none .none (.str "law_copykin_k55_whole_by_parts" 372) none (.ref 185) .none)),#[]⟩)::
 (nat_lit 199,⟨.type "code",none,(.fields #[.str "_law_read" 438,.str "_law_read" 439,.str "/claim/cut.py" 440,.int 146 0,.int 3 0,.int 0 0,.int 0 0,.int 3 0,.ref 194,.bool true,.int 181 0,.ref 195,.none,.ref 196,.ref 197,.ref 198,.int 448 0,.int 146 0,.str "/claim/cut.py" 449]),#[]⟩)::
 (nat_lit 200,⟨.type "function",none,(.func (aJ "_law_read" "_law_read" (bB (top 35)) (bp (top 35)) (aO (top 35)) .none .none .none (.str "law_copykin_k55_whole_by_parts" 372) none (.ref 199) .none)),#[]⟩)::
 (nat_lit 204,⟨.type "code",none,(.fields #[.str "_law_side" 451,.str "_law_side" 452,.str "/claim/cut.py" 453,.int 156 0,.int 3 0,.int 0 0,.int 0 0,.int 3 0,.ref 201,.bool true,.int 181 0,.ref 202,.none,.none,.none,.ref 203,.int 454 0,.int 156 0,.str "/claim/cut.py" 455]),#[]⟩)::
 (nat_lit 205,⟨.type "function",none,(.func (aJ "_law_side" "_law_side" (bB (top 36)) (bp (top 36)) (aO (top 36)) .none .none .none (.str "law_copykin_k55_whole_by_parts" 372) none (.ref 204) .none)),#[]⟩)::
 (nat_lit 209,⟨.type "code",none,(.fields #[.str "_law_many" 457,.str "_law_many" 458,.str "/claim/cut.py" 459,.int 165 0,.int 3 0,.int 0 0,.int 0 0,.int 3 0,.ref 206,.bool true,.int 181 0,.ref 207,.none,.none,.none,.ref 208,.int 460 0,.int 165 0,.str "/claim/cut.py" 461]),#[]⟩)::
 (nat_lit 210,⟨.type "function",none,(.func (aJ "_law_many" "_law_many" (bB (top 37)) (bp (top 37)) (aO (top 37)) .none .none .none (.str "law_copykin_k55_whole_by_parts" 372) none (.ref 209) .none)),#[]⟩)::
 (nat_lit 214,⟨.type "code",none,(.fields #[.str "law" 463,.str "law" 464,.str "/claim/cut.py" 465,.int 175 0,.int 1 0,.int 0 0,.int 0 0,.int 3 0,.ref 211,.bool true,.int 181 0,.ref 212,.none,.none,.none,.ref 213,.int 466 0,.int 175 0,.str "/claim/cut.py" 467]),#[]⟩)::
 (nat_lit 215,⟨.type "function",none,(.func (aJ "law" "law" (bB (top 38)) (bp (top 38)) (aO (top 38)) .none .none .none (.str "law_copykin_k55_whole_by_parts" 372) none (.ref 214) .none)),#[]⟩)::[]
noncomputable def u3:List Addr:=[2,3,23,24,36,37,45,46,50,51,57,58,64,65,71,72,78,79,85,86,90,91,95,96,97,103,104,108,109,113,114,118,119,125,126,130,131,137,138,139,145,146,152,153,159,160,166,167,173,174,180,181,185,186,199,200,204,205,209,210,214,215]
noncomputable def lhsB(w:World):=(Cd treeTable PySem.Challenge.pw_copykin_k55_whole_by_parts w 2738).map (vG (gR K55.u0 K55.u3 (fun _=>by kernel_rfl) []))
noncomputable def rhsB(w:World):=some (vF (gR K55.u0 K55.u3 (fun _=>by kernel_rfl) []) w)
theorem laidB:(seen lhsB&&seen rhsB)=true:=by k_qdec
theorem leftB(w:World):lhsB w=rhsB w:=by
 have _:=laidB;rw[PySem.W.Fast.te7972965719148751781,PySem.W.Fast.te16121309013796377727]
 kernel_rfl
noncomputable def qg(K:aa)(x:Str)(st:Stmt)(T:Addr):Prop:=∃(f:Addr)(oc:Value)(od an od':Option Addr)(osl sl:Array (Option Value))(kV doc pm cdv ct:Value)(m:Nat),eD K bL x=some (some (.ref f))/\
 K.lookup f=some ⟨oc,od,.func (aJ x x (bB st) (bp st) (aO st) (.ref T) kV doc pm an cdv ct),osl⟩/\dE K cdv x=true/\bW K (.ref f)=true/\K.lookup T=some ⟨.type "tuple",od',.seq #[.none] m,sl⟩
theorem rC{K:aa}{x:Str}{st:Stmt}{f T:Addr}{oc:Value}{od an od':Option Addr}{osl sl:Array (Option Value)}{kV doc pm cdv ct:Value}{m:Nat}(a:eD K bL x=some (some (.ref f)))
  (l:K.lookup f=some ⟨oc,od,.func (aJ x x (bB st) (bp st) (aO st) (.ref T) kV doc pm an cdv ct),osl⟩)(c:dE K cdv x=true)(k:bW K (.ref f)=true)(t:K.lookup T=some ⟨.type "tuple",od',.seq #[.none] m,sl⟩):qg K x st T:=
 ⟨f,oc,od,an,od',osl,sl,kV,doc,pm,cdv,ct,m,a,l,c,k,t⟩
theorem xS{P:Program}{w:World}{K:aa}{mg:Str->Option Value}{base h:Heap}{k:Nat}{vals:List (Str×V)}{fns:List ((Str×Nat)×(Sp×List V))}{x:Str}{st:Stmt}{T:Addr}{N ps:List Str}{sp:Sp}{code:CB}(g:GOk P w K mg base (CXx P w) k (gam vals fns))(X:K.In h)(Gm:h.Ns bL mg)(d:qg K x st T)
  (hc:(m3 N ps (aO st)&&oa (aO st) N code (bp st))=true)
  (hb:∀(kV doc pm:Value)(an:Option Addr)(cdv ct:Value)(od':Option Addr)(sl:Array (Option Value))(m:Nat),K.lookup T=some ⟨.type "tuple",od',.seq #[.none] m,sl⟩->Binds K (aJ x x (bB st) (bp st) (aO st) (.ref T) kV doc pm an cdv ct) ps [])
  (len:∀vs H Q E,sp vs H Q E->vs.length=ps.length)
  (hw:∀vs H Q E,sp vs H Q E->wpB (gam vals fns) K (fun _=>E) code {nx:=fun _ H'=>Q .non H',rt:=Q} (L2.start N vs) H):GOk P w K mg base (CXx P w) (k+1) (gam vals (((x,ps.length),(sp,[]))::fns)):=by
 rw[aN]at hc;obtain⟨f,oc,od,an,od',osl,sl,kV,doc,pm,cdv,ct,m,a,l,c,kp,t⟩:=d;exact g.add (n:=ps.length) (pJ l c hc.1 hc.2 g len hw) (eS X Gm a) kp (hb _ _ _ _ _ _ _ _ _ t) .nil
theorem add_fnE{P:Program}{w:World}{K:aa}{mg:Str->Option Value}{base h:Heap}{k:Nat}{vals:List (Str×V)}{fns:List ((Str×Nat)×(Sp×List V))}{x:Str}{st:Stmt}{T:Addr}{N ps:List Str}{sp:Sp}{code:CB}(g:GOk P w K mg base (CXx P w) k (gam vals fns))(X:K.In h)(Gm:h.Ns bL mg)(d:qg K x st T)
  (hc:(m3 N ps (aO st)&&oa (aO st) N code (bp st))=true)
  (hb:∀(kV doc pm:Value)(an:Option Addr)(cdv ct:Value)(od':Option Addr)(sl:Array (Option Value))(m:Nat),K.lookup T=some ⟨.type "tuple",od',.seq #[.none] m,sl⟩->Binds K (aJ x x (bB st) (bp st) (aO st) (.ref T) kV doc pm an cdv ct) ps [.none])
  (len:∀vs H Q E,sp vs H Q E->vs.length=ps.length)
  (hw:∀vs H Q E,sp vs H Q E->wpB (gam vals fns) K (fun _=>E) code {nx:=fun _ H'=>Q .non H',rt:=Q} (L2.start N vs) H):GOk P w K mg base (CXx P w) (k+1) (gam vals (((x,2),(sp,[.non]))::fns)):=by
 rw[aN]at hc;obtain⟨f,oc,od,an,od',osl,sl,kV,doc,pm,cdv,ct,m,a,l,c,kp,t⟩:=d;exact g.add (n:=2) (pJ l c hc.1 hc.2 g len hw) (eS X Gm a) kp (hb _ _ _ _ _ _ _ _ _ t) (.cons rfl .nil)
noncomputable def vals:List (Str×V):=[("LETTERS",.str LETTERS),("LONGEST_NAME",.int 8),("MOST_BRANCHES",.int 80)]
theorem all_mk{P:Program}{w:World}{K:aa}{h:Heap}{mg:Str->Option Value}{fa:Addr}(X:K.In h)(Gm:h.Ns bL mg)(hfa:mg "law"=some (.ref fa)){t1 t2 t3:Tok}
  (v1:eD K bL "LETTERS"=some (some (.str LETTERS t1)))(v2:eD K bL "LONGEST_NAME"=some (some (.int 8 t2)))(v3:eD K bL "MOST_BRANCHES"=some (some (.int 80 t3)))
  (bl:∀x∈gf,eD K bL x=some none)(h6:HasFn K "is_whole" (top 6))(h7:HasFn K "is_name" (top 7))(h8:HasFn K "is_reading" (top 8))(h10:HasFn K "neighbours" (top 10))(h11:HasFn K "reached" (top 11))(h12:HasFn K "leads_one_way" (top 12))(h15:HasFn K "is_pair" (top 15))(h16:HasFn K "names_of" (top 16))(h17:HasFn K "is_frame" (top 17))(h18:qg K "frame_list" (top 18) 97)(h20:HasFn K "is_read" (top 20))(h21:HasFn K "begun_at" (top 21))(h22:HasFn K "joined" (top 22))(h23:HasFn K "left_over" (top 23))(h24:HasFn K "climbed" (top 24))(h25:HasFn K "settled" (top 25))(h26:qg K "fewest" (top 26) 139)(h28:HasFn K "_law_cell_at" (top 28))(h29:HasFn K "_law_drawn" (top 29))(h30:HasFn K "_law_name" (top 30))(h31:HasFn K "_law_above" (top 31))(h32:HasFn K "_law_frame" (top 32))(h33:HasFn K "_law_names" (top 33))(h35:HasFn K "_law_read" (top 35))(h36:HasFn K "_law_side" (top 36))(h37:HasFn K "_law_many" (top 37))(h38:HasFn K "law" (top 38)):
  ∃fd:fj,(∀(s:Shared)(v:Value),BindsTo s fd ⟨[v],[]⟩ [("_law_script",v)])/\∀base:Heap,K.In base->base.Ns bL mg->BM mg base->gP P w K mg base CX0 28 fa fd ["_law_script"] (fun vs H Q _=>F5.so K vs H Q E0):=by
 obtain⟨f,oc',od,an,osl,kV,doc,pm,cdv,ct,a,l,c,k⟩:=id h38;have e:=hfa.symm.trans (eS X Gm a);cases e;refine⟨aJ "law" "law" (bB (top 38)) (bp (top 38)) (aO (top 38)) .none kV doc pm an cdv ct,fun s v=>.of_eq rfl,fun base Xb _ bm=>?_⟩;have hv:∀x v,(x,v)∈vals->∃u,mg x=some u/\RelV v u:=by
  intro x v hm;simp only[vals,aI,bE,or_false,tW]at hm;rcases hm with⟨rfl,rfl⟩ |⟨rfl,rfl⟩ |⟨rfl,rfl⟩
  ·exact⟨_,eS X Gm v1,t1,rfl⟩
  ·exact⟨_,eS X Gm v2,t2,rfl⟩
  ·exact⟨_,eS X Gm v3,t3,rfl⟩
 have g0:GOk P w K mg base (CXx P w) 0 (gam vals []):=GOk.start hv fun x hx=>PySem.W.mg_none_of X Gm (bl x hx);have g1:=cV (N:=Cp.ph) (ps:=Cp.wg) g0 (h6.def X Gm) (by decide+kernel) (fun _ _ _ _ _ _ us hl=>by obtain⟨_,rfl⟩:=Kc.kI hl;rfl) (sp:=spB isWhole) (fun vs H Q E h=>Kc.bt h fun _ h=>Kc.eJ h rfl) uh;have g2:=cV (N:=Cp.rh) (ps:=Cp.yC) g1 (h7.def X Gm) (by decide+kernel) (fun _ _ _ _ _ _ us hl=>by obtain⟨_,rfl⟩:=Kc.kI hl;rfl) (sp:=spN) (fun vs H Q E h=>Kc.bt h fun _ h=>Kc.eJ h rfl) (vM (by kernel_rfl) (by kernel_rfl));have g3:=cV (N:=Cp.lC) (ps:=Cp.sO) g2 (h8.def X Gm) (by decide+kernel) (fun _ _ _ _ _ _ us hl=>by obtain⟨_,rfl⟩:=Kc.kI hl;rfl) (sp:=spB iM) (fun vs H Q E h=>Kc.bt h fun _ h=>Kc.eJ h rfl) (qu (by kernel_rfl));have g4:=cV (N:=F5.lB) (ps:=F5.sN) g3 (h10.def X Gm) (by decide+kernel) (fun _ _ _ _ _ _ us hl=>by obtain⟨_,_,rfl⟩:=Kc.fP hl;rfl) (sp:=F5.spNb) (fun vs H Q E h=>Kc.bt h fun _ h=>Kc.bt h fun _ h=>Kc.bt h fun _ h=>Kc.bt h fun _ h=>Kc.bt h fun _ h=>Kc.eJ h rfl) F5.wp_nb;have g5:=cV (N:=F5.rb) (ps:=F5.yz) g4 (h11.def X Gm) (by decide+kernel) (fun _ _ _ _ _ _ us hl=>by obtain⟨_,rfl⟩:=Kc.kI hl;rfl) (sp:=F5.spRe) (fun vs H Q E h=>Kc.bt h fun _ h=>Kc.bt h fun _ h=>Kc.bt h fun _ h=>Kc.eJ h rfl) F5.wp_re;have g6:=cV (N:=F5.ja) (ps:=F5.nX) g5 (h12.def X Gm) (by decide+kernel) (fun _ _ _ _ _ _ us hl=>by obtain⟨_,_,rfl⟩:=Kc.fP hl;rfl) (sp:=F5.spLw) (fun vs H Q E h=>Kc.bt h fun _ h=>Kc.bt h fun _ h=>Kc.bt h fun _ h=>Kc.bt h fun _ h=>Kc.bt h fun _ h=>Kc.eJ h rfl) (F5.wp_lw (by kernel_rfl));have g7:=cV (N:=F5.rg) (ps:=F5.yB) g6 (h15.def X Gm) (by decide+kernel) (fun _ _ _ _ _ _ us hl=>by obtain⟨_,rfl⟩:=Kc.kI hl;rfl) (sp:=F5.spPr) (fun vs H Q E h=>Kc.bt h fun _ h=>Kc.bt h fun _ h=>Kc.bt h fun _ h=>Kc.eJ h rfl) (F5.wp_pair (by kernel_rfl));have g8:=cV (N:=F5.o7) (ps:=F5.v9) g7 (h16.def X Gm) (by decide+kernel) (fun _ _ _ _ _ _ us hl=>by obtain⟨_,rfl⟩:=Kc.kI hl;rfl) (sp:=F5.spNo) (fun vs H Q E h=>Kc.bt h fun _ h=>Kc.bt h fun _ h=>Kc.bt h fun _ h=>Kc.bt h fun _ h=>Kc.eJ h rfl) F5.wp_no;have g9:=cV (N:=F5.pj) (ps:=F5.wj) g8 (h17.def X Gm) (by decide+kernel) (fun _ _ _ _ _ _ us hl=>by obtain⟨_,_,rfl⟩:=Kc.fP hl;rfl) (sp:=F5.spIf) (fun vs H Q E h=>Kc.bt h fun _ h=>Kc.bt h fun _ h=>Kc.bt h fun _ h=>Kc.bt h fun _ h=>Kc.bt h fun _ h=>Kc.eJ h rfl) (F5.wp_if (by kernel_rfl) (by kernel_rfl) (by kernel_rfl) (by kernel_rfl) (by kernel_rfl) (by kernel_rfl));have g10:=xS (N:=F5.lD) (ps:=F5.sP) g9 X Gm h18 (by decide+kernel) (fun _ _ _ _ _ _ _ _ _ t s us X hl=>by rw[kj]at hl⊢;obtain⟨_,_,rfl⟩:=Kc.fP hl;exact qk X rfl t rfl rfl rfl) (sp:=F5.spFl) (fun vs H Q E h=>Kc.bt h fun _ h=>Kc.bt h fun _ h=>Kc.bt h fun _ h=>Kc.bt h fun _ h=>Kc.bt h fun _ h=>Kc.eJ h rfl) (F5.wp_fl (by kernel_rfl) (by kernel_rfl));have g11:=cV (N:=F5.rf) (ps:=F5.yA) g10 (h20.def X Gm) (by decide+kernel) (fun _ _ _ _ _ _ us hl=>by obtain⟨_,_,rfl⟩:=Kc.fP hl;rfl) (sp:=F5.spIr) (fun vs H Q E h=>Kc.bt h fun _ h=>Kc.bt h fun _ h=>Kc.bt h fun _ h=>Kc.bt h fun _ h=>Kc.eJ h rfl) (F5.wp_ir (by kernel_rfl) (by kernel_rfl));have g12:=cV (N:=F5.pq) (ps:=F5.wk) g11 (h21.def X Gm) (by decide+kernel) (fun _ _ _ _ _ _ us hl=>by obtain⟨_,_,rfl⟩:=Kc.fP hl;rfl) (sp:=F5.Af) (fun vs H Q E h=>Kc.bt h fun _ h=>Kc.bt h fun _ h=>Kc.bt h fun _ h=>Kc.bt h fun _ h=>Kc.bt h fun _ h=>Kc.bt h fun _ h=>Kc.eJ h rfl) F5.wp_ba;have g13:=cV (N:=F5.uO) (ps:=F5.Bc) g12 (h22.def X Gm) (by decide+kernel) (fun _ _ _ _ _ _ us hl=>by obtain⟨_,_,_,rfl⟩:=Kc.fq hl;rfl) (sp:=F5.uu) (fun vs H Q E h=>Kc.bt h fun _ h=>Kc.bt h fun _ h=>Kc.bt h fun _ h=>Kc.bt h fun _ h=>Kc.bt h fun _ h=>Kc.bt h fun _ h=>Kc.bt h fun _ h=>Kc.eJ h rfl) F5.wp_jn;have g14:=cV (N:=F5.m4) (ps:=F5.uE) g13 (h23.def X Gm) (by decide+kernel) (fun _ _ _ _ _ _ us hl=>by obtain⟨_,_,_,rfl⟩:=Kc.fq hl;rfl) (sp:=F5.sk) (fun vs H Q E h=>Kc.bt h fun _ h=>Kc.bt h fun _ h=>Kc.bt h fun _ h=>Kc.bt h fun _ h=>Kc.bt h fun _ h=>Kc.bt h fun _ h=>Kc.bt h fun _ h=>Kc.eJ h rfl) F5.wp_lo;have g15:=cV (N:=F5.rj) (ps:=F5.yD) g14 (h24.def X Gm) (by decide+kernel) (fun _ _ _ _ _ _ us hl=>by obtain⟨_,_,rfl⟩:=Kc.fP hl;rfl) (sp:=F5.spCl) (fun vs H Q E h=>Kc.bt h fun _ h=>Kc.bt h fun _ h=>Kc.bt h fun _ h=>Kc.bt h fun _ h=>Kc.eJ h rfl) (F5.wp_cl (by kernel_rfl) (by kernel_rfl) (by kernel_rfl));have g16:=cV (N:=F5.ra) (ps:=F5.yy) g15 (h25.def X Gm) (by decide+kernel) (fun _ _ _ _ _ _ us hl=>by obtain⟨_,_,rfl⟩:=Kc.fP hl;rfl) (sp:=F5.spSe) (fun vs H Q E h=>Kc.bt h fun _ h=>Kc.bt h fun _ h=>Kc.bt h fun _ h=>Kc.bt h fun _ h=>Kc.eJ h rfl) F5.wp_se;have g17:=xS (N:=F5.pk) (ps:=F5.uJ) g16 X Gm h26 (by decide+kernel) (fun _ _ _ _ _ _ _ _ _ t s us X hl=>by rw[kj]at hl⊢;obtain⟨_,_,_,rfl⟩:=Kc.fq hl;exact qk X rfl t rfl rfl rfl) (sp:=F5.vV) (fun vs H Q E h=>Kc.bt h fun _ h=>Kc.bt h fun _ h=>Kc.bt h fun _ h=>Kc.bt h fun _ h=>Kc.bt h fun _ h=>Kc.bt h fun _ h=>Kc.bt h fun _ h=>Kc.eJ h rfl) (F5.wp_fw (by kernel_rfl) (by kernel_rfl) (by kernel_rfl) (by kernel_rfl) (by kernel_rfl) (by kernel_rfl));have g18:=add_fnE (N:=F5.pk) (ps:=F5.uJ) g17 X Gm h26 (by decide+kernel) (fun _ _ _ _ _ _ _ _ _ t s us X hl=>by rw[aA]at hl;obtain⟨_,_,rfl⟩:=Kc.fP (ji hl);exact qk X rfl t rfl rfl rfl) (sp:=F5.vV) (fun vs H Q E h=>Kc.bt h fun _ h=>Kc.bt h fun _ h=>Kc.bt h fun _ h=>Kc.bt h fun _ h=>Kc.bt h fun _ h=>Kc.bt h fun _ h=>Kc.bt h fun _ h=>Kc.eJ h rfl) (F5.wp_fw (by kernel_rfl) (by kernel_rfl) (by kernel_rfl) (by kernel_rfl) (by kernel_rfl) (by kernel_rfl));have g19:=cV (N:=Lt.kn) (ps:=Lt.qz) g18 (h28.def X Gm) (by decide+kernel) (fun _ _ _ _ _ _ us hl=>by obtain⟨_,_,rfl⟩:=Kc.fP hl;rfl) (sp:=Lt.vW K) (fun vs H Q E h=>Kc.bt h fun _ h=>Kc.bt h fun _ h=>Kc.bt h fun _ h=>Kc.eJ h rfl) Lt.wp_cell;have g20:=cV (N:=F5.m7) (ps:=F5.uH) g19 (h29.def X Gm) (by decide+kernel) (fun _ _ _ _ _ _ us hl=>by obtain⟨_,_,rfl⟩:=Kc.fP hl;rfl) (sp:=F5.Ae K) (fun vs H Q E h=>Kc.bt h fun _ h=>Kc.bt h fun _ h=>Kc.bt h fun _ h=>Kc.eJ h rfl) F5.wp_dr;have g21:=cV (N:=F5.pd) (ps:=F5.wc) g20 (h30.def X Gm) (by decide+kernel) (fun _ _ _ _ _ _ us hl=>by obtain⟨_,_,rfl⟩:=Kc.fP hl;rfl) (sp:=F5.spNm) (fun vs H Q E h=>Kc.bt h fun _ h=>Kc.bt h fun _ h=>Kc.eJ h rfl) F5.wp_nm;have g22:=cV (N:=F5.m8) (ps:=F5.uI) g21 (h31.def X Gm) (by decide+kernel) (fun _ _ _ _ _ _ us hl=>by obtain⟨_,_,_,rfl⟩:=Kc.fq hl;rfl) (sp:=F5.spAb) (fun vs H Q E h=>Kc.bt h fun _ h=>Kc.bt h fun _ h=>Kc.bt h fun _ h=>Kc.eJ h rfl) F5.wp_ab;have g23:=cV (N:=F5.m6) (ps:=F5.uG) g22 (h32.def X Gm) (by decide+kernel) (fun _ _ _ _ _ _ us hl=>by obtain⟨_,_,_,rfl⟩:=Kc.fq hl;rfl) (sp:=F5.spFr K) (fun vs H Q E h=>Kc.bt h fun _ h=>Kc.bt h fun _ h=>Kc.bt h fun _ h=>Kc.eJ h rfl) (F5.wp_fr (by kernel_rfl) (by kernel_rfl) (by kernel_rfl));have g24:=cV (N:=F5.m5) (ps:=F5.uF) g23 (h33.def X Gm) (by decide+kernel) (fun _ _ _ _ _ _ us hl=>by obtain⟨_,_,_,rfl⟩:=Kc.fq hl;rfl) (sp:=F5.spNs K) (fun vs H Q E h=>Kc.bt h fun _ h=>Kc.bt h fun _ h=>Kc.bt h fun _ h=>Kc.eJ h rfl) (F5.wp_ns (by kernel_rfl));have g25:=cV (N:=F5.o9) (ps:=F5.wb) g24 (h35.def X Gm) (by decide+kernel) (fun _ _ _ _ _ _ us hl=>by obtain⟨_,_,_,rfl⟩:=Kc.fq hl;rfl) (sp:=F5.spRd K) (fun vs H Q E h=>Kc.bt h fun _ h=>Kc.bt h fun _ h=>Kc.bt h fun _ h=>Kc.bt h fun _ h=>Kc.eJ h rfl) (F5.wp_rd (by kernel_rfl));have g26:=cV (N:=F5.o8) (ps:=F5.wa) g25 (h36.def X Gm) (by decide+kernel) (fun _ _ _ _ _ _ us hl=>by obtain⟨_,_,_,rfl⟩:=Kc.fq hl;rfl) (sp:=F5.spSd) (fun vs H Q E h=>Kc.bt h fun _ h=>Kc.bt h fun _ h=>Kc.bt h fun _ h=>Kc.bt h fun _ h=>Kc.bt h fun _ h=>Kc.bt h fun _ h=>Kc.eJ h rfl) F5.wp_sd;have g27:=cV (N:=F5.pf) (ps:=F5.we) g26 (h37.def X Gm) (by decide+kernel) (fun _ _ _ _ _ _ us hl=>by obtain⟨_,_,_,rfl⟩:=Kc.fq hl;rfl) (sp:=F5.spMn) (fun vs H Q E h=>Kc.bt h fun _ h=>Kc.bt h fun _ h=>Kc.bt h fun _ h=>Kc.bt h fun _ h=>Kc.bt h fun _ h=>Kc.bt h fun _ h=>Kc.bt h fun _ h=>Kc.eJ h rfl) (F5.wp_mn (by kernel_rfl));have hk:(m3 F5.Bk F5.p_law (aO (top 38))&&oa (aO (top 38)) F5.Bk F5.BX (bp (top 38)))=true:=by decide+kernel
 rw[aN]at hk;exact gP.calm (xC (BF l c k) hk.1 hk.2 g27 (fun vs H Q E h=>Kc.bt h fun _ h=>Kc.bt h fun _ h=>Kc.eJ h rfl) (F5.zK ⟨by kernel_rfl,by kernel_rfl,by kernel_rfl,by kernel_rfl,by kernel_rfl,by kernel_rfl,by kernel_rfl,by kernel_rfl,by kernel_rfl⟩))
end K55
open PySem PySem.W PyProof.Rows
set_option maxRecDepth 100000 in
set_option maxHeartbeats 0 in
theorem PySem.Challenge.cw_copykin_k55_whole_by_parts_holds : PySem.Challenge.rw_copykin_k55_whole_by_parts.Holds := by
 w_on;o_law
 refine PySem.W.holds_open (q:=K55.vw) (loose:=K55.loo) (Xt:=K55.xt)
  (XP:=PySem.W.XL K55.vw []) (Yf:=vG (gR K55.u0 K55.u3 (fun _=>by kernel_rfl) [])) (Ya:=vF (gR K55.u0 K55.u3 (fun _=>by kernel_rfl) []))
  (YP:=PySem.W.Hook.says (gR K55.u0 K55.u3 (fun _=>by kernel_rfl) [])) (N:=2738) (fun w=>K55.both (K55.leftA w) (K55.leftB w)) (PySem.W.Hook.of _) (PySem.W.Hook.keeps _)
  (fun s e=>PySem.W.xl_of s (zJ.mp e).1) PySem.W.XL.keeps
  (by rfl) (by rfl) (by rfl)
  (fun s e=>PySem.W.recFacts_of (zJ.mp e).2) rfl (by assumption) (by decide+kernel)
  ⟨rfl,rfl,rfl,rfl,rfl,by decide+kernel⟩ ?hw ?hc
 (case hw=>w_witness2)
 k_fill
 refine Lm.zM (l:=PySem.Challenge.rw_copykin_k55_whole_by_parts) (n:=63) (k:=28) (x:="_law_script") (CX:=L2.CX0) (sp:=fun K=>fun vs H Q _=>F5.so K vs H Q L2.E0) (tabs:=[]) rfl (by decide) rfl ⟨rfl,by decide,by decide⟩ (fun w h Y=>PySem.W.km_in_of Y) ?T ?F (fun K H a ns hl ht hS=>⟨a,ns,rfl,hS,hl,fun _=>rfl⟩) (fun _ _ _ _ z=>z)
 case T=>
  intro w s₀ mg mb h G Y p hp;exact nomatch hp
 case F=>
  intro w mg fa h KX G hmg;refine' K55.all_mk KX G hmg ?v1 ?v2 ?v3 ?bl ?h6 ?h7 ?h8 ?h10 ?h11 ?h12 ?h15 ?h16 ?h17 ?h18 ?h20 ?h21 ?h22 ?h23 ?h24 ?h25 ?h26 ?h28 ?h29 ?h30 ?h31 ?h32 ?h33 ?h35 ?h36 ?h37 ?h38
  (case v1=>k_is);(case v2=>k_is);(case v3=>k_is)
  (case bl=>
   intro x hx;simp only[R.gf,aI,bE,or_false]at hx;rcases hx with rfl|rfl|rfl|rfl|rfl|rfl|rfl|rfl|rfl|rfl|rfl|rfl|rfl|rfl|rfl|rfl|rfl|rfl|rfl|rfl<;>k_is)
  (case h6=>refine' R.bU ?a ?l ?c ?k;(case a=>k_is);(case l=>k_is);(case c=>k_is);(case k=>k_is))
  (case h7=>refine' R.bU ?a ?l ?c ?k;(case a=>k_is);(case l=>k_is);(case c=>k_is);(case k=>k_is))
  (case h8=>refine' R.bU ?a ?l ?c ?k;(case a=>k_is);(case l=>k_is);(case c=>k_is);(case k=>k_is))
  (case h10=>refine' R.bU ?a ?l ?c ?k;(case a=>k_is);(case l=>k_is);(case c=>k_is);(case k=>k_is))
  (case h11=>refine' R.bU ?a ?l ?c ?k;(case a=>k_is);(case l=>k_is);(case c=>k_is);(case k=>k_is))
  (case h12=>refine' R.bU ?a ?l ?c ?k;(case a=>k_is);(case l=>k_is);(case c=>k_is);(case k=>k_is))
  (case h15=>refine' R.bU ?a ?l ?c ?k;(case a=>k_is);(case l=>k_is);(case c=>k_is);(case k=>k_is))
  (case h16=>refine' R.bU ?a ?l ?c ?k;(case a=>k_is);(case l=>k_is);(case c=>k_is);(case k=>k_is))
  (case h17=>refine' R.bU ?a ?l ?c ?k;(case a=>k_is);(case l=>k_is);(case c=>k_is);(case k=>k_is))
  (case h18=>refine' K55.rC ?a ?l ?c ?k ?t;(case a=>k_is);(case l=>k_is);(case c=>k_is);(case k=>k_is);(case t=>k_is))
  (case h20=>refine' R.bU ?a ?l ?c ?k;(case a=>k_is);(case l=>k_is);(case c=>k_is);(case k=>k_is))
  (case h21=>refine' R.bU ?a ?l ?c ?k;(case a=>k_is);(case l=>k_is);(case c=>k_is);(case k=>k_is))
  (case h22=>refine' R.bU ?a ?l ?c ?k;(case a=>k_is);(case l=>k_is);(case c=>k_is);(case k=>k_is))
  (case h23=>refine' R.bU ?a ?l ?c ?k;(case a=>k_is);(case l=>k_is);(case c=>k_is);(case k=>k_is))
  (case h24=>refine' R.bU ?a ?l ?c ?k;(case a=>k_is);(case l=>k_is);(case c=>k_is);(case k=>k_is))
  (case h25=>refine' R.bU ?a ?l ?c ?k;(case a=>k_is);(case l=>k_is);(case c=>k_is);(case k=>k_is))
  (case h26=>refine' K55.rC ?a ?l ?c ?k ?t;(case a=>k_is);(case l=>k_is);(case c=>k_is);(case k=>k_is);(case t=>k_is))
  (case h28=>refine' R.bU ?a ?l ?c ?k;(case a=>k_is);(case l=>k_is);(case c=>k_is);(case k=>k_is))
  (case h29=>refine' R.bU ?a ?l ?c ?k;(case a=>k_is);(case l=>k_is);(case c=>k_is);(case k=>k_is))
  (case h30=>refine' R.bU ?a ?l ?c ?k;(case a=>k_is);(case l=>k_is);(case c=>k_is);(case k=>k_is))
  (case h31=>refine' R.bU ?a ?l ?c ?k;(case a=>k_is);(case l=>k_is);(case c=>k_is);(case k=>k_is))
  (case h32=>refine' R.bU ?a ?l ?c ?k;(case a=>k_is);(case l=>k_is);(case c=>k_is);(case k=>k_is))
  (case h33=>refine' R.bU ?a ?l ?c ?k;(case a=>k_is);(case l=>k_is);(case c=>k_is);(case k=>k_is))
  (case h35=>refine' R.bU ?a ?l ?c ?k;(case a=>k_is);(case l=>k_is);(case c=>k_is);(case k=>k_is))
  (case h36=>refine' R.bU ?a ?l ?c ?k;(case a=>k_is);(case l=>k_is);(case c=>k_is);(case k=>k_is))
  (case h37=>refine' R.bU ?a ?l ?c ?k;(case a=>k_is);(case l=>k_is);(case c=>k_is);(case k=>k_is))
  (case h38=>refine' R.bU ?a ?l ?c ?k;(case a=>k_is);(case l=>k_is);(case c=>k_is);(case k=>k_is))
