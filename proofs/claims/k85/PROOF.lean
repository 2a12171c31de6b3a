import PyProof.Rows.All
import Wide.All
import OpenK.AllK
import Wide.FinOn
import Lean
import PyProof.EqAt
import PyProof.EqKinds
import PyProof.TupleCall
import PyProof.NeKinds
import PySem.Challenge.RW_copykin_k85_mixed
open Array renaming length_toList → ax, getD_eq_getD_getElem? → bH, size_push → bV, toList_append → bZ, perm_iff_toList_perm → cn, toList_extract → cD, getElem?_eq_some_iff → cI, size_append → dG, toList_push → eM, getElem?_toList → gC, getElem?_setIfInBounds_self_of_lt → kY, toList_setIfInBounds → tE, getElem?_eq_getElem → tL, toList → xu, toList_reverse → zT, mem_toList_iff → zU, forIn_toList → CW, ext' → CY
open Array.Perm renaming refl → gD
open Bool renaming false_ne_true → au, and_eq_true → aw, false_eq_true → bt, or_eq_true → bC, false_and → bY, true_and → cy, eq_false_iff → eU, and_false → fg, eq_iff_iff → fM, beq_eq_decide_eq → gN, not_true → js, or_false → nj, and_eq_true_iff → z0
open Classical renaming byContradiction → pR
open False renaming elim → iS
open ForInStep renaming yield → fv
open Int renaming emod_nonneg → dM, emod_lt_of_pos → fR, eq_ofNat_of_zero_le → fT, toNat_natCast → gy, fdiv_eq_ediv_of_nonneg → i6, zero_add → zR
open Lean.Name renaming str → bE, anonymous → vK
open List renaming getElem?_eq_getElem → ae, getD_eq_getElem?_getD → ah, length_append → ai, size_toArray → av, length_take → aA, length_map → aC, mem_of_getElem? → aD, mem_cons_self → aH, mem_cons_of_mem → aJ, range → aM, mem_cons → aO, mem_append_right → aR, getElem?_eq_some_iff → aU, pairwise_iff_getElem → aX, mem_iff_getElem → aZ, lookup_cons → a6, length_cons → a7, mem_map → a8, append_assoc → ba, length_drop → be, take_append_drop → bg, getElem_mem → bp, getElem?_map → bq, length_filter_le → bz, mem_singleton → bG, mem_filter → bM, mem_append → bN, length_eq_zero_iff → bO, all_eq_true → bP, pairwise_append → bR, extract_eq_take_drop → bT, mem_range → bX, getElem_take → b8, mem_of_mem_take → cE, length → cF, take_of_length_le → cJ, getElem_drop → cK, append_nil → cM, mem_iff_getElem? → cO, ext_getElem → cR, toArray → cS, map_cons → cT, mem_append_left → cV, take_add_one → da, filter_sublist → de, getElem_map → dt, getElem_inj → du, getElem?_drop → dy, getElem?_eq_none → dA, pairwise_map → dH, mem_of_mem_drop → dI, getElem?_of_mem → dJ, take_length → d8, not_mem_nil → d9, nodup_cons → eE, foldl_cons → eF, length_singleton → eL, length_range → eR, take_zero → fc, nodup_iff_pairwise_ne → fe, getElem?_append_right → ff, mem_flatMap → fo, map_map → fq, filter_cons → fu, map_congr_left → fC, length_nil → fL, filter_append → fO, take_sublist → gb, replicate → gc, nodup_append → gf, flatten_cons → gh, flatMap_singleton → gi, pairwise_flatMap → gM, any_eq_true → gO, lookup → gY, flatMap_append → ip, pairwise_cons → iT, getElem?_append_left → i7, ext_getElem? → ji, getElem_append_left → jr, nodup_range → jA, getElem?_cons_succ → jB, flatten_singleton → ku, map_append → kE, pairwise_reverse → kW, getElem?_set_ne → lG, drop_zero → lH, length_pos_iff → mH, filterMap_cons → mI, lookup_append → nR, getElem?_take → nS, reverse_perm → ov, range_succ → rC, of_mem_zip → rD, nil_append → rE, filter_nil → rF, take_left → tI, lt_irrefl → tJ, forIn_nil → tK, nil_perm → vH, getElem?_take_of_lt → vI, all_cons → vJ, pairwise_lt_range → yB, map_nil → yC, getElem?_set_self → yD, drop_eq_nil_of_le → yE, toList_toArray → CM, reverse_append → CQ, getElem_of_mem → CT, flatten_append → CU
open List.Pairwise renaming nil → kF
open List.Perm renaming refl → CV
open List.Sublist renaming map → lI
open List.cons renaming injEq → zY
open Nat renaming le_refl → aq, le_trans → aI, lt_of_lt_of_le → aS, zero_le → aW, ne_of_lt → a0, zero_add → dm, lt_irrefl → dq, lt_succ_of_lt → dP, le_succ_of_le → dQ, lt_of_succ_lt → eW, not_lt_zero → fN, mul_le_mul → gx, ne_of_gt → iP, lt_trans → iQ, lt_or_ge → iR, le_succ → jq, add_assoc → jz, min_eq_left → kU, min_self → pJ, le_of_lt → pK, lt_succ_self → qr, le_of_not_lt → qt, sub_zero → zP, le_of_eq → zQ
open Nat.succ renaming inj → mG
open Ne renaming symm → dD
open Option renaming isSome_iff_exists → bW, isNone_iff_eq_none → fi, isSome_some → fG, bind_some → jo, getD_none → ou
open Option.some renaming inj → a9, injEq → hW
open Prod renaming fst → tH
open Prod.mk renaming inj → eQ, injEq → tB
open PyProof.Rows renaming wpS_bind → aj, wpS_pure → az, pendingOf → bL, slot_tuple_getitem → b7, wpS_forRange → cj, failedOf → cB, wpS_mono → eA, SortKind → eB, wpS_modify → eN, listUpdate_at → fX, callWith_type1 → gB, wpS_get → jf, AllBare → kB, subscriptTail_builtinR → mq, get?_update_seq → mC, wpS_lift → nX, seqEpoch_at → nY, boot_tuple → pI, boot_list → pP, boot_int → qp, StrsAre → tj, lt_str → tz, gallopOf → zL
open PyProof.Rows.F renaming plain_set_update_loop → eD, entry_set_update_loop → jn
open PyProof.Rows.SortSt renaming mk' → eV
open PySem renaming wpAny_bind → af, wpAny_pure → ak, mem_of_lookup → aY, mainGlobals → bh, starEach → bB, cellsFrom → bQ, SetTable → cC, compareOp → cH, wpAny_truthy_bool → cN, NameKind → cU, wpAny_holding → cZ, wpAny_mono → dk, binaryOp → dw, wpAny_rule → ee, wpAny_Call_Name_kw → eO, FuncData → eZ, wpAny_newObj_type → fk, strIterType → fE, assignEach → fF, bootBuiltins → fK, scanBound → gA, wpAny_pyIter_list → gS, recursionLimit → gT, foldedSetIterable → gV, wpAny_field → iN, sliceBounds → iO, wpAny_passesOwn → i4, codeAny_mono → jg, noteFrame → jm, builtinsNs → jw, relayAll → lD, bindArgs → lE, codeAny → mw, letOwnedTupleGo → mB, codeAny_builtin → mD, swapsWith → ot, wpAny_standAt → pL, wpAny_newList → pM, wpAny_attempt → pN, wpAny_call → qm, getItem → tf, wpAny_call_entry → vt, setFlight → vv, noFill_tuple_add → vx, checkBuiltinCall → vy, sizeLine_eq → vB, Fin → vG, Within → xr, callerA → yx, wpAny_Name → zJ, sysModules → zK, closureFor → zM, GenState → zS, swapsWithSole → Cy, seq_tuple_add → Cz, behindInMarks → CA
open PySem.Around renaming under_plainId → kZ
open PySem.Builtin.List renaming listTooLong → hZ
open PySem.Builtin.Slice renaming slicePlaces → eG, sliceAdjust → gW, sliceApplied → ni
open PySem.Builtin.Str renaming occurrences → fw, strSliceIndices → nU
open PySem.Builtin.Tuple renaming tupleExact → eS, tupleItemsOf → ng, tupleIsExact → nh
open PySem.Calls renaming Name_function_global → tD
open PySem.EntryCells renaming newEntry → vA
open PySem.F renaming args_tuple_add_2 → i5, entry_tuple_add → jh, slot_tuple_add → jy, attrBase_ValueError → pO, plainAttrs_list → tG
open PySem.Heap renaming get?_push_of_some → ag, lt_size → ay, get?_push_size → aK, get?_update_other → bb, size_push → gj, SameBut → kA, get?_update_self → kX, MadeExcOf → lJ, size_update → pQ, get?_none_of_le → zZ
open PySem.Heap.SameBut renaming update → dE
open PySem.IsL renaming update → zO
open PySem.NameKind renaming free → bx, cell → cb
open PySem.Obj renaming mapSeq → bf, mapFields → dX, data_mapFields → fQ, isFreed_of_fields → lF
open PySem.Paired renaming length → mz
open PySem.PassesOwn renaming leaving → yA
open PySem.PyData renaming keyHash → ao
open PySem.SeqAt.EqAt renaming str_int → vC, int_str → vD
open PySem.SetTable renaming below → dh, grown → dS, insertAt → mF, has → tF, orStandIn → yy, relaid → CD
open PySem.SetTable.below renaming go → tm
open PySem.SetTable.probe renaming go → km
open PySem.Str renaming ofString → aV
open PySem.Value renaming none → ck, ref → cu, str → dF, int → jx, builtin → mE, type → m8, bool → ti
open PySem.W renaming Frag → aa, fnOf → aL, kas_sort → bw, kitOne → bI, keepIn → bJ, kia_one → cw, nsIn → cQ, mg_of → dc, findIn → dU, codeIn → dW, kas_descPart → gU, kmHook → ij, methodObj → m9, instObj → pH, lookIn → qo, kas_rev → td, mroIn → tu, cellsFrom_some → vz, codeHd_of_K → yz, callWith_K → zN, specialIn → zV, kitx_list → zW, kitx_dict → zX, plainGet → CF, openEnds → CH, km_in_of → CJ, codeHdIn → CK
open PySem.W.Hook renaming val → vE, obs → vF
open PySem.W.KasT renaming ret → ow
open PySem.Walks renaming list → CC
open Sum renaming inr → dO, inl → gw
set_option Elab.async false
set_option linter.all false
set_option maxRecDepth 100000
set_option maxHeartbeats 0
namespace K85
open PySem PySem.Spec PySem.Calls PyProof.Rows
noncomputable def top(i:Nat):Stmt:=PySem.Challenge.pw_copykin_k85_mixed.main.body.getD i (.Pass ⟨0,0,0,0⟩)
noncomputable def vw:Program:=
 {PySem.Challenge.pw_copykin_k85_mixed with main:={PySem.Challenge.pw_copykin_k85_mixed.main with body:=[top 1,top 2,top 3,top 5,top 6,top 7,top 8,top 9,top 10,top 11,top 12,top 13,top 14,top 15,top 16,top 17,top 18,top 20,top 22,top 24,top 25,top 26,top 27,top 28,top 29,top 30]}}
noncomputable def loo:List Str:=[]
noncomputable def xt(s:Shared):Bool:=PySem.W.xlAt vw [] s&&PySem.W.recOk [] s
noncomputable def lhsA(w:World):=(CH treeTable PySem.Challenge.pw_copykin_k85_mixed w 2578).map
 (PySem.W.openSeen vw loo (importedModules PySem.Challenge.pw_copykin_k85_mixed.main.body) xt true)
noncomputable def rhsA(_:World):=some (PySem.W.openGood vw loo)
noncomputable def seen{α:Type}(_:α):Bool:=true
theorem laidA:(seen lhsA&&seen rhsA)=true:=by k_qdec
theorem leftA(w:World):lhsA w=rhsA w:=by
 have _:=laidA;rw[PySem.W.Fast.te6369593325344016999,PySem.W.Fast.te12466706973747993187]
 kernel_rfl
theorem both{α β γ:Type}{o:Option α}{f:α->β}{g:α->γ}{a:β}{b:γ}(h:o.map f=some a)(k:o.map g=some b):(o.map fun s=>(f s,g s))=some (a,b):=by
 cases o with
 |none=>cases h
 |some x=>
  injection h with h;injection k with k;rw[<-h,<-k];rfl
end K85
namespace L2
open PySem PySem.Spec PyProof.Rows
noncomputable abbrev Key:=Sum Int Str
noncomputable def qP:Key->Value->Bool
 |.inl k,v=>Value.isInt k v
 |.inr x,v=>Value.isStrOf x v
noncomputable def keyH(w:World):Key->Int
 |.inl k=>hashInt k
 |.inr x=>hashStr w x
theorem dz:∀{k:Key}{v:Value},qP k v=true->(∃i t,k=gw i/\v=jx i t)\/(∃x t,k=dO x/\v=dF x t)
 |.inl i,v,h=>by
  obtain⟨t,e⟩:=Value.isInt_shape (k:=i) (v:=v) h;exact .inl ⟨i,t,rfl,e⟩
 |.inr x,v,h=>by
  obtain⟨t,e⟩:=Value.isStrOf_shape (x:=x) (v:=v) h;exact .inr ⟨x,t,rfl,e⟩
theorem zk(i:Int)(t:Tok):qP (.inl i) (.int i t)=true:=by simp[qP,Value.isInt]
theorem zj(x:Str)(t:Tok):qP (.inr x) (.str x t)=true:=by simp[qP,Value.isStrOf]
theorem key_ll(a b:Int):decide ((gw a:Key)=gw b)=(a==b):=by
 by_cases e:a=b
 ·subst e;simp
 ·have h:¬(gw a:Key)=gw b:=fun q=>e (gw.inj q)
  rw[decide_eq_false h];exact(beq_eq_false_iff_ne.mpr e).symm
theorem key_rr(a b:Str):decide ((dO a:Key)=dO b)=decide (a=b):=by
 by_cases e:a=b
 ·subst e;simp
 ·have h:¬(dO a:Key)=dO b:=fun q=>e (dO.inj q)
  rw[decide_eq_false h,decide_eq_false e]
theorem key_lr(a:Int)(b:Str):decide ((gw a:Key)=dO b)=false:=decide_eq_false (fun q=>nomatch q)
theorem key_rl(a:Str)(b:Int):decide ((dO a:Key)=gw b)=false:=decide_eq_false (fun q=>nomatch q)
noncomputable def d4(prog:Program)(w:World):PySem.KeyKind prog w Key where
 is:=qP
 hash:=keyH w
 inj:=fun v a b ha hb=>by
  rcases dz ha with⟨i,t,rfl,rfl⟩ |⟨x,t,rfl,rfl⟩
  ·rcases dz hb with⟨j,u,rfl,e⟩ |⟨y,u,rfl,e⟩
   ·injection e with e1 _;rw[e1]
   ·exact nomatch e
  ·rcases dz hb with⟨j,u,rfl,e⟩ |⟨y,u,rfl,e⟩
   ·exact nomatch e
   ·injection e with e1 _;rw[e1]
 byValue:=fun k v h=>by
  rcases dz h with⟨i,t,rfl,rfl⟩ |⟨x,t,rfl,rfl⟩<;>rfl
 pyHash:=fun hv h=>by
  rcases dz hv with⟨i,t,rfl,rfl⟩ |⟨x,t,rfl,rfl⟩
  ·exact wpAny_pyHash_int h
  ·exact wpAny_pyHash_str h
 eqBool:=fun hu hv h=>by
  rcases dz hu with⟨i,t,rfl,rfl⟩ |⟨x,t,rfl,rfl⟩
  ·rcases dz hv with⟨j,u,rfl,rfl⟩ |⟨y,u,rfl,rfl⟩
   ·rw[key_ll]at h;exact wpAny_eqBool_int h
   ·rw[key_lr]at h;exact vD i t y u _ _ _ _ h
  ·rcases dz hv with⟨j,u,rfl,rfl⟩ |⟨y,u,rfl,rfl⟩
   ·rw[key_rl]at h;exact vC x t j u _ _ _ _ h
   ·rw[key_rr]at h;exact wpAny_eqBool_str h
 «strs»:=fun k x t v h=>by
  rcases dz h with⟨i,u,rfl,e⟩ |⟨y,u,rfl,e⟩
  ·exact nomatch e
  ·injection e with e1 _
   subst e1;cases v<;>rfl
theorem uD(prog:Program)(w:World)(i:Int)(t:Tok):(d4 prog w).is (.inl i) (.int i t)=true:=zk i t
theorem uC(prog:Program)(w:World)(x:Str)(t:Tok):(d4 prog w).is (.inr x) (.str x t)=true:=zj x t
inductive V where
 |non|bl (b:Bool) |int (i:Int) |str (x:Str) |byt (b:Array UInt8) |flt (b:UInt64) |ref (a:Addr) |ty (n:String)
 deriving DecidableEq
noncomputable def RelV:V->Value->Prop
 |.non,u=>u=ck
 |.bl b,u=>u=ti b
 |.int i,u=>∃t,u=jx i t
 |.str x,u=>∃t,u=dF x t
 |.byt b,u=>∃t,u=Value.bytes b t
 |.flt b,u=>∃t,u=Value.float b t
 |.ref a,u=>u=cu a
 |.ty n,u=>u=m8 n
noncomputable abbrev bU:List V->List Value->Prop:=Paired RelV
theorem bU.length{xs:List V}{us:List Value}(r:bU xs us):xs.length=us.length:=mz r
theorem bU.get:∀{xs:List V}{us:List Value}{i:Nat}{x:V},bU xs us->xs[i]? =some x->∃u,us[i]? =some u/\RelV x u
 |_,_,_,_,.nil,e=>by simp at e
 |_,_,0,_,.cons r _,e=>by simp at e;subst e;exact⟨_,rfl,r⟩
 |_,_,i+1,x,.cons _ t,e=>by
  obtain⟨u,h1,h2⟩:=bU.get (i:=i) (x:=x) t (by simpa using e);exact⟨u,by simpa using h1,h2⟩
theorem bU.append:∀{xs ys:List V}{us ws:List Value},bU xs us->bU ys ws->bU (xs++ys) (us++ws)
 |_,_,_,_,.nil,s=>s
 |_,_,_,_,.cons r t,s=>.cons r (bU.append t s)
theorem bU.take:∀{xs:List V}{us:List Value}(n:Nat),bU xs us->bU (xs.take n) (us.take n)
 |_,_,0,_=>.nil
 |_,_,_+1,.nil=>.nil
 |_,_,n+1,.cons r t=>.cons r (bU.take n t)
theorem bU.drop:∀{xs:List V}{us:List Value}(n:Nat),bU xs us->bU (xs.drop n) (us.drop n)
 |_,_,0,r=>r
 |_,_,_+1,.nil=>.nil
 |_,_,n+1,.cons _ t=>bU.drop n t
noncomputable def RelO:Option V->Option Value->Prop
 |some v,some u=>RelV v u
 |none,none=>True
 |_,_=>False
noncomputable def KV{κ:Type}:List (κ×V)->List (κ×Value)->Prop:=Paired fun(p:κ×V)(q:κ×Value)=>p.1=q.1/\RelV p.2 q.2
noncomputable def kV:Key->V
 |.inl i=>.int i
 |.inr x=>.str x
inductive HO where
 |lst (xs:List V)
 |tup (xs:List V)
 |dK (kvs:List (Key×V)) |dT (kvs:List (List Key×V))
 |set (S:Int->Bool) (n:Nat)
 |ins (C dx:Addr) (fs:List (Str×V))
 |own (x:Addr)
 |xd (fs:List (Str×V))
 |met (f x:Addr)
 |rng (lo hi:Int)
 |frz (o:Obj) (u:HO)
 |tbl (ps:Array Value)
 |ext (φ:Heap->Prop)
noncomputable abbrev Hp:=Addr->Option HO
noncomputable def upd(H:Hp)(a:Addr)(o:HO):Hp:=fun b=>if b=a then some o else H b
theorem aE{H:Hp}{a:Addr}{o:HO}:upd H a o a=some o:=by unfold upd;rw[if_pos rfl]
theorem bo{H:Hp}{a b:Addr}{o:HO}(h:b≠a):upd H a o b=H b:=by unfold upd;rw[if_neg h]
theorem bD{H:Hp}{a b:Addr}{o:HO}(h:H a=some o)(h':H b=none):a≠b:=by
 intro e;subst e;rw[h]at h';cases h'
section
variable(P:Program)(w:World)
noncomputable def dN(H:Hp)(h:Heap)(a:Addr):HO->Prop
 |.lst xs=>xs.length<=sizeLine/\∃(its:List Value)(n:Nat),bU xs its/\h.get? a=some {cls:=.type "list",data:=.seq its.toArray n}
 |.tup xs=>xs.length<=sizeLine/\∃its:List Value,bU xs its/\IsTup h a its.toArray
 |.dK kvs=>kvs.length<=sizeLine/\(a==zK)=false/\∃vs,KV kvs vs/\h.DictOf (d4 P w) a vs
 |.dT kvs=>kvs.length<=sizeLine/\(a==zK)=false/\∃xs:List (List Key×Addr×Value),
   Paired (fun(p:List Key×V)(q:List Key×Addr×Value)=>p.1=q.1/\H q.2.1=some (.tup (p.1.map kV))/\RelV p.2 q.2.2) kvs xs/\
   ∃o es ep,h.get? a=some o/\o.ExactDict/\o.data=.dict es ep/\es.toList=xs.map (entryOfKey (tupleKind (d4 P w)))/\(xs.map (·.1)).Nodup
 |.set S n=>h.SetOf (intKind P w) a S n
 |.ins C dx fs=>H dx=some (.own a)/\fs.length<=1000/\dx≠a/\h.get? a=some (pH C dx)/\
   ∃mA,h.Ns1 dx mA/\(∀f,RelO (fs.lookup f) (mA f))/\xr mA (fs.map (·.1))
 |.own _=>∃o,h.get? a=some o
 |.xd fs=>∃mA,h.Ns1 a mA/\∀f,RelO (fs.lookup f) (mA f)
 |.rng lo hi=>∃t u v,h.get? a=some {cls:=.type "range",data:=.fields #[.int lo t,.int hi u,.int 1 v]}
 |.frz o u=>h.get? a=some o/\dN H h a u
 |.tbl ps=>h.get? a=some {cls:=.none,data:=.fields ps}
 |.met f x=>h.get? a=some (m9 (.ref f) (.ref x))
 |.ext φ=>φ h/\(∃o,h.get? a=some o)/\∀h1 h2:Heap,φ h1->(∀o,h1.get? a=some o->h2.get? a=some o)->φ h2
noncomputable def HOk(H:Hp)(h:Heap):Prop:=∀a o,H a=some o->dN P w H h a o
end
section
variable {P:Program}{w:World}{H H':Hp}{h h':Heap}{a:Addr}{o:HO}
theorem dN.lt(x:dN P w H h a o):a<h.objs.size:=by
 cases o with
 |lst xs=>obtain⟨_,_,_,_,e⟩:=x;exact ay e
 |tup xs=>obtain⟨_,_,_,p⟩:=x;exact p.lt
 |dK kvs=>obtain⟨_,_,_,_,o,_,_,e,_⟩:=x;exact ay e
 |dT kvs=>obtain⟨_,_,_,_,o,_,_,e,_⟩:=x;exact ay e
 |set S n=>obtain⟨o,_,_,_,e,_⟩:=x;exact ay e
 |ins C dx fs=>obtain⟨_,_,_,e,_⟩:=x;exact ay e
 |own y=>obtain⟨_,e⟩:=x;exact ay e
 |xd fs=>obtain⟨_,⟨_,_,_,e,_⟩,_⟩:=x;exact ay e
 |rng lo hi=>obtain⟨_,_,_,e⟩:=x;exact ay e
 |frz ob u=>obtain⟨e,_⟩:=x;exact ay e
 |tbl ps=>exact ay (show h.get? a=some _ from x)
 |met f y=>exact ay (show h.get? a=some _ from x)
 |ext φ=>obtain⟨_,⟨_,e⟩,_⟩:=x;exact ay e
theorem Paired.qb{α β:Type}{F G:α->β->Prop}:∀{l₁:List α}{l₂:List β},Paired F l₁ l₂->(∀a b,F a b->G a b)->Paired G l₁ l₂
 |_,_,.nil,_=>.nil
 |_,_,.cons r t,f=>.cons (f _ _ r) (Paired.qb t f)
theorem dN.oH(x:dN P w H h a o)(k:∀b u,(b=a\/H b=some (.own a))->h.get? b=some u->h'.get? b=some u)
  (ho:∀b,H b=some (.own a)->H' b=some (.own a))(ht:∀b xs,H b=some (.tup xs)->H' b=some (.tup xs)):dN P w H' h' a o:=by
 induction o with
 |lst xs=>obtain⟨z,its,n,r,e⟩:=x;exact⟨z,its,n,r,k _ _ (.inl rfl) e⟩
 |tup xs=>obtain⟨z,its,r,ob,e,c⟩:=x;exact⟨z,its,r,ob,k _ _ (.inl rfl) e,c⟩
 |dK kvs=>obtain⟨z,y,vs,r,ob,es,ep,e,c⟩:=x;exact⟨z,y,vs,r,ob,es,ep,k _ _ (.inl rfl) e,c⟩
 |dT kvs=>
  obtain⟨z,y,xs,r,ob,es,ep,e,c⟩:=x;exact⟨z,y,xs,Paired.qb r fun p q z=>⟨z.1,ht _ _ z.2.1,z.2.2⟩,ob,es,ep,k _ _ (.inl rfl) e,c⟩
 |set S n=>obtain⟨ob,es,ep,t,e,c⟩:=x;exact⟨ob,es,ep,t,k _ _ (.inl rfl) e,c⟩
 |ins C dx fs=>
  obtain⟨d,z,ne,e,mA,⟨od,es,ep,e2,c⟩,r⟩:=x;exact⟨ho _ d,z,ne,k _ _ (.inl rfl) e,mA,⟨od,es,ep,k _ _ (.inr d) e2,c⟩,r⟩
 |own y=>obtain⟨ob,e⟩:=x;exact⟨ob,k _ _ (.inl rfl) e⟩
 |xd fs=>obtain⟨mA,⟨od,es,ep,e,c⟩,r⟩:=x;exact⟨mA,⟨od,es,ep,k _ _ (.inl rfl) e,c⟩,r⟩
 |rng lo hi=>obtain⟨t,u,v,e⟩:=x;exact⟨t,u,v,k _ _ (.inl rfl) e⟩
 |frz ob u ih=>obtain⟨e,q⟩:=x;exact⟨k _ _ (.inl rfl) e,ih q⟩
 |tbl ps=>
  have e:h.get? a=some {cls:=.none,data:=.fields ps}:=x;show h'.get? a=some {cls:=.none,data:=.fields ps};exact k a _ (.inl rfl) e
 |met f y=>
  have e:h.get? a=some (m9 (.ref f) (.ref y)):=x;show h'.get? a=some (m9 (.ref f) (.ref y));exact k a _ (.inl rfl) e
 |ext φ=>obtain⟨p,⟨o,e⟩,st⟩:=x;exact⟨st _ _ p fun o q=>k _ _ (.inl rfl) q,⟨o,k _ _ (.inl rfl) e⟩,st⟩
theorem HOk.lt(x:HOk P w H h)(e:H a=some o):a<h.objs.size:=(x a o e).lt
theorem HOk.fresh(x:HOk P w H h)(e:h.objs.size<=a):H a=none:=by
 cases q:H a with
 |none=>rfl
 |some u=>exact absurd (aS (x.lt q) e) (dq _)
theorem HOk.kept(x:HOk P w H h)(k:∀b u,h.get? b=some u->h'.get? b=some u):HOk P w H h':=fun a o e=>
 (x a o e).oH (fun b u _ q=>k b u q) (fun _ q=>q) fun _ _ q=>q
theorem HOk.laid(x:HOk P w H h)(k:∀b u,h.get? b=some u->h'.get? b=some u)(hp:h.objs.size<=a)(new:dN P w (upd H a o) h' a o):HOk P w (upd H a o) h':=fun b u e=>by
 have hn:=x.fresh hp;by_cases hb:b=a
 ·subst hb;rw[aE]at e;cases e;exact new
 ·rw[bo hb]at e
  exact(x b u e).oH (fun c v _ q=>k c v q) (fun c q=>by rw[bo (bD q hn)];exact q) fun c xs q=>by rw[bo (bD q hn)];exact q
end
noncomputable def Rd(H:Hp)(a:Addr)(u:HO):Prop:=H a=some u\/∃o,H a=some (.frz o u)
theorem Rd.ok{P:Program}{w:World}{H:Hp}{h:Heap}{a:Addr}{u:HO}(r:Rd H a u)(x:HOk P w H h):dN P w H h a u:=by
 rcases r with r|⟨o,r⟩
 ·exact x a u r
 ·obtain⟨_,q⟩:=x a _ r
  exact q
noncomputable def Mut:Option HO->Prop
 |some (.lst _)=>True
 |some (.dK _)=>True
 |some (.dT _)=>True
 |some (.set _ _)=>True
 |some (.ins _ _ _)=>True
 |some (.ext _)=>True
 |_=>False
section
variable {P:Program}{w:World}{H:Hp}{h h':Heap}{x e:Addr}{o':HO}
theorem HOk.write(ok:HOk P w H h)(mu:Mut (H x))(he:e=x\/H e=some (.own x))(k:∀b u,b≠e->h.get? b=some u->h'.get? b=some u)(heo:∃u,h'.get? e=some u)
  (new:dN P w (upd H x o') h' x o'):HOk P w (upd H x o') h':=fun b u q=>by
 have nown:∀c y,H c=some (.own y)->c≠x:=fun c y r z=>by subst z;rw[r]at mu;exact mu
 have ntup:∀c xs,H c=some (.tup xs)->c≠x:=fun c xs r z=>by subst z;rw[r]at mu;exact mu
 by_cases hb:b=x
 ·subst hb;rw[aE]at q;cases q;exact new
 ·rw[bo hb]at q
  by_cases hbe:b=e
  ·have q':H b=some (.own x):=by
    rcases he with z|z
    ·exact absurd (hbe.trans z) hb
    ·rw[hbe];exact z
   rw[q]at q';cases q';obtain⟨v,hv⟩:=heo;exact⟨v,by rw[hbe];exact hv⟩
  ·refine(ok b u q).oH (fun c v hc r=>k c v ?_ r) (fun c r=>by rw[bo (nown c b r)];exact r) fun c xs r=>by rw[bo (ntup c xs r)];exact r
   rcases hc with rfl|hc
   ·exact hbe
   ·rintro rfl
    rcases he with z|z
    ·exact nown c b hc z
    ·rw[hc]at z;cases z;exact hb rfl
end
structure Un(fs ex:List Addr)(H H':Hp)(h h':Heap):Prop where
 keep:∀b o,h.get? b=some o->H b=none->b∉fs->b∉ex->h'.get? b=some o
 slot:∀b o,h.get? b=some o->H b=none->b∈fs->b∉ex->∃sl,h'.get? b=some {o with slots:=sl}
 free:∀b o,h.get? b=some o->H b=none->b∉ex->H' b=none
 there:∀b o,h.get? b=some o->b∉ex->∃o',h'.get? b=some o'
 tups:∀b xs,H b=some (.tup xs)->H' b=some (.tup xs)
 frzs:∀b o u,H b=some (.frz o u)->H' b=some (.frz o u)
 tbls:∀b ps,H b=some (.tbl ps)->∃more,H' b=some (.tbl (ps++more))
section
variable {fs fs' ex ex':List Addr}{H H1 H2:Hp}{h h1 h2 h':Heap}{a x e:Addr}{o:HO}
theorem Un.any(u:Un fs ex H H1 h h1){b:Addr}{ob:Obj}(q:h.get? b=some ob)(n:H b=none)(hx:b∉ex):∃sl,h1.get? b=some {ob with slots:=sl}:=by
 by_cases hb:b∈fs
 ·exact u.slot b ob q n hb hx
 ·exact⟨ob.slots,u.keep b ob q n hb hx⟩
theorem Un.kept(k:∀b u,h.get? b=some u->h'.get? b=some u):Un fs ex H H h h':=
 ⟨fun b ob q _ _ _=>k b ob q,fun b ob q _ _ _=>⟨ob.slots,k b ob q⟩,fun _ _ _ n _=>n,fun b ob q _=>⟨ob,k b ob q⟩,fun _ _ q=>q,fun _ _ _ q=>q,fun _ ps q=>⟨#[],by rw[q];simp⟩⟩
theorem Un.refl:Un fs ex H H h h:=Un.kept fun _ _ q=>q
theorem Un.laid(k:∀b u,h.get? b=some u->h'.get? b=some u)(hp:h.objs.size<=a)(hn:H a=none):Un fs ex H (upd H a o) h h' where
 keep:=fun b u q _ _ _=>k b u q
 slot:=fun b u q _ _ _=>⟨u.slots,k b u q⟩
 free:=fun b u q n _=>by rw[bo (a0 (aS (ay q) hp))];exact n
 there:=fun b u q _=>⟨u,k b u q⟩
 tups:=fun b xs q=>by rw[bo (bD q hn)];exact q
 frzs:=fun b u xs q=>by rw[bo (bD q hn)];exact q
 tbls:=fun b ps q=>⟨#[],by rw[bo (bD q hn),q];simp⟩
theorem Un.write(mu:Mut (H x))(he:e=x\/H e=some (.own x))(k:∀b u,b≠e->h.get? b=some u->h'.get? b=some u)(heo:∃u,h'.get? e=some u):Un fs ex H (upd H x o) h h':=by
 have hx:∀b,H b=none->b≠x:=fun b n z=>by subst z;rw[n]at mu;exact mu
 have hb:∀b,H b=none->b≠e:=fun b n z=>by
  subst z;rcases he with r|r
  ·exact hx b n r
  ·rw[n]at r;cases r
 have hm:∀b u,H b=some u->¬Mut (some u)->b≠x:=fun b u q nm z=>by subst z;rw[q]at mu;exact nm mu
 refine⟨fun b u q n _ _=>k b u (hb b n) q,fun b u q n _ _=>⟨u.slots,k b u (hb b n) q⟩,fun b u q n _=>by rw[bo (hx b n)];exact n,fun b u q _=>?_,
  fun b xs q=>by rw[bo (hm b _ q fun z=>z)];exact q,fun b u xs q=>by rw[bo (hm b _ q fun z=>z)];exact q,fun b ps q=>⟨#[],by rw[bo (hm b _ q fun z=>z),q];simp⟩⟩
 by_cases hbe:b=e
 ·subst hbe;exact heo
 ·exact⟨u,k b u hbe q⟩
end
noncomputable def trk(h:Heap)(H:Hp):List Addr:=(aM h.objs.size).filter fun a=>(H a).isSome
noncomputable def uS(h:Heap)(H:Hp):Heap:=PySem.W.hideAll h (trk h H)
theorem zq(h:Heap)(H:Hp):(uS h H).objs.size=h.objs.size:=PySem.W.hideAll_size _ _
theorem o8{h:Heap}{H:Hp}{b:Addr}{o:Obj}(e:h.get? b=some o)(n:H b=none):(uS h H).get? b=some o:=
 PySem.W.hideAll_get _ e fun hm=>by
  have q:(H b).isSome=true:=(bM.mp hm).2;rw[n]at q;simp at q
theorem of_hidT{h:Heap}{H:Hp}{b:Addr}{o:Obj}(e:(uS h H).get? b=some o):h.get? b=some o/\H b=none:=by
 have e':h.get? b=some o:=PySem.W.of_hideAll (trk h H) e;refine⟨e',?_⟩;cases q:H b with
 |none=>rfl
 |some x=>
  have hm:b∈trk h H:=bM.mpr ⟨bX.mpr (ay e'),by simp[q]⟩;have z:(uS h H).get? b=none:=PySem.W.hideAll_none (trk h H) hm;rw[z]at e;cases e
structure Mod(K:aa)(mg:Str->Option Value)(base:Heap):Prop where
 kin:K.In base
 glob:base.Ns bh mg
 blt:∃mb,base.Ns jw mb/\∀x:Str,x≠"__name__"->mb x=fK x
 nolimit:base.NoLimit
structure Cx where
 prog:Program
 w:World
 K:aa
 mg:Str->Option Value
 base:Heap
 A:Around
 N:List Str
 s₀:Shared
 H₀:Hp
 env:Env
 outer:List Env
 stack:List Env
 ex:List Addr
 fn:Str->Bool
 calm:Bool
 pn:List (Addr×Obj)
 xe:Value->Shared->Prop
noncomputable def frs(l:List Env):List Addr:=l.filterMap (·.frame)
noncomputable abbrev Cx.fs(X:Cx):List Addr:=frs X.outer
noncomputable def Vis(sc:Scope)(x:Str):Prop:=sc.names.lookup x=some .local\/sc.names.lookup x=some .cell\/sc.names.lookup x=some .free
noncomputable def Loc(sc:Scope)(x:Str):Prop:=sc.names.lookup x=some .local\/sc.names.lookup x=some .cell
noncomputable def Look(env:Env)(h:Heap)(m:Str->Option Value)(x:Str)(u:Value):Prop:=
 (env.kindOf x=some .local/\m x=some u)\/((env.kindOf x=some .cell\/env.kindOf x=some .free)/\∃c,env.cells.lookup x=some c/\h.IsCell c (some u))
structure Cx.Ok(X:Cx):Prop where
 mod:Mod X.K X.mg X.base
 kind:X.env.scope.kind=.function
 glob:X.env.globals=bh
 blt:X.env.builtins=jw
 above:X.s₀.heap.objs.size<=X.env.locals
 inj:∀x y c,X.env.cells.lookup x=some c->X.env.cells.lookup y=some c->x=y
 has:∀x,(X.env.kindOf x=some .cell\/X.env.kindOf x=some .free)->∃c,X.env.cells.lookup x=some c
 cab:∀x c,X.fn x=true->X.env.cells.lookup x=some c->X.s₀.heap.objs.size<=c
 hd:X.calm=true->X.A.handled=none
 frames:X.A.frames=some X.stack
 stk:X.stack=X.outer\/(X.stack=X.env::X.outer/\X.env.frame=some X.env.locals)
 exf:∀b∈X.ex,b≠X.env.locals/\∀x c,X.env.cells.lookup x=some c->c≠b
 bs:∀b o,X.base.get? b=some o->X.s₀.heap.get? b=some o/\X.H₀ b=none
 bsz:X.base.objs.size<=X.s₀.heap.objs.size
 noex:∀b o,X.base.get? b=some o->b∉X.ex
 exfs:∀b∈X.ex,b∉X.fs
 qc:X.s₀.heap.FunFrames X.base X.outer
 frf:∀b∈X.fs,X.H₀ b=none
structure Inv(X:Cx)(pins:List (Addr×Obj))(σ:List (Option V))(H:Hp)(s:Shared):Prop where
 ok:X.Ok
 os:s.os=X.s₀.os
 bare:kB s.gens
 base:Un X.fs X.ex X.H₀ H X.s₀.heap s.heap
 loc:∃m,s.heap.Ns X.env.locals m/\∀(i:Nat)(x:Str)(v:V),X.N[i]? =some x->σ[i]? =some (some v)->Vis X.env.scope x->∃u,RelV v u/\Look X.env s.heap m x u
 cell:∀x c,X.env.cells.lookup x=some c->∃v,s.heap.IsCell c v
 free:H X.env.locals=none
 freeC:∀x c,X.env.cells.lookup x=some c->H c=none
 pin:∀p∈X.pn++pins,s.heap.get? p.1=some p.2/\H p.1=none/\p.1≠X.env.locals/\p.1∉X.fs/\∀v,p.2.data≠.cell v
 hok:HOk X.prog X.w H s.heap
 len:σ.length=X.N.length
section
variable {X:Cx}{pins:List (Addr×Obj)}{σ:List (Option V)}{H H':Hp}{s:Shared}{h':Heap}
theorem Cx.Ok.nofr(ok:X.Ok){b:Addr}{o:Obj}(e:X.base.get? b=some o):b∉X.fs:=fun hb=>by
 have :=(ok.qc.mem hb).1
 rw[e]at this;cases this
theorem Inv.bs(I:Inv X pins σ H s):∀b o,X.base.get? b=some o->s.heap.get? b=some o/\H b=none:=fun b o e=>
 ⟨I.base.keep b o (I.ok.bs b o e).1 (I.ok.bs b o e).2 (I.ok.nofr e) (I.ok.noex b o e),I.base.free b o (I.ok.bs b o e).1 (I.ok.bs b o e).2 (I.ok.noex b o e)⟩
theorem Inv.bk(I:Inv X pins σ H s):∀b o,X.base.get? b=some o->s.heap.get? b=some o:=fun b o e=>(I.bs b o e).1
theorem Inv.mod(I:Inv X pins σ H s):Mod X.K X.mg X.base:=I.ok.mod
theorem Inv.kIn(I:Inv X pins σ H s):X.K.In s.heap:=I.ok.mod.kin.keeps I.bk
theorem Inv.nolimit(I:Inv X pins σ H s):s.heap.NoLimit:=I.ok.mod.nolimit.keeps I.bk
theorem Inv.lt(I:Inv X pins σ H s):X.env.locals<s.heap.objs.size:=let⟨_,hn,_⟩:=I.loc;hn.lt
theorem Inv.sz(I:Inv X pins σ H s):X.s₀.heap.objs.size<=s.heap.objs.size:=aI I.ok.above (pK I.lt)
theorem Inv.nofs(I:Inv X pins σ H s){a:Addr}(h:s.heap.objs.size<=a):a∉X.fs:=fun hb=>by
 obtain⟨_,o,ho,_⟩:=I.ok.qc.mem hb;exact absurd (aS (ay ho) (aI I.sz h)) (dq _)
theorem Inv.cne(I:Inv X pins σ H s):∀x c,X.env.cells.lookup x=some c->c≠X.env.locals:=fun x c e z=>by
 obtain⟨v,o,ho,hd⟩:=I.cell x c e;obtain⟨m,⟨o',es,ep,ho',hd',_⟩,_⟩:=I.loc;rw[z,ho']at ho;cases ho;rw[hd']at hd;cases hd
theorem Inv.qc(I:Inv X pins σ H s):s.heap.FunFrames X.base X.outer:=by
 have all:∀(l:List Env),(∀b∈frs l,b∈X.fs)->X.s₀.heap.FunFrames X.base l->s.heap.FunFrames X.base l:=by
  intro l
  induction l with
  |nil=>intro _ _;trivial
  |cons env r ih=>
   intro hs hl;obtain⟨hk,⟨L,o,hf,hn,ho,hd⟩,hr⟩:=hl;have hL:L∈X.fs:=hs L (by unfold frs;rw[mI,hf];exact aH);obtain⟨sl,e⟩:=I.base.slot L o ho (I.ok.frf L hL) hL fun z=>I.ok.exfs L z hL;exact⟨hk,⟨L,_,hf,hn,e,hd⟩,ih (fun b hb=>hs b (by unfold frs;rw[mI,hf];exact aJ _ hb)) hr⟩
 exact all X.outer (fun _ hb=>hb) I.ok.qc
theorem Inv.stack(I:Inv X pins σ H s):s.heap.FunFrames X.base X.stack:=by
 rcases I.ok.stk with e|⟨e,hf⟩
 ·rw[e];exact I.qc
 ·rw[e]
  obtain⟨m,hn,_⟩:=I.loc;refine .cons (by rw[I.ok.kind];decide) hf hn ?_ I.qc;exact zZ (aI I.ok.bsz I.ok.above)
theorem Inv.vZ(I:Inv X pins σ H s):∀b∈frs X.stack,b∈X.env.locals::X.fs:=fun b hb=>by
 rcases I.ok.stk with e|⟨e,hf⟩
 ·rw[e]at hb;exact aJ _ hb
 ·rw[e]at hb
  unfold frs at hb;rw[mI,hf]at hb;exact hb
theorem Inv.rP(I:Inv X pins σ H s):∀b∈frs X.stack,H b=none:=fun b hb=>by
 rcases aO.mp (I.vZ b hb)with e|hb
 ·rw[e];exact I.free
 ·obtain⟨_,o,ho,_⟩:=I.ok.qc.mem hb
  exact I.base.free b o ho (I.ok.frf b hb) fun z=>I.ok.exfs b z hb
theorem Inv.step{g':Array zS}{t':Nat}{d':Drawn}{ch:List Addr}(I:Inv X pins σ H s)
  (hch:∀b∈ch,(b∈X.ex\/X.s₀.heap.objs.size<=b)/\b≠X.env.locals/\(∀x c,X.env.cells.lookup x=some c->c≠b)/\∀p∈X.pn++pins,p.1≠b)
  (keep:∀b o,b≠X.env.locals->b∉X.fs->b∉ch->s.heap.get? b=some o->H b=none->h'.get? b=some o)
  (slot:∀b o,b≠X.env.locals->b∈X.fs->b∉ch->s.heap.get? b=some o->H b=none->∃sl,h'.get? b=some {o with slots:=sl}) (free:∀b o,b∉ch->s.heap.get? b=some o->H b=none->H' b=none)
  (there:∀b o,b∉ch->s.heap.get? b=some o->∃o',h'.get? b=some o')
  (tups:∀b xs,H b=some (.tup xs)->H' b=some (.tup xs)) (frzs:∀b o u,H b=some (.frz o u)->H' b=some (.frz o u)) (tbls:∀b ps,H b=some (.tbl ps)->∃more,H' b=some (.tbl (ps++more)))
  (ns:∀m,s.heap.Ns X.env.locals m->h'.Ns X.env.locals m) (hok:HOk X.prog X.w H' h') (hg:kB g'):
  Inv X pins σ H' {s with heap:=h',gens:=g',drawn:=d',toks:=t'}:=by
 have neL:∀b o,X.s₀.heap.get? b=some o->b≠X.env.locals:=fun b o e=>a0 (aS (ay e) I.ok.above);have neC:∀b o,X.s₀.heap.get? b=some o->b∉X.ex->b∉ch:=fun b o e hx hb=>by
  rcases(hch b hb).1 with z|z
  ·exact hx z
  ·exact absurd (aS (ay e) z) (dq _)
 have cellK:∀x c,X.env.cells.lookup x=some c->∀v,s.heap.IsCell c v->h'.IsCell c v:=fun x c e v ⟨o,ho,hd⟩=>by
  have nch:c∉ch:=fun z=>(hch c z).2.2.1 x c e rfl;by_cases hc:c∈X.fs
  ·obtain⟨sl,q⟩:=slot c o (I.cne x c e) hc nch ho (I.freeC x c e)
   exact⟨_,q,hd⟩
  ·exact⟨o,keep c o (I.cne x c e) hc nch ho (I.freeC x c e),hd⟩
 refine⟨I.ok,I.os,hg,⟨fun b o e n hb hx=>?_,fun b o e n hb hx=>?_,fun b o e n hx=>?_,fun b o e hx=>?_,fun b xs e=>tups b xs (I.base.tups b xs e),fun b o xs e=>frzs b o xs (I.base.frzs b o xs e),fun b ps e=>?_⟩,?_,fun x c e=>?_,?_,fun x c e=>?_,fun p hp=>?_,hok,I.len⟩
 ·exact keep b o (neL b o e) hb (neC b o e hx) (I.base.keep b o e n hb hx) (I.base.free b o e n hx)
 ·obtain⟨sl,e1⟩:=I.base.slot b o e n hb hx
  obtain⟨sl',e2⟩:=slot b _ (neL b o e) hb (neC b o e hx) e1 (I.base.free b o e n hx);exact⟨sl',e2⟩
 ·obtain⟨o',e1⟩:=I.base.there b o e hx
  exact free b o' (neC b o e hx) e1 (I.base.free b o e n hx)
 ·obtain⟨o',e1⟩:=I.base.there b o e hx
  exact there b o' (neC b o e hx) e1
 ·obtain⟨m1,e1⟩:=I.base.tbls b ps e
  obtain⟨m2,e2⟩:=tbls b _ e1;exact⟨m1++m2,by rw[e2,Array.append_assoc]⟩
 ·obtain⟨m,hn,hl⟩:=I.loc
  refine⟨m,ns m hn,fun i x v e1 e2 e3=>?_⟩;obtain⟨u,r,l⟩:=hl i x v e1 e2 e3;refine⟨u,r,?_⟩;rcases l with l|⟨k,c,e,z⟩
  ·exact .inl l
  ·exact .inr ⟨k,c,e,cellK x c e _ z⟩
 ·obtain⟨v,z⟩:=I.cell x c e
  exact⟨v,cellK x c e v z⟩
 ·obtain⟨m,⟨o,_,_,ho,_⟩,_⟩:=I.loc
  exact free _ o (fun z=>(hch _ z).2.1 rfl) ho I.free
 ·obtain⟨v,o,ho,hd⟩:=I.cell x c e
  exact free c o (fun z=>(hch c z).2.2.1 x c e rfl) ho (I.freeC x c e)
 ·obtain⟨e,n,ne,nf,d⟩:=I.pin p hp
  have nch:p.1∉ch:=fun z=>(hch p.1 z).2.2.2 p hp rfl;exact⟨keep p.1 p.2 ne nf nch e n,free p.1 p.2 nch e n,ne,nf,d⟩
theorem Inv.un{t':Nat}(I:Inv X pins σ H s)(u:Un X.fs [] H H' s.heap h')(hok:HOk X.prog X.w H' h'):Inv X pins σ H' {s with heap:=h',toks:=t'}:=by
 obtain⟨m,⟨o,es,ep,ho,r⟩,_⟩:=id I.loc;obtain⟨sl,hL⟩:=u.any ho I.free (by simp);exact I.step (g':=s.gens) (d':=s.drawn) (ch:=[]) (fun _ z=>nomatch z) (fun b o _ hb _ e n=>u.keep b o e n hb (by simp)) (fun b o _ hb _ e n=>u.slot b o e n hb (by simp)) (fun b o _ e n=>u.free b o e n (by simp)) (fun b o _ e=>u.there b o e (by simp)) u.tups u.frzs u.tbls (fun m' hm=>by
  obtain⟨o',es',ep',ho',r'⟩:=hm;rw[ho]at ho';cases ho';exact⟨_,es',ep',hL,r'⟩) hok I.bare
theorem Inv.call{g':Array zS}{t':Nat}{d':Drawn}{ch:List Addr}(I:Inv X pins σ H s)(u:Un (frs X.stack) ch H H' s.heap h')(hok:HOk X.prog X.w H' h')(hg:kB g')
  (hch:∀b∈ch,(b∈X.ex\/X.s₀.heap.objs.size<=b)/\b≠X.env.locals/\(∀x c,X.env.cells.lookup x=some c->c≠b)/\∀p∈X.pn++pins,p.1≠b):
  Inv X pins σ H' {s with heap:=h',gens:=g',drawn:=d',toks:=t'}:=by
 obtain⟨m,⟨o,es,ep,ho,r⟩,_⟩:=id I.loc;obtain⟨sl,hL⟩:=u.any ho I.free fun z=>(hch _ z).2.1 rfl;exact I.step (ch:=ch) hch (fun b o hL hb hc e n=>u.keep b o e n (fun z=>(aO.mp (I.vZ b z)).elim hL hb) hc) (fun b o _ _ hc e n=>u.any e n hc) (fun b o hc e n=>u.free b o e n hc) (fun b o hc e=>u.there b o e hc) u.tups u.frzs u.tbls (fun m' hm=>by
  obtain⟨o',es',ep',ho',r'⟩:=hm;rw[ho]at ho';cases ho';exact⟨_,es',ep',hL,r'⟩) hok hg
theorem Inv.turned{t':Nat}{it:Addr}(I:Inv X pins σ H s)(k:∀b o,b≠it->s.heap.get? b=some o->h'.get? b=some o)(hn:H it=none)(hL:it≠X.env.locals)
  (h1:it∈X.ex\/X.s₀.heap.objs.size<=it)(h2:∀x c,X.env.cells.lookup x=some c->c≠it)(h3:∀p∈X.pn++pins,p.1≠it):Inv X pins σ H {s with heap:=h',toks:=t'}:=by
 have nit:∀b u,H b=some u->b≠it:=fun b u e z=>by rw[z,hn]at e;cases e
 refine I.step (g':=s.gens) (d':=s.drawn) (ch:=[it]) (fun b hb=>?_) (fun b o _ _ hc e _=>k b o (fun z=>hc (by simp[z])) e) (fun b o _ _ hc e _=>⟨o.slots,k b o (fun z=>hc (by simp[z])) e⟩) (fun _ _ _ _ n=>n)
  (fun b o hc e=>⟨o,k b o (fun z=>hc (by simp[z])) e⟩) (fun _ _ e=>e) (fun _ _ _ e=>e) (fun b ps e=>⟨#[],by rw[e];simp⟩) (fun m hm=>?_) (fun b u e=>?_) I.bare
 ·have e:b=it:=by simpa using hb
  subst e;exact⟨h1,hL,h2,h3⟩
 ·obtain⟨o,es,ep,ho,r⟩:=hm
  exact⟨o,es,ep,k _ o (dD hL) ho,r⟩
 ·refine(I.hok b u e).oH (fun c v hc q=>k c v ?_ q) (fun _ q=>q) fun _ _ q=>q
  rcases hc with z|z
  ·rw[z];exact nit b u e
  ·exact nit c _ z
theorem Inv.tok(I:Inv X pins σ H s)(t:Nat):Inv X pins σ H {s with toks:=t}:=I.un (h':=s.heap) (t':=t) Un.refl I.hok
theorem Inv.kept{t':Nat}(I:Inv X pins σ H s)(k:∀b u,s.heap.get? b=some u->h'.get? b=some u):Inv X pins σ H {s with heap:=h',toks:=t'}:=I.un (Un.kept k) (I.hok.kept k)
theorem Inv.laid{a:Addr}{o:HO}{t':Nat}(I:Inv X pins σ H s)(k:∀b u,s.heap.get? b=some u->h'.get? b=some u)(hp:s.heap.objs.size<=a)(new:dN X.prog X.w (upd H a o) h' a o):
  Inv X pins σ (upd H a o) {s with heap:=h',toks:=t'}:=I.un (Un.laid k hp (I.hok.fresh hp)) (I.hok.laid k hp new)
theorem Inv.write{x e:Addr}{o:HO}{t':Nat}(I:Inv X pins σ H s)(mu:Mut (H x))(he:e=x\/H e=some (.own x))(k:∀b u,b≠e->s.heap.get? b=some u->h'.get? b=some u)(heo:∃u,h'.get? e=some u)
  (new:dN X.prog X.w (upd H x o) h' x o):Inv X pins σ (upd H x o) {s with heap:=h',toks:=t'}:=I.un (Un.write mu he k heo) (I.hok.write mu he k heo new)
theorem Inv.si{pins':List (Addr×Obj)}(I:Inv X pins σ H s)(h:∀p∈pins',s.heap.get? p.1=some p.2/\H p.1=none/\p.1≠X.env.locals/\p.1∉X.fs/\∀v,p.2.data≠.cell v):Inv X pins' σ H s:=
 ⟨I.ok,I.os,I.bare,I.base,I.loc,I.cell,I.free,I.freeC,fun p hp=>(bN.mp hp).elim (fun z=>I.pin p (cV _ z)) (h p),I.hok,I.len⟩
theorem oW{N:List Str}(hN:N.Nodup){i j:Nat}{x:Str}(a:N[i]? =some x)(b:N[j]? =some x):i=j:=by
 obtain⟨h1,e1⟩:=aU.mp a;obtain⟨h2,e2⟩:=aU.mp b;exact(du hN).mp (e1.trans e2.symm)
theorem yJ{M:Model}{A:Around}{E:Value->Shared->Prop}{i:Nat}{x:Str}{v:V}{u:Value}{Q:Unit->Shared->Prop}(I:Inv X pins σ H s)(hN:X.N.Nodup)(hi:X.N[i]? =some x)(hx:Loc X.env.scope x)(r:RelV v u)
  (h:∀s',Inv X pins (σ.set i (some v)) H s'->(∃a,kA a s.heap s'.heap/\(a=X.env.locals\/X.env.cells.lookup x=some a))->Q () s')(hf:X.fn x=true\/X.env.scope.names.lookup x=some .local:=by first |exact .inl rfl|exact .inr rfl|assumption):wpAny M A (storeName X.env x u) Q E s:=by
 obtain⟨m,hn,hl⟩:=id I.loc;have hcls:(X.env.scope.kind== .class||(X.env.scope.kind== .module&&X.env.locals != X.env.globals))=false:=by rw[I.ok.kind];rfl
 have hiσ:i<σ.length:=by rw[I.len];exact(aU.mp hi).1
 have cne:=I.cne;have tracked:∀{a:Addr}{h':Heap},(∃o,s.heap.get? a=some o/\H a=none)->kA a s.heap h'->HOk X.prog X.w H h':=fun{a h'} ha hs b ob e=>by
  obtain⟨_,_,hfree⟩:=ha;refine(I.hok b ob e).oH (fun c w' hc q=>(hs.2 c ?_).trans q) (fun _ q=>q) fun _ _ q=>q;rintro rfl;rcases hc with rfl|hc
  ·rw[hfree]at e;cases e
  ·rw[hfree]at hc;cases hc
 rcases hx with hk|hk
 ·refine wpAny_storeName_local hk hn (fun h' hn' hs=>?_) hcls
  obtain⟨oL,_,_,hoL,_⟩:=id hn;refine h _ ⟨I.ok,I.os,I.bare,⟨fun b o e n hb hx=>?_,fun b o e n hb hx=>?_,I.base.free,fun b o e hx=>?_,I.base.tups,I.base.frzs,I.base.tbls⟩,⟨_,hn',fun j y v' e1 e2 e3=>?_⟩,fun y c e=>?_,I.free,I.freeC,fun p hp=>?_,tracked ⟨oL,hoL,I.free⟩ hs,by simpa using I.len⟩ ⟨_,hs,.inl rfl⟩
  ·exact(hs.2 b (a0 (aS (ay e) I.ok.above))).trans (I.base.keep b o e n hb hx)
  ·obtain⟨sl,e1⟩:=I.base.slot b o e n hb hx
   exact⟨sl,(hs.2 b (a0 (aS (ay e) I.ok.above))).trans e1⟩
  ·obtain⟨o',e1⟩:=I.base.there b o e hx
   exact⟨o',(hs.2 b (a0 (aS (ay e) I.ok.above))).trans e1⟩
  ·by_cases hj:j=i
   ·subst hj
    rw[hi]at e1;cases e1;rw[yD hiσ]at e2;cases e2;exact⟨u,r,.inl ⟨hk,by simp⟩⟩
   ·rw[lG (dD hj)]at e2
    obtain⟨u',r',q⟩:=hl j y v' e1 e2 e3;refine⟨u',r',?_⟩;rcases q with⟨k,e⟩ |⟨k,c,e,z⟩
    ·refine .inl ⟨k,?_⟩
     have :y≠x:=fun e=>hj (oW hN e1 (e▸hi));simp[this,e]
    ·exact .inr ⟨k,c,e,z.sameBut hs (cne y c e)⟩
  ·obtain⟨w',z⟩:=I.cell y c e
   exact⟨w',z.sameBut hs (cne y c e)⟩
  ·obtain⟨e,n,ne,nf,d⟩:=I.pin p hp
   exact⟨(hs.2 p.1 ne).trans e,n,ne,nf,d⟩
 ·have hfn:X.fn x=true:=by
   rcases hf with z|z
   ·exact z
   ·rw[z]at hk;cases hk
  obtain⟨c,hc⟩:=I.ok.has x (.inl hk);obtain⟨w',z⟩:=I.cell x c hc;refine wpAny_storeName_cell I.ok.kind hk hc z (fun h' hc' hs=>?_);obtain⟨oc,hoc,hocd⟩:=id z;refine h {s with heap:=h'} ⟨I.ok,I.os,I.bare,⟨fun b o e n hb hx=>?_,fun b o e n hb hx=>?_,I.base.free,fun b o e hx=>?_,I.base.tups,I.base.frzs,I.base.tbls⟩,⟨m,hn.sameBut hs (dD (cne x c hc)),fun j y v' e1 e2 e3=>?_⟩,fun y c' e=>?_,I.free,I.freeC,fun p hp=>?_,tracked ⟨oc,hoc,I.freeC x c hc⟩ hs,by simpa using I.len⟩ ⟨c,hs,.inr hc⟩
  ·exact(hs.2 b (a0 (aS (ay e) (I.ok.cab x c hfn hc)))).trans (I.base.keep b o e n hb hx)
  ·obtain⟨sl,e1⟩:=I.base.slot b o e n hb hx
   exact⟨sl,(hs.2 b (a0 (aS (ay e) (I.ok.cab x c hfn hc)))).trans e1⟩
  ·obtain⟨o',e1⟩:=I.base.there b o e hx
   exact⟨o',(hs.2 b (a0 (aS (ay e) (I.ok.cab x c hfn hc)))).trans e1⟩
  ·by_cases hj:j=i
   ·subst hj
    rw[hi]at e1;cases e1;rw[yD hiσ]at e2;cases e2;exact⟨u,r,.inr ⟨.inl hk,c,hc,hc'⟩⟩
   ·rw[lG (dD hj)]at e2
    obtain⟨u',r',q⟩:=hl j y v' e1 e2 e3;refine⟨u',r',?_⟩;rcases q with q|⟨k,c',e,z'⟩
    ·exact .inl q
    ·refine .inr ⟨k,c',e,z'.sameBut hs ?_⟩
     rintro rfl;exact hj (oW hN e1 (I.ok.inj _ _ _ e hc▸hi))
  ·by_cases hcc:c'=c
   ·subst hcc;exact⟨_,hc'⟩
   ·obtain⟨w2,z2⟩:=I.cell y c' e
    exact⟨w2,z2.sameBut hs hcc⟩
  ·obtain⟨e,n,ne,nf,d⟩:=I.pin p hp
   refine⟨(hs.2 p.1 ?_).trans e,n,ne,nf,d⟩;intro q;rw[q,hoc]at e;have q':oc=p.2:=a9 e;exact d w' (by rw[<-q'];exact hocd)
theorem oG{M:Model}{A:Around}{E:Value->Shared->Prop}{i:Nat}{x:Str}{v:V}{u:Value}{Q:Unit->Shared->Prop}(I:Inv X pins σ H s)(hN:X.N.Nodup)(hi:X.N[i]? =some x)(hx:Loc X.env.scope x)(r:RelV v u)
  (h:∀s',Inv X pins (σ.set i (some v)) H s'->Q () s')(hf:X.fn x=true\/X.env.scope.names.lookup x=some .local:=by first |exact .inl rfl|exact .inr rfl|assumption):wpAny M A (storeName X.env x u) Q E s:=
 yJ I hN hi hx r (fun s' I' _=>h s' I') hf
theorem Inv.call'{s':Shared}{ch:List Addr}(I:Inv X pins σ H s)(ho:s'.os=s.os)(u:Un (frs X.stack) ch H H' s.heap s'.heap)(hok:HOk X.prog X.w H' s'.heap)(hg:kB s'.gens)
  (hch:∀b∈ch,(b∈X.ex\/X.s₀.heap.objs.size<=b)/\b≠X.env.locals/\(∀x c,X.env.cells.lookup x=some c->c≠b)/\∀p∈X.pn++pins,p.1≠b):Inv X pins σ H' s':=by
 obtain⟨h',g',d',t',o'⟩:=s';have e:o'=s.os:=ho;subst e;exact I.call (g':=g') (t':=t') (d':=d') u hok hg hch
end
noncomputable abbrev XK:=Value->Option Addr->Hp->Prop
noncomputable abbrev St:=List (Option V)
noncomputable abbrev VK:=V->Hp->Prop
noncomputable abbrev TE:=St->Hp->VK->Prop
noncomputable abbrev TT:=St->Hp->(Bool->Hp->Prop)->Prop
noncomputable abbrev TA:=St->Hp->(List V->Hp->Prop)->Prop
structure Ends where
 nx:St->Hp->Prop
 rt:VK
 bk:St->Hp->Prop:=fun _ _=>False
 ct:St->Hp->Prop:=fun _ _=>False
noncomputable abbrev TS:=Ends->St->Hp->Prop
noncomputable def EP(X:Cx)(pins:List (Addr×Obj))(σ:St)(Q:VK)(u:Value)(s':Shared):Prop:=∃v H',Inv X pins σ H' s'/\RelV v u/\Q v H'
noncomputable def TP(X:Cx)(pins:List (Addr×Obj))(σ:St)(Q:Bool->Hp->Prop)(b:Bool)(s':Shared):Prop:=∃H',Inv X pins σ H' s'/\Q b H'
noncomputable def AP(X:Cx)(pins:List (Addr×Obj))(σ:St)(Q:List V->Hp->Prop)(us:List Value)(s':Shared):Prop:=∃vs H',Inv X pins σ H' s'/\bU vs us/\Q vs H'
noncomputable def SP(X:Cx)(pins:List (Addr×Obj))(D:Ends)(f:Flow)(s':Shared):Prop:=
 match f with
 |.next=>∃σ' H',Inv X pins σ' H' s'/\D.nx σ' H'
 |.brk=>∃σ' H',Inv X pins σ' H' s'/\D.bk σ' H'
 |.cont=>∃σ' H',Inv X pins σ' H' s'/\D.ct σ' H'
 |.ret u=>∃v σ' H',Inv X pins σ' H' s'/\RelV v u/\D.rt v H'
noncomputable def PE(X:Cx)(e:Expr)(t:TE):Prop:=
 ∀(pins:List (Addr×Obj))(s:Shared)(σ:St)(H:Hp)(Q:VK),Inv X pins σ H s->t σ H Q->wpAny (model X.prog X.w) X.A (eval e X.env) (EP X pins σ Q) X.xe s
noncomputable def PT(X:Cx)(e:Expr)(t:TT):Prop:=
 ∀(pins:List (Addr×Obj))(s:Shared)(σ:St)(H:Hp)(Q:Bool->Hp->Prop),Inv X pins σ H s->t σ H Q->wpAny (model X.prog X.w) X.A (isTrue e X.env (eval e X.env)) (TP X pins σ Q) X.xe s
noncomputable def PW(X:Cx)(e:Expr)(t:TT):Prop:=
 ∀(whole:Sem Value)(pins:List (Addr×Obj))(s:Shared)(σ:St)(H:Hp)(Q:Bool->Hp->Prop),Inv X pins σ H s->t σ H Q->wpAny (model X.prog X.w) X.A (isTrue e X.env whole) (TP X pins σ Q) X.xe s
theorem PW.pt{X:Cx}{e:Expr}{t:TT}(h:PW X e t):PT X e t:=h _
noncomputable def PA(X:Cx)(es:List Expr)(t:TA):Prop:=
 ∀(pos:Pos)(pins:List (Addr×Obj))(s:Shared)(σ:St)(H:Hp)(Q:List V->Hp->Prop),Inv X pins σ H s->t σ H Q->wpAny (model X.prog X.w) X.A (spliced (backTo pos (bB es X.env))) (AP X pins σ Q) X.xe s
noncomputable def PS(X:Cx)(st:Stmt)(t:TS):Prop:=
 ∀(pins:List (Addr×Obj))(s:Shared)(σ:St)(H:Hp)(D:Ends),Inv X pins σ H s->t D σ H->wpAny (model X.prog X.w) X.A (exec st X.env) (SP X pins D) X.xe s
noncomputable def PSs(X:Cx)(st:List Stmt)(t:TS):Prop:=
 ∀(pins:List (Addr×Obj))(s:Shared)(σ:St)(H:Hp)(D:Ends),Inv X pins σ H s->t D σ H->wpAny (model X.prog X.w) X.A (execs st X.env) (SP X pins D) X.xe s
theorem thn{α:Type}{t:Sem α}{Q Q':α->Shared->Prop}{M:Model}{A:Around}{E:Value->Shared->Prop}{s:Shared}(h:wpAny M A t Q E s)(hQ:∀a s,Q a s->Q' a s):wpAny M A t Q' E s:=dk h hQ fun _ _ x=>x
section
variable {X:Cx}
noncomputable def rM(i:Nat):TE:=fun σ H Q=>∃v,σ[i]? =some (some v)/\Q v H
noncomputable def tC(v:V):TE:=fun _ H Q=>Q v H
theorem Bc{i:Nat}{x:Str}{pos:Pos}(hN:X.N[i]? =some x)(hv:Vis X.env.scope x)(hd:(x==("__debug__":Str))=false:=by decide) (hcd:(x==("__classdict__":Str))=false:=by decide):PE X (.Name x pos) (rM i):=by
 intro pins s σ H Q I h;obtain⟨v,e,h⟩:=h;obtain⟨m,hn,hl⟩:=I.loc;obtain⟨u,r,l⟩:=hl i x v hN e hv;have fin:EP X pins σ Q u s:=⟨v,H,I,r,h⟩;rcases l with⟨hk,hm⟩ |⟨hk,c,hc,hcell⟩
 ·exact zJ (wpAny_loadName_local I.ok.kind hk hn hm fin) hd
 ·rcases hk with hk|hk
  ·exact zJ (wpAny_loadName_cell I.ok.kind hk hc hcell fin) hd
  ·exact zJ (wpAny_loadName_free I.ok.kind hk hc hcell fin hcd) hd
theorem Bm{i j pos}:PE X (.Constant (.int i) j pos) (tC (.int i)):=fun _ _ _ H _ I h=>wpAny_Constant_int ⟨.int i,H,I.tok _,⟨_,rfl⟩,h⟩
theorem pe_bl{b j pos}:PE X (.Constant (.bool b) j pos) (tC (.bl b)):=fun _ _ _ H _ I h=>Constant_bool ⟨.bl b,H,I,rfl,h⟩
theorem Bk{j pos}:PE X (.Constant .none j pos) (tC .non):=fun _ _ _ H _ I h=>Constant_none ⟨.non,H,I,rfl,h⟩
theorem Be{x j pos}:PE X (.Constant (.str x) j pos) (tC (.str x)):=fun _ _ _ H _ I h=>Calls.Constant_str ⟨.str x,H,I.tok _,⟨_,rfl⟩,h⟩
noncomputable def Gl(X:Cx)(x:Str):Prop:=X.env.kindOf x=some .globalImplicit
theorem lY{E:Value->Shared->Prop}{pins:List (Addr×Obj)}{s:Shared}{σ:St}{H:Hp}{x:Str}{u:Value}{pos:Pos}{Q:Value->Shared->Prop}(I:Inv X pins σ H s)(hg:Gl X x)(hm:X.mg x=some u)(h:Q u s)
  (hd:(x==("__debug__":Str))=false:=by decide):wpAny (model X.prog X.w) X.A (eval (.Name x pos) X.env) Q E s:=
 tD I.ok.kind hg (Calls.loadGlobal_global (by rw[I.ok.glob];exact I.mod.glob.keeps I.bk) hm h) hd
theorem mR{E:Value->Shared->Prop}{pins:List (Addr×Obj)}{s:Shared}{σ:St}{H:Hp}{x:Str}{u:Value}{pos:Pos}{Q:Value->Shared->Prop}(I:Inv X pins σ H s)(hg:Gl X x)(hm:X.mg x=none)(hv:fK x=some u)(h:Q u s)
  (hn:x≠"__name__":=by decide) (hd:(x==("__debug__":Str))=false:=by decide):wpAny (model X.prog X.w) X.A (eval (.Name x pos) X.env) Q E s:=by
 obtain⟨mb,h1,h2⟩:=I.mod.blt;exact tD I.ok.kind hg (Calls.loadGlobal_builtin (by rw[I.ok.glob];exact I.mod.glob.keeps I.bk) hm (by rw[I.ok.blt];exact h1.keeps I.bk) ((h2 x hn).trans hv) h) hd
theorem xU{x:Str}{v:V}{u:Value}{pos:Pos}(hg:Gl X x)(hm:X.mg x=some u)(r:RelV v u)(hd:(x==("__debug__":Str))=false:=by decide):PE X (.Name x pos) (tC v):=
 fun _ _ _ H _ I h=>lY I hg hm ⟨v,H,I,r,h⟩ hd
theorem xV{x:Str}{v:V}{u:Value}{pos:Pos}(hg:Gl X x)(hm:X.mg x=none)(hv:fK x=some u)(r:RelV v u)(hn:x≠"__name__":=by decide) (hd:(x==("__debug__":Str))=false:=by decide):PE X (.Name x pos) (tC v):=
 fun _ _ _ H _ I h=>mR I hg hm hv ⟨v,H,I,r,h⟩ hn hd
variable {a b:Expr}{ta tb:TE}{pos:Pos}
variable {tA tB':TT}{rest:List Expr}
noncomputable def tAnd(t u:TT):TT:=fun σ H Q=>t σ H fun c H1=>if c=true then u σ H1 Q else Q false H1
noncomputable def tOr(t u:TT):TT:=fun σ H Q=>t σ H fun c H1=>if c=true then Q true H1 else u σ H1 Q
noncomputable def tNot(t:TT):TT:=fun σ H Q=>t σ H fun c H1=>Q (!c) H1
theorem pw_and1(ha:PT X a tA):PW X (.BoolOp .And [a] pos) tA:=by
 intro wh pins s σ H Q I h;refine isTrue_and (thn (ha pins s σ H Q I h) fun c s1 e=>?_);cases c with
 |true=>exact isTrue_and_nil e
 |false=>exact e
theorem pw_or1(ha:PT X a tA):PW X (.BoolOp .Or [a] pos) tA:=by
 intro wh pins s σ H Q I h;refine isTrue_or (thn (ha pins s σ H Q I h) fun c s1 e=>?_);cases c with
 |false=>exact isTrue_or_nil e
 |true=>exact e
theorem A0(ha:PT X a tA)(hb:PW X (.BoolOp .And (b::rest) pos) tB'):PW X (.BoolOp .And (a::b::rest) pos) (tAnd tA tB'):=by
 intro wh pins s σ H Q I h;refine isTrue_and (thn (ha pins s σ H _ I h) fun c s1 ⟨H1,I1,q1⟩=>?_);cases c with
 |true=>exact hb wh pins s1 σ H1 Q I1 q1
 |false=>exact⟨H1,I1,q1⟩
theorem pw_or(ha:PT X a tA)(hb:PW X (.BoolOp .Or (b::rest) pos) tB'):PW X (.BoolOp .Or (a::b::rest) pos) (tOr tA tB'):=by
 intro wh pins s σ H Q I h;refine isTrue_or (thn (ha pins s σ H _ I h) fun c s1 ⟨H1,I1,q1⟩=>?_);cases c with
 |true=>exact⟨H1,I1,q1⟩
 |false=>exact hb wh pins s1 σ H1 Q I1 q1
theorem pt_not(ha:PT X a tA):PT X (.UnaryOp .Not a pos) (tNot tA):=by
 intro pins s σ H Q I h;exact isTrue_not (ha pins s σ H (fun c H1=>Q (!c) H1) I h)
noncomputable def As(ta tb:TE):TE:=fun σ H Q=>ta σ H fun x H1=>∃c,x=.bl c/\if c=true then tb σ H1 Q else Q (.bl false) H1
noncomputable def tOrV(ta tb:TE):TE:=fun σ H Q=>ta σ H fun x H1=>∃c,x=.bl c/\if c=true then Q (.bl true) H1 else tb σ H1 Q
noncomputable def Ap(ta:TE):TE:=fun σ H Q=>ta σ H fun x H1=>∃c,x=.bl c/\Q (.bl (!c)) H1
theorem Bj{op}{t:TE}(h:PE X a t):PE X (.BoolOp op [a] pos) t:=fun pins s σ H Q I hw=>BoolOp_one (h pins s σ H Q I hw)
theorem Br(ha:PE X a ta)(hb:PE X (.BoolOp .And (b::rest) pos) tb):PE X (.BoolOp .And (a::b::rest) pos) (As ta tb):=by
 intro pins s σ H Q I h;refine BoolOp_and (thn (ha pins s σ H _ I h) fun v s1 ⟨x,H1,I1,r1,q1⟩=>?_);obtain⟨c,rfl,q1⟩:=q1;cases r1;refine cN ?_;cases c with
 |true=>exact hb pins s1 σ H1 Q I1 q1
 |false=>exact⟨.bl false,H1,I1,rfl,q1⟩
theorem pe_or(ha:PE X a ta)(hb:PE X (.BoolOp .Or (b::rest) pos) tb):PE X (.BoolOp .Or (a::b::rest) pos) (tOrV ta tb):=by
 intro pins s σ H Q I h;refine BoolOp_or (thn (ha pins s σ H _ I h) fun v s1 ⟨x,H1,I1,r1,q1⟩=>?_);obtain⟨c,rfl,q1⟩:=q1;cases r1;refine cN ?_;cases c with
 |false=>exact hb pins s1 σ H1 Q I1 q1
 |true=>exact⟨.bl true,H1,I1,rfl,q1⟩
theorem pe_not(ha:PE X a ta):PE X (.UnaryOp .Not a pos) (Ap ta):=by
 intro pins s σ H Q I h;refine UnaryOp_ (thn (ha pins s σ H _ I h) fun v s1 ⟨x,H1,I1,r1,q1⟩=>?_);obtain⟨c,rfl,q1⟩:=q1;cases r1;exact not_of (cN ⟨.bl (!c),H1,I1,rfl,q1⟩)
noncomputable def tIf(t:TT)(ta tb:TE):TE:=fun σ H Q=>t σ H fun c H1=>if c=true then ta σ H1 Q else tb σ H1 Q
theorem Bn{c:Expr}(hc:PT X c tA)(ha:PE X a ta)(hb:PE X b tb):PE X (.IfExp c a b pos) (tIf tA ta tb):=by
 intro pins s σ H Q I h;refine wpAny_IfExp (thn (hc pins s σ H _ I h) fun d s1 ⟨H1,I1,q1⟩=>?_);cases d with
 |true=>exact ha pins s1 σ H1 Q I1 q1
 |false=>exact hb pins s1 σ H1 Q I1 q1
end
noncomputable def SqL(K:aa)(H:Hp)(a:Addr)(xs:List V):Prop:=
 Rd H a (.lst xs)\/
  ∃(o:Obj)(its:Array Value)(n:Nat),K.lookup a=some o/\o.cls=.type "list"/\o.dict=none/\o.data=.seq its n/\its.size<=sizeLine/\bU xs its.toList
noncomputable def SqT(K:aa)(H:Hp)(a:Addr)(xs:List V):Prop:=
 Rd H a (.tup xs)\/
  ∃(o:Obj)(its:Array Value)(n:Nat),K.lookup a=some o/\o.cls=.type "tuple"/\o.data=.seq its n/\its.size<=sizeLine/\bU xs its.toList
noncomputable def absV:Value->Option V
 |.none=>some .non
 |.bool b=>some (.bl b)
 |.int i _=>some (.int i)
 |.str x _=>some (.str x)
 |.bytes b _=>some (.byt b)
 |.float b _=>some (.flt b)
 |.ref a=>some (.ref a)
 |.type n=>some (.ty n)
 |_=>none
theorem RelV.abs{x:V}{u:Value}(r:RelV x u):absV u=some x:=by
 cases x with
 |non=>cases r;rfl
 |bl _=>cases r;rfl
 |int _=>obtain⟨t,rfl⟩:=r;rfl
 |str _=>obtain⟨t,rfl⟩:=r;rfl
 |byt _=>obtain⟨t,rfl⟩:=r;rfl
 |flt _=>obtain⟨t,rfl⟩:=r;rfl
 |ref _=>cases r;rfl
 |ty _=>cases r;rfl
theorem RelV.inj{x y:V}{u:Value}(r:RelV x u)(q:RelV y u):x=y:=a9 (r.abs.symm.trans q.abs)
theorem bU.inj{xs ys:List V}{us:List Value}(h:bU xs us):bU ys us->xs=ys:=by
 induction h generalizing ys with
 |nil=>intro k;cases k;rfl
 |cons r k ih=>
  intro w;cases w with
  |cons r' w'=>rw[r.inj r',ih w']
section
variable {X:Cx}{pins:List (Addr×Obj)}{σ:St}{H:Hp}{s:Shared}{a:Addr}{xs ys:List V}
theorem SqL.of{K:aa}(h:H a=some (.lst xs)):SqL K H a xs:=.inl (.inl h)
theorem SqT.of{K:aa}(h:H a=some (.tup xs)):SqT K H a xs:=.inl (.inl h)
theorem Inv.list(I:Inv X pins σ H s)(h:SqL X.K H a xs):∃its:List Value,bU xs its/\PlainL s.heap a its.toArray/\xs.length<=sizeLine:=by
 rcases h with h|⟨o,its,n,hk,hc,hd,hs,hz,r⟩
 ·obtain⟨z,its,n,r,e⟩:=h.ok I.hok
  exact⟨its,r,⟨_,n,e,rfl,rfl,rfl⟩,z⟩
 ·refine⟨its.toList,r,⟨o,n,I.kIn a o hk,hc,hd,by simpa using hs⟩,?_⟩
  have e:=r.length;simp only[ax]at e;omega
theorem Inv.tuple(I:Inv X pins σ H s)(h:SqT X.K H a xs):∃its:List Value,bU xs its/\IsTup s.heap a its.toArray/\xs.length<=sizeLine:=by
 rcases h with h|⟨o,its,n,hk,hc,hs,hz,r⟩
 ·obtain⟨z,its,r,p⟩:=h.ok I.hok
  exact⟨its,r,p,z⟩
 ·refine⟨its.toList,r,⟨o,I.kIn a o hk,hc,n,by simpa using hs⟩,?_⟩
  have e:=r.length;simp only[ax]at e;omega
theorem Inv.uK(I:Inv X pins σ H s)(h:SqL X.K H a xs)(h':SqL X.K H a ys):xs=ys:=by
 obtain⟨its,r,⟨o,n,e,_,_,d⟩,_⟩:=I.list h;obtain⟨its',r',⟨o',n',e',_,_,d'⟩,_⟩:=I.list h';rw[e]at e';cases e';rw[d]at d';injection d' with d1 _
 have :its=its':=by simpa using congrArg xu d1
 subst this;exact r.inj r'
theorem Inv.qx(I:Inv X pins σ H s)(h:SqT X.K H a xs)(h':SqT X.K H a ys):xs=ys:=by
 obtain⟨its,r,⟨o,e,_,n,d⟩,_⟩:=I.tuple h;obtain⟨its',r',⟨o',e',_,n',d'⟩,_⟩:=I.tuple h';rw[e]at e';cases e';rw[d]at d';injection d' with d1 _
 have :its=its':=by simpa using congrArg xu d1
 subst this;exact r.inj r'
end
section
variable {X:Cx}{st:Stmt}{rest:List Stmt}{t u:TS}{e:Expr}{te:TE}{pos:Pos}
noncomputable def tX:TS:=fun D σ H=>D.nx σ H
noncomputable def pW(t u:TS):TS:=fun D σ H=>t {D with nx:=u D} σ H
theorem se:PSs X [] tX:=fun _ _ σ H _ I h=>wpAny_execs_nil ⟨σ,H,I,h⟩
theorem lN(h1:PS X st t)(h2:PSs X rest u):PSs X (st::rest) (pW t u):=by
 intro pins s σ H D I h;refine wpAny_execs_cons (thn (h1 pins s σ H {D with nx:=u D} I h) fun f s1 q=>?_);cases f with
 |next =>
  obtain⟨σ',H',I',q⟩:=q;exact h2 pins s1 σ' H' D I' q
 |ret v=>exact q
 |brk=>exact q
 |cont=>exact q
noncomputable def Ar:TS:=fun D σ H=>D.bk σ H
noncomputable def tCont:TS:=fun D σ H=>D.ct σ H
theorem xQ:PS X (.Pass pos) tX:=fun _ _ σ H _ I h=>wpAny_Pass ⟨σ,H,I,h⟩
theorem A6:PS X (.Break pos) Ar:=fun _ _ σ H _ I h=>wpAny_Break ⟨σ,H,I,h⟩
theorem uj:PS X (.Continue pos) tCont:=fun _ _ σ H _ I h=>wpAny_Continue ⟨σ,H,I,h⟩
theorem Inv.quiet{pins:List (Addr×Obj)}{σ:St}{H:Hp}{s:Shared}(I:Inv X pins σ H s):interactive X.env=false:=by simp[interactive,I.ok.kind]
noncomputable def Aq(te:TE):TS:=fun D σ H=>te σ H fun _ H1=>D.nx σ H1
theorem xR(he:PE X e te)(hs:ot e none pos.line X.env=pure false:=by rfl):PS X (.Expr e pos) (Aq te):=by
 intro pins s σ H D I h;exact wpAny_Expr_any (thn (he pins s σ H _ I h) fun v s1 ⟨x,H1,I1,r1,q1⟩=>⟨σ,H1,I1,q1⟩) I.quiet hs
noncomputable def tRet(te:TE):TS:=fun D σ H=>te σ H D.rt
theorem A4(he:PE X e te):PS X (.Return (some e) pos) (tRet te):=by
 intro pins s σ H D I h;exact wpAny_Return_some (thn (he pins s σ H _ I h) fun v s1 ⟨x,H1,I1,r1,q1⟩=>⟨x,σ,H1,I1,r1,q1⟩)
noncomputable def An:TS:=fun D _ H=>D.rt .non H
theorem ps_retN:PS X (.Return none pos) An:=fun _ _ σ H _ I h=>wpAny_Return_none ⟨.non,σ,H,I,rfl,h⟩
noncomputable def tIfS(c:TT)(t u:TS):TS:=fun D σ H=>c σ H fun b H1=>if b=true then t D σ H1 else u D σ H1
theorem ps_if{c:Expr}{a b:List Stmt}{tc:TT}(hc:PT X c tc)(ha:PSs X a t)(hb:PSs X b u):PS X (.If c a b pos) (tIfS tc t u):=by
 intro pins s σ H D I h;refine wpAny_If (thn (hc pins s σ H _ I h) fun d s1 ⟨H1,I1,q1⟩=>?_);cases d with
 |true=>exact ha pins s1 σ H1 D I1 q1
 |false=>exact hb pins s1 σ H1 D I1 q1
end
noncomputable abbrev TG:=V->St->Hp->(St->Hp->Prop)->Prop
noncomputable abbrev TGs:=List V->St->Hp->(St->Hp->Prop)->Prop
noncomputable def PG(X:Cx)(target:Expr)(t:TG):Prop:=
 ∀(pins:List (Addr×Obj))(s:Shared)(σ:St)(H:Hp)(v:V)(u:Value)(Q:St->Hp->Prop),Inv X pins σ H s->RelV v u->t v σ H Q->
  wpAny (model X.prog X.w) X.A (assign target X.env u) (fun _ s'=>∃σ' H',Inv X pins σ' H' s'/\Q σ' H') X.xe s
noncomputable def PGs(X:Cx)(ts:List Expr)(t:TGs):Prop:=
 ∀(pins:List (Addr×Obj))(s:Shared)(σ:St)(H:Hp)(vs:List V)(us:List Value)(Q:St->Hp->Prop),Inv X pins σ H s->bU vs us->t vs σ H Q->
  wpAny (model X.prog X.w) X.A (assignInOrder ((fF ts X.env).map (·.2)) us) (fun _ s'=>∃σ' H',Inv X pins σ' H' s'/\Q σ' H') X.xe s
section
variable {X:Cx}{pos:Pos}
noncomputable def kJ(i:Nat):TG:=fun v σ H Q=>Q (σ.set i (some v)) H
theorem sj{i:Nat}{x:Str}(hN:X.N.Nodup)(hi:X.N[i]? =some x)(hx:Loc X.env.scope x)(hf:X.fn x=true\/X.env.scope.names.lookup x=some .local:=by first |exact .inl rfl|exact .inr rfl|assumption):PG X (.Name x pos) (kJ i):=by
 intro pins s σ H v u Q I r h;exact wpAny_assign_Name (oG I hN hi hx r (fun s' I'=>⟨_,H,I',h⟩) hf)
noncomputable def gNil:TGs:=fun vs σ H Q=>vs=[]/\Q σ H
noncomputable def BU(t:TG)(u:TGs):TGs:=fun vs σ H Q=>∃v r,vs=v::r/\t v σ H fun σ' H'=>u r σ' H' Q
theorem pgs_nil:PGs X [] gNil:=by
 intro pins s σ H vs us Q I r h;obtain⟨e,h⟩:=h;subst e;cases r;exact assignInOrder_nil ⟨σ,H,I,h⟩
theorem Bb{e:Expr}{es:List Expr}{t:TG}{u:TGs}(h1:PG X e t)(h2:PGs X es u)
  (hs:(fF (e::es) X.env).map (·.2)=assign e X.env::(fF es X.env).map (·.2):=by rfl):PGs X (e::es) (BU t u):=by
 intro pins s σ H vs us Q I r h;obtain⟨v,vr,e1,h⟩:=h;subst e1;cases r with
 |cons r rr=>
  rw[hs];refine assignInOrder_cons (thn (h1 pins s σ H _ _ _ I r h) fun _ s1 ⟨σ1,H1,I1,q1⟩=>?_);exact h2 pins s1 σ1 H1 _ _ Q I1 rr q1
noncomputable def gTup(K:aa)(n:Nat)(t:TGs):TG:=fun v σ H Q=>∃a xs,v=.ref a/\SqT K H a xs/\xs.length=n/\t xs σ H Q
theorem pg_tup{es:List Expr}{k:Nat}{t:TGs}{n:Nat}(hc:X.calm=true)(h:PGs X es t)
  (hn:(fF es X.env).length=n:=by rfl) (hst:(fF es X.env).findIdx? (·.1)=none:=by rfl):PG X (.Tuple es k pos) (gTup X.K n t):=by
 intro pins s σ H v u Q I r hw;obtain⟨a,xs,e1,hq,hl,hw⟩:=hw;subst e1;cases r;obtain⟨its,rv,ht,hz⟩:=I.tuple hq;refine assign_Tuple_tuple (I.ok.hd hc) ht (by simp[hn,<-hl,rv.length]) hst fun h' hx=>?_;have I1:Inv X pins σ H {s with heap:=h'}:=I.kept (t':=s.toks) fun b o e=>hx b o (a0 (ay e)) e;exact h pins _ σ H xs _ Q I1 (by simpa using rv) hw
noncomputable def rO(te:TE)(g:TG):TS:=fun D σ H=>te σ H fun x H1=>g x σ H1 D.nx
theorem wx{tg e:Expr}{te:TE}{g:TG}(he:PE X e te)(hg:PG X tg g)(hs:Cy [tg] e pos.line X.env=pure false:=by rfl) (hw:swappedStores [tg] e X.env=pure none:=by rfl)
  (h1:(fF [tg] X.env).map (·.2)=[assign tg X.env]:=by rfl):PS X (.Assign [tg] e pos) (rO te g):=by
 intro pins s σ H D I h;refine wpAny_Assign_stores (thn (he pins s σ H _ I h) fun v s1 ⟨x,H1,I1,r1,q1⟩=>?_) hs hw;rw[h1];exact thn (hg pins s1 σ H1 x v _ I1 r1 q1) fun _ s2 q=>q
theorem ps_set{i:Nat}{x:Str}{e:Expr}{te:TE}{pos':Pos}(hN:X.N.Nodup)(hi:X.N[i]? =some x)(hx:Loc X.env.scope x)(he:PE X e te)(hs:ot e (some (.Name x pos')) pos.line X.env=pure false:=by rfl) (hf:X.fn x=true\/X.env.scope.names.lookup x=some .local:=by first |exact .inl rfl|exact .inr rfl|assumption):
  PS X (.Assign [.Name x pos'] e pos) (rO te (kJ i)):=by
 intro pins s σ H D I h;refine wpAny_Assign_Name (thn (he pins s σ H _ I h) fun v s1 ⟨y,H1,I1,r1,q1⟩=>?_) hs;exact oG I1 hN hi hx r1 (fun s2 I2=>⟨_,H1,I2,q1⟩) hf
end
section
variable {X:Cx}{pos:Pos}
noncomputable def tWhile(c:TT)(tb:TS):TS:=fun D σ H=>∃W:Nat->St->Hp->Prop,(∃m,W m σ H)/\∀m σ H,W m σ H->
 c σ H fun b H1=>if b=true then ∃N:St->Hp->Prop,(∀σ' H',N σ' H'->∃m',m'<m/\W m' σ' H')/\tb {D with nx:=N,ct:=N,bk:=D.nx} σ H1 else D.nx σ H1
end
structure It where
 go:Nat->Hp->Prop
 yld:Nat->Hp->V->Hp->Prop
 stop:Nat->Hp->Prop
noncomputable def mo(X:Cx)(pins:List (Addr×Obj))(H:Hp)(b:Addr):Prop:=
 H b=none/\b≠X.env.locals/\b∉X.fs/\(b∈X.ex\/X.s₀.heap.objs.size<=b)/\(∀x c,X.env.cells.lookup x=some c->c≠b)/\∀p∈X.pn++pins,p.1≠b
theorem Inv.wQ{X:Cx}{pins:List (Addr×Obj)}{σ:St}{H H':Hp}{s:Shared}{b:Addr}(I:Inv X pins σ H s)(hb:s.heap.objs.size<=b)(hn:H' b=none):mo X pins H' b:=by
 refine⟨hn,iP (aS I.lt hb),I.nofs hb,.inr (aI I.sz hb),fun x c e z=>?_,fun p hp z=>?_⟩
 ·obtain⟨v,q⟩:=I.cell x c e
  exact absurd (aS q.lt (by rw[z];exact hb)) (dq _)
 ·exact absurd (aS (ay (I.pin p hp).1) (by rw[z];exact hb)) (dq _)
structure Turn(P:Program)(w:World)(K:aa)(tg:Expr)(J:It)(fp:List Addr)(it:Addr)(tn:Nat->Heap->Prop):Prop where
 mem:it∈fp
 obj:∀i h,tn i h->∀b∈fp,∃o,h.get? b=some o/\∀v,o.data≠.cell v
 keep:∀i h h',tn i h->(∀b∈fp,∀o,h.get? b=some o->h'.get? b=some o)->tn i h'
 item:∀(X:Cx),X.prog=P->X.w=w->X.K=K->X.calm=true->∀(i:Nat)(pins:List (Addr×Obj))(s:Shared)(σ:St)(H:Hp)(E:Value->Shared->Prop),Inv X pins σ H s->(∀b∈fp,mo X pins H b)->tn i s.heap->J.go i H->
  wpAny (model P w) X.A (pyNext (.ref it)) (fun r s1=>∃u,r=some u/\
   wpAny (model P w) X.A (mB tg (.ref it) u) (fun _ s2=>∃x H',Inv X pins σ H' s2/\RelV x u/\J.yld i H x H'/\tn (i+1) s2.heap/\∀b∈fp,H' b=none) E s1) E s
 done:∀(X:Cx),X.prog=P->X.w=w->X.K=K->X.calm=true->∀(i:Nat)(pins:List (Addr×Obj))(s:Shared)(σ:St)(H:Hp)(E:Value->Shared->Prop),Inv X pins σ H s->(∀b∈fp,mo X pins H b)->tn i s.heap->J.stop i H->
  wpAny (model P w) X.A (pyNext (.ref it)) (fun r s1=>r=none/\Inv X pins σ H s1) E s
 self:∀(A:Around)(i:Nat)(s:Shared)(Q:Value->Shared->Prop)(E:Value->Shared->Prop),tn i s.heap->Q (.ref it) s->wpAny (model P w) A (pyIter (.ref it)) Q E s
noncomputable abbrev TI:=St->Hp->(It->Hp->Prop)->Prop
noncomputable def PIE(X:Cx)(pins:List (Addr×Obj))(σ:St)(tg:Expr)(R:It->Hp->Prop)(itv:Value)(s2:Shared):Prop:=
 ∃(it:Addr)(fp:List Addr)(tn:Nat->Heap->Prop)(J:It)(H':Hp),itv=.ref it/\Inv X pins σ H' s2/\Turn X.prog X.w X.K tg J fp it tn/\tn 0 s2.heap/\(∀b∈fp,mo X pins H' b)/\R J H'
noncomputable def PI(X:Cx)(tg iter:Expr)(wi:TI):Prop:=
 ∀(pins:List (Addr×Obj))(s:Shared)(σ:St)(H:Hp)(R:It->Hp->Prop),Inv X pins σ H s->wi σ H R->
  wpAny (model X.prog X.w) X.A (eval iter X.env) (fun v s1=>wpAny (model X.prog X.w) X.A (pyIter v) (PIE X pins σ tg R) X.xe s1) X.xe s
theorem yj{M:Model}{A:Around}{E:Value->Shared->Prop}{s:Shared}{tg:Expr}{it:Addr}{u:Value}{o:Obj}{n:String}{vs:Array Value}{Q:Unit->Shared->Prop}(ho:s.heap.get? it=some o)(hc:o.cls=.type n)(hd:o.data=.fields vs)
  (hn:["enumerate","zip","dict_itemiterator","dict_reverseitemiterator","odict_iterator","itertools.zip_longest","itertools.pairwise"].contains n=false)(hQ:Q () s):wpAny M A (mB tg (.ref it) u) Q E s:=by
 unfold mB;cases tg<;>first
  |exact ak hQ
  | (cases u<;>first
    |exact ak hQ
    | (refine af (wpAny_load ho ?_)
       rw[hc,hd];show wpAny M A (if(["enumerate","zip","dict_itemiterator","dict_reverseitemiterator","odict_iterator","itertools.zip_longest","itertools.pairwise"].contains n&&vs[0]? ==some (rawInt _))=true then _ else _) Q E s;rw[if_neg (by intro h;rw[hn,bY]at h;cases h)];exact ak hQ))
noncomputable def Itl(K:aa)(a:Addr):It:=
 ⟨fun i H=>∃xs x,SqL K H a xs/\xs[i]? =some x,fun i H x H'=>H'=H/\∀xs,SqL K H a xs->xs[i]? =some x,fun i H=>∃xs,SqL K H a xs/\xs.length<=i⟩
noncomputable def Itt(K:aa)(a:Addr):It:=
 ⟨fun i H=>∃xs x,SqT K H a xs/\xs[i]? =some x,fun i H x H'=>H'=H/\∀xs,SqT K H a xs->xs[i]? =some x,fun i H=>∃xs,SqT K H a xs/\xs.length<=i⟩
noncomputable def Itr(lo:Int)(n:Nat):It:=⟨fun i _=>i<n,fun i H x H'=>H'=H/\x=.int (lo+i),fun i _=>n<=i⟩
theorem qw{P:Program}{w:World}{K:aa}{tg:Expr}(a it:Addr):Turn P w K tg (Itl K a) [it] it (fun i h=>h.IsListIter it a i) where
 mem:=by simp
 obj:=fun i h st b hb=>by
  have e:b=it:=by simpa using hb
  subst e;obtain⟨o,e,c,d⟩:=st;exact⟨o,e,fun v z=>by rw[d]at z;cases z⟩
 keep:=fun i h h' st k=>st.at fun o e=>k it (by simp) o e
 item:=by
  intro X hP hw hK hc i pins s σ H E I hf st hg;subst hP hw hK;obtain⟨xs,x,hq,hx⟩:=hg;obtain⟨its,rv,p,hz⟩:=I.list hq;obtain⟨u,hu,ru⟩:=rv.get hx;obtain⟨f0,f1,f2,f3,f4,f5⟩:=hf it (by simp);refine wpAny_pyNext_list_item st p.isList (x:=u) (by simpa using hu) fun h' st' sb=>?_;have I1:Inv X pins σ H {s with heap:=h'}:=I.turned (t':=s.toks) (fun b o hb e=>(sb.2 b hb).trans e) f0 f1 f3 f4 f5;obtain⟨o,e,c,d⟩:=id st';exact⟨u,rfl,yj (s:={s with heap:=h'}) e c d (by decide) ⟨x,H,I1,ru,⟨rfl,fun ys hy=>by rw[I.uK hy hq];exact hx⟩,st',fun b hb=>(hf b hb).1⟩⟩
 done:=by
  intro X hP hw hK hc i pins s σ H E I hf st hg;subst hP hw hK;obtain⟨xs,hq,hx⟩:=hg;obtain⟨its,rv,p,hz⟩:=I.list hq;obtain⟨f0,f1,f2,f3,f4,f5⟩:=hf it (by simp);have hl:=rv.length;exact wpAny_pyNext_list_end (I.ok.hd hc) st p.isList (by simp;omega) fun h' eb=>⟨rfl,I.turned (t':=s.toks) (fun b o hb e=>eb b o hb e) f0 f1 f3 f4 f5⟩
 self:=fun _ _ _ _ _ st h=>wpAny_pyIter_listiter st h
theorem vS{P:Program}{w:World}{K:aa}{tg:Expr}(a it:Addr):Turn P w K tg (Itt K a) [it] it (fun i h=>h.IsTupleIter it a i) where
 mem:=by simp
 obj:=fun i h st b hb=>by
  have e:b=it:=by simpa using hb
  subst e;obtain⟨o,e,c,d⟩:=st;exact⟨o,e,fun v z=>by rw[d]at z;cases z⟩
 keep:=fun i h h' st k=>st.at fun o e=>k it (by simp) o e
 item:=by
  intro X hP hw hK hc i pins s σ H E I hf st hg;subst hP hw hK;obtain⟨xs,x,hq,hx⟩:=hg;obtain⟨its,rv,p,hz⟩:=I.tuple hq;obtain⟨u,hu,ru⟩:=rv.get hx;obtain⟨f0,f1,f2,f3,f4,f5⟩:=hf it (by simp);refine wpAny_pyNext_tuple_item st (show s.heap.IsTuple a its.toArray from p) (x:=u) (by simpa using hu) fun h' st' sb=>?_;have I1:Inv X pins σ H {s with heap:=h'}:=I.turned (t':=s.toks) (fun b o hb e=>(sb.2 b hb).trans e) f0 f1 f3 f4 f5;obtain⟨o,e,c,d⟩:=id st';exact⟨u,rfl,yj (s:={s with heap:=h'}) e c d (by decide) ⟨x,H,I1,ru,⟨rfl,fun ys hy=>by rw[I.qx hy hq];exact hx⟩,st',fun b hb=>(hf b hb).1⟩⟩
 done:=by
  intro X hP hw hK hc i pins s σ H E I hf st hg;subst hP hw hK;obtain⟨xs,hq,hx⟩:=hg;obtain⟨its,rv,p,hz⟩:=I.tuple hq;obtain⟨f0,f1,f2,f3,f4,f5⟩:=hf it (by simp);have hl:=rv.length;exact wpAny_pyNext_tuple_end (I.ok.hd hc) st (show s.heap.IsTuple a its.toArray from p) (by simp;omega) fun h' eb=>⟨rfl,I.turned (t':=s.toks) (fun b o hb e=>eb b o hb e) f0 f1 f3 f4 f5⟩
 self:=fun _ _ _ _ _ st h=>wpAny_pyIter_tupleiter st h
theorem vT{P:Program}{w:World}{K:aa}{tg:Expr}(it:Addr)(lo:Int)(n:Nat):Turn P w K tg (Itr lo n) [it] it (fun i h=>IsRangeIter h it (lo+(i:Nat)*1) ((n:Int)-(i:Nat)) 1) where
 mem:=by simp
 obj:=fun i h st b hb=>by
  have e:b=it:=by simpa using hb
  subst e;exact⟨_,st,fun v z=>by
   have z':Data.fields _=Data.cell v:=z;cases z'⟩
 keep:=fun i h h' st k=>k it (by simp) _ st
 item:=by
  intro X hP hw hK hc i pins s σ H E I hf st hg;subst hP hw hK;obtain⟨f0,f1,f2,f3,f4,f5⟩:=hf it (by simp);have W:=Walks.range (prog:=X.prog) (w:=X.w) (I.ok.hd hc) it lo 1 n;refine W.item i s _ _ hg st fun v h' tk hv st' kk=>?_;obtain⟨t,rfl⟩:=hv;have I1:Inv X pins σ H {s with heap:=h',toks:=tk}:=I.turned (fun b o hb e=>kk b o (by simpa using hb) e) f0 f1 f3 f4 f5;refine⟨_,rfl,yj (s:={s with heap:=h',toks:=tk}) (n:="range_iterator") st' rfl rfl (by decide) ⟨.int (lo+i),H,I1,⟨t,?_⟩,⟨rfl,rfl⟩,st',fun b hb=>(hf b hb).1⟩⟩;rw[Int.mul_one]
 done:=by
  intro X hP hw hK hc i pins s σ H E I hf st hg;subst hP hw hK;obtain⟨f0,f1,f2,f3,f4,f5⟩:=hf it (by simp);exact wpAny_pyNext_range_end (I.ok.hd hc) st (by have :n<=i:=hg;omega) fun h' eb=>⟨rfl,I.turned (t':=s.toks) (fun b o hb e=>eb b o hb e) f0 f1 f3 f4 f5⟩
 self:=fun _ _ _ _ _ st h=>wpAny_pyIter_rangeiter st h
section
variable {X:Cx}{tg:Expr}
noncomputable def BQ(K:aa)(tl:TE):TI:=fun σ H R=>tl σ H fun x H1=>∃a,x=.ref a/\(∃xs,SqL K H1 a xs)/\R (Itl K a) H1
theorem pi_list{l:Expr}{tl:TE}(hl:PE X l tl):PI X tg l (BQ X.K tl):=by
 intro pins s σ H R I h;refine thn (hl pins s σ H _ I h) fun v s1 ⟨x,H1,I1,r1,q1⟩=>?_;obtain⟨a,e,⟨xs,hq⟩,q⟩:=q1;subst e;cases r1;obtain⟨its,rv,p,hz⟩:=I1.list hq;refine gS p.isList ?_;refine⟨s1.heap.objs.size,[s1.heap.objs.size],_,_,H1,rfl,I1.kept (t':=s1.toks) fun b o e=>ag _ e,qw a _,⟨_,aK _ rfl,rfl,rfl⟩,fun b hb=>?_,q⟩;have e:b=s1.heap.objs.size:=by simpa using hb
 subst e;exact I1.wQ (aq _) (I1.hok.fresh (aq _))
theorem ug{pins:List (Addr×Obj)}{σ:St}{H:Hp}{s:Shared}{R:It->Hp->Prop}{E:Value->Shared->Prop}{lo hi:Int}{t u v:Tok}{tk:Nat}(I:Inv X pins σ H s)(h1: -(2^62)<=lo)(h2:lo<2^62)(h3: -(2^62)<=hi)(h4:hi<2^62)
  (q:R (Itr lo (hi-lo).toNat) H):wpAny (model X.prog X.w) X.A (pyIter (.ref s.heap.objs.size)) (PIE X pins σ tg R) E {s with heap:=s.heap.push {cls:=.type "range",data:=.fields #[.int lo t,.int hi u,.int 1 v]},toks:=tk}:=by
 refine wpAny_pyIter_range (IsRange.new ..) (small_one h1 h2 h3 h4) ?_;have I1:Inv X pins σ H {s with heap:=s.heap.push {cls:=.type "range",data:=.fields #[.int lo t,.int hi u,.int 1 v]},toks:=tk}:=I.kept fun b o e=>ag _ e;refine⟨(s.heap.push {cls:=.type "range",data:=.fields #[.int lo t,.int hi u,.int 1 v]}).objs.size,[(s.heap.push {cls:=.type "range",data:=.fields #[.int lo t,.int hi u,.int 1 v]}).objs.size],_,_,H,rfl,
  I1.kept (t':=tk) fun b o e=>ag _ e,vT _ lo (hi-lo).toNat,?_,fun b hb=>?_,q⟩
 ·have e1:lo+((0:Nat):Int)*1=lo:=by simp
  have e2:(((hi-lo).toNat:Nat):Int)-((0:Nat):Int)=Builtin.Range.rangeSize lo hi 1:=by rw[rangeSize_one];split <;>omega
  show IsRangeIter _ _ (lo+((0:Nat):Int)*1) ((((hi-lo).toNat:Nat):Int)-((0:Nat):Int)) 1;rw[e1,e2];exact aK _ rfl
 ·have e:b=(s.heap.push {cls:=.type "range",data:=.fields #[.int lo t,.int hi u,.int 1 v]}).objs.size:=by simpa using hb
  subst e;exact I1.wQ (aq _) (I1.hok.fresh (aq _))
noncomputable def BP(ta:TA):TI:=fun σ H R=>ta σ H fun vs H1=>∃j:Int,vs=[.int j]∧-(2^62)<=j/\j<2^62/\R (Itr 0 j.toNat) H1
noncomputable def BO(ta:TA):TI:=fun σ H R=>ta σ H fun vs H1=>∃i j:Int,vs=[.int i,.int j]/\(-(2^62)<=i/\i<2^62∧-(2^62)<=j/\j<2^62)/\R (Itr i (j-i).toNat) H1
theorem yV{a:Expr}{ta:TA}{p pos:Pos}(hg:Gl X "range")(hm:X.mg "range"=none)(ha:PA X [a] ta)(hs:bB [a] X.env=[(false,eval a X.env)]:=by rfl):PI X tg (.Call (.Name "range" p) [a] [] pos) (BP ta):=by
 intro pins s σ H R I h;refine Call_ (mR I hg hm boot_range (gB (thn (ha pos pins s σ H _ I h) fun us s1 ⟨vs,H1,I1,r1,q1⟩=>?_) hs rfl));obtain⟨j,e,q1,q2,q⟩:=q1;subst e;cases r1 with
 |cons r rr=>
  cases rr;obtain⟨t,rfl⟩:=r;exact call_range_1 (ug I1 (by omega) (by omega) q1 q2 (by simpa using q))
theorem yU{a b:Expr}{ta:TA}{p pos:Pos}(hg:Gl X "range")(hm:X.mg "range"=none)(ha:PA X [a,b] ta)(hs:bB [a,b] X.env=[(false,eval a X.env),(false,eval b X.env)]:=by rfl) (hs2:bB [b] X.env=[(false,eval b X.env)]:=by rfl):
  PI X tg (.Call (.Name "range" p) [a,b] [] pos) (BO ta):=by
 intro pins s σ H R I h;refine Call_ (mR I hg hm boot_range (gB (thn (ha pos pins s σ H _ I h) fun us s1 ⟨vs,H1,I1,r1,q1⟩=>?_) (by rw[hs,hs2]) (by rw[hs2];rfl)));obtain⟨i,j,e,⟨q1,q2,q3,q4⟩,q⟩:=q1;subst e;cases r1 with
 |cons r rr=>
  cases rr with
  |cons r' rr=>
   cases rr;obtain⟨t,rfl⟩:=r;obtain⟨t',rfl⟩:=r';exact call_range_2 (ug I1 q1 q2 q3 q4 q)
noncomputable def tFor(wi:TI)(g:TG)(tb:TS):TS:=fun D σ H=>wi σ H fun J H1=>∃W:Nat->Nat->St->Hp->Prop,(∃m,W 0 m σ H1)/\∀i m σ H,W i m σ H->
 (J.stop i H/\D.nx σ H)\/(J.go i H/\∃N:St->Hp->Prop,(∀σ' H',N σ' H'->∃m',m'<m/\W (i+1) m' σ' H')/\∀x H',J.yld i H x H'->g x σ H' fun σ2 H2=>tb {D with nx:=N,ct:=N,bk:=D.nx} σ2 H2)
noncomputable def gF(fp:List Addr)(h:Heap):List (Addr×Obj):=fp.filterMap fun b=>(h.get? b).map fun o=>(b,o)
theorem fU{fp:List Addr}{h:Heap}{b:Addr}{o:Obj}(hb:b∈fp)(e:h.get? b=some o):(b,o)∈gF fp h:=List.mem_filterMap.mpr ⟨b,hb,by rw[e];rfl⟩
theorem mO{fp:List Addr}{h:Heap}{p:Addr×Obj}(hp:p∈gF fp h):p.1∈fp/\h.get? p.1=some p.2:=by
 obtain⟨b,hb,e⟩:=List.mem_filterMap.mp hp;cases q:h.get? b with
 |none=>rw[q]at e;cases e
 |some o=>
  rw[q]at e;have e':(b,o)=p:=a9 e;subst e';exact⟨hb,q⟩
theorem Inv.pinned{pins:List (Addr×Obj)}{σ:St}{H:Hp}{s:Shared}{fp:List Addr}(I:Inv X pins σ H s)(hf:∀b∈fp,mo X pins H b)(ho:∀b∈fp,∃o,s.heap.get? b=some o/\∀v,o.data≠.cell v):Inv X (pins++gF fp s.heap) σ H s:=
 I.si fun p hp=>(bN.mp hp).elim (fun z=>I.pin p (aR _ z)) fun z=>by
  obtain⟨hb,e⟩:=mO z;obtain⟨f0,f1,f2,_⟩:=hf p.1 hb;obtain⟨o,e',d⟩:=ho p.1 hb;rw[e]at e';cases e';exact⟨e,f0,f1,f2,d⟩
theorem Inv.fH{pins pl:List (Addr×Obj)}{σ:St}{H:Hp}{s:Shared}(I:Inv X (pins++pl) σ H s):Inv X pins σ H s:=I.si fun p hp=>I.pin p (aR _ (cV _ hp))
theorem ps_for{iter:Expr}{body:List Stmt}{wi:TI}{g:TG}{tb:TS}{pos:Pos}(hp:PassesOwn (model X.prog X.w) X.A X.env X.xe)(hc:X.calm=true)(hi:PI X tg iter wi)(hg:PG X tg g)(hb:PSs X body tb)
  (hs:∀x,gV iter X.env x=pure x:=by intro _;rfl):PS X (.For tg iter body [] pos) (tFor wi g tb):=by
 intro pins s σ H D I h;refine wpAny_For (thn (hi pins s σ H _ I h) fun v s1 h1=>thn h1 fun itv s2 h2=>?_) hs;obtain⟨it,fp,tn,J,H2,e,I2,T,st2,f2,W,⟨m0,w0⟩,turn⟩:=h2;subst e
 --what stays true of the iterator's objects through the loop
 have stat:∀{H':Hp},(∀b∈fp,H' b=none)->∀b∈fp,mo X pins H' b:=fun hn b hb=>⟨hn b hb,(f2 b hb).2⟩;refine codeAny_forLoop_any (fun n s'=>∃i σ' H',Inv X pins σ' H' s'/\tn i s'.heap/\(∀b∈fp,H' b=none)/\W i n σ' H') ?_ m0 ⟨0,σ,H2,I2,st2,fun b hb=>(f2 b hb).1,w0⟩;rintro n s3 ⟨i,σ3,H3,I3,st3,fr3,w3⟩;rcases turn i n σ3 H3 w3 with⟨stop,qn⟩ |⟨go,N,hN,step⟩
 ·refine i4 hp (thn (T.done X rfl rfl rfl hc i pins s3 σ3 H3 X.xe I3 (stat fr3) st3 stop) fun r s4 ⟨hr,I4⟩=>?_)
  subst hr;exact wpAny_execs_nil ⟨σ3,H3,I4,qn⟩
 ·refine i4 hp (thn (T.item X rfl rfl rfl hc i pins s3 σ3 H3 X.xe I3 (stat fr3) st3 go) fun r s4 ⟨u,hr,h4⟩=>?_)
  subst hr;refine i4 hp (thn h4 fun _ s5 ⟨x,H5,I5,r5,y5,st5,fr5⟩=>?_);have I5':=I5.pinned (stat fr5) (T.obj _ _ st5);refine i4 hp (thn (hg _ s5 σ3 H5 x u _ I5' r5 (step x H5 y5)) fun _ s6 ⟨σ6,H6,I6,q6⟩=>?_);refine i4 hp (thn (hb _ s6 σ6 H6 _ I6 q6) fun f s7 q7=>?_);have again:∀{σ7:St}{H7:Hp},Inv X (pins++gF fp s5.heap) σ7 H7 s7->N σ7 H7->∃m,m<n/\∃i σ' H',Inv X pins σ' H' s7/\tn i s7.heap/\(∀b∈fp,H' b=none)/\W i m σ' H':=fun{σ7 H7} I7 n7=>by
   obtain⟨m',hm,w7⟩:=hN σ7 H7 n7;refine⟨m',hm,i+1,σ7,H7,I7.fH,T.keep _ _ _ st5 fun b hb o e=>(I7.pin (b,o) (aR _ (aR _ (fU hb e)))).1,fun b hb=>?_,w7⟩;obtain⟨o,e,d⟩:=T.obj _ _ st5 b hb;exact(I7.pin (b,o) (aR _ (aR _ (fU hb e)))).2.1
  cases f with
  |next =>obtain⟨σ7,H7,I7,n7⟩:=q7;exact again I7 n7
  |cont=>obtain⟨σ7,H7,I7,n7⟩:=q7;exact again I7 n7
  |brk=>obtain⟨σ7,H7,I7,q7⟩:=q7;exact⟨σ7,H7,I7.fH,q7⟩
  |ret v=>obtain⟨x7,σ7,H7,I7,r7,q7⟩:=q7;exact⟨x7,σ7,H7,I7.fH,r7,q7⟩
end
noncomputable abbrev R2:=V->V->Hp->VK->Prop
noncomputable def OpR(X:Cx)(f:Value->Value->Sem Value)(r:R2):Prop:=
 ∀(pins:List (Addr×Obj))(s:Shared)(σ:St)(H:Hp)(x y:V)(v u:Value)(Q:VK),Inv X pins σ H s->RelV x v->RelV y u->r x y H Q->
  wpAny (model X.prog X.w) X.A (f v u) (EP X pins σ Q) X.xe s
noncomputable def UnR(X:Cx)(f:Value->Sem Value)(r:V->Hp->VK->Prop):Prop:=
 ∀(pins:List (Addr×Obj))(s:Shared)(σ:St)(H:Hp)(x:V)(v:Value)(Q:VK),Inv X pins σ H s->RelV x v->r x H Q->
  wpAny (model X.prog X.w) X.A (f v) (EP X pins σ Q) X.xe s
noncomputable def eK(X:Cx)(f:Value)(r:List V->Hp->VK->Prop):Prop:=
 ∀(pins:List (Addr×Obj))(s:Shared)(σ:St)(H:Hp)(xs:List V)(us:List Value)(Q:VK),Inv X pins σ H s->bU xs us->r xs H Q->
  wpAny (model X.prog X.w) X.A (call f us) (EP X pins σ Q) X.xe s
noncomputable def TruR(X:Cx)(r:V->Hp->(Bool->Hp->Prop)->Prop):Prop:=
 ∀(pins:List (Addr×Obj))(s:Shared)(σ:St)(H:Hp)(x:V)(v:Value)(Q:Bool->Hp->Prop),Inv X pins σ H s->RelV x v->r x H Q->
  wpAny (model X.prog X.w) X.A (truthy v) (TP X pins σ Q) X.xe s
noncomputable def tOp(r:R2)(ta tb:TE):TE:=fun σ H Q=>ta σ H fun x H1=>tb σ H1 fun y H2=>r x y H2 Q
noncomputable def tUn(r:V->Hp->VK->Prop)(ta:TE):TE:=fun σ H Q=>ta σ H fun x H1=>r x H1 Q
noncomputable def rI(C:Int->Int->Prop)(g:Int->Int->V):R2:=fun x y H Q=>∃i j,x=.int i/\y=.int j/\C i j/\Q (g i j) H
noncomputable def rI0(g:Int->Int->V):R2:=fun x y H Q=>∃i j,x=.int i/\y=.int j/\Q (g i j) H
noncomputable def rU(g:Int->V):V->Hp->VK->Prop:=fun x H Q=>∃i,x=.int i/\Q (g i) H
section
variable {X:Cx}{a b c:Expr}{ta tb tc:TE}{pos:Pos}
theorem binT(ha:PE X a ta)(hb:PE X b tb){pins:List (Addr×Obj)}{s:Shared}{σ:St}{H:Hp}{R:V->V->Hp->Prop}(I:Inv X pins σ H s)
  (h:ta σ H fun x H1=>tb σ H1 fun y H2=>R x y H2){Q:Value->Shared->Prop}{f:Value->Value->Sem Value}
  (hf:∀v u s2 x y H2,Inv X pins σ H2 s2->RelV x v->RelV y u->R x y H2->wpAny (model X.prog X.w) X.A (f v u) Q X.xe s2):
  wpAny (model X.prog X.w) X.A (eval a X.env) (fun v s₁=>wpAny (model X.prog X.w) X.A (eval b X.env) (fun u s₂=>wpAny (model X.prog X.w) X.A (f v u) Q X.xe s₂) X.xe s₁) X.xe s:=by
 refine thn (ha pins s σ H _ I h) fun v s1 ⟨x,H1,I1,r1,q1⟩=>?_;refine thn (hb pins s1 σ H1 _ I1 q1) fun u s2 ⟨y,H2,I2,r2,q2⟩=>?_;exact hf v u s2 x y H2 I2 r1 r2 q2
theorem Bi{op:Operator}{r:R2}(ho:OpR X (dw op) r)(ha:PE X a ta)(hb:PE X b tb):PE X (.BinOp a op b pos) (tOp r ta tb):=by
 intro pins s σ H Q I h;exact wpAny_BinOp (binT ha hb I h fun v u s2 x y H2 I2 rx ry q=>ho pins s2 σ H2 x y v u Q I2 rx ry q)
theorem pe_un{op:UnaryOp}{r:V->Hp->VK->Prop}(ho:UnR X (unaryOp op) r)(ha:PE X a ta):PE X (.UnaryOp op a pos) (tUn r ta):=by
 intro pins s σ H Q I h;exact UnaryOp_ (thn (ha pins s σ H _ I h) fun v s1 ⟨x,H1,I1,r1,q1⟩=>ho pins s1 σ H1 x v Q I1 r1 q1)
theorem opI{f:Value->Value->Sem Value}{C:Int->Int->Prop}{g:Int->Int->Int}
  (rule:∀(i j:Int)(t u:Tok)(s:Shared)(Q:Value->Shared->Prop)(E:Value->Shared->Prop),C i j->Q (.int (g i j) s.toks) {s with toks:=s.toks+1}->wpAny (model X.prog X.w) X.A (f (.int i t) (.int j u)) Q E s):
  OpR X f (rI C fun i j=>.int (g i j)):=by
 intro pins s σ H x y v u Q I rx ry h;obtain⟨i,j,rfl,rfl,hc,q⟩:=h;obtain⟨t,rfl⟩:=rx;obtain⟨t',rfl⟩:=ry;exact rule i j t t' s _ _ hc ⟨.int (g i j),H,I.tok _,⟨_,rfl⟩,q⟩
theorem opI0{f:Value->Value->Sem Value}{g:Int->Int->Int}
  (rule:∀(i j:Int)(t u:Tok)(s:Shared)(Q:Value->Shared->Prop)(E:Value->Shared->Prop),Q (.int (g i j) s.toks) {s with toks:=s.toks+1}->wpAny (model X.prog X.w) X.A (f (.int i t) (.int j u)) Q E s):
  OpR X f (rI0 fun i j=>.int (g i j)):=by
 intro pins s σ H x y v u Q I rx ry h;obtain⟨i,j,rfl,rfl,q⟩:=h;obtain⟨t,rfl⟩:=rx;obtain⟨t',rfl⟩:=ry;exact rule i j t t' s _ _ ⟨.int (g i j),H,I.tok _,⟨_,rfl⟩,q⟩
theorem opB0{f:Value->Value->Sem Value}{g:Int->Int->Bool}
  (rule:∀(i j:Int)(t u:Tok)(s:Shared)(Q:Value->Shared->Prop)(E:Value->Shared->Prop),Q (.bool (g i j)) s->wpAny (model X.prog X.w) X.A (f (.int i t) (.int j u)) Q E s):
  OpR X f (rI0 fun i j=>.bl (g i j)):=by
 intro pins s σ H x y v u Q I rx ry h;obtain⟨i,j,rfl,rfl,q⟩:=h;obtain⟨t,rfl⟩:=rx;obtain⟨t',rfl⟩:=ry;exact rule i j t t' s _ _ ⟨.bl (g i j),H,I,rfl,q⟩
noncomputable def CDiv(i j:Int):Prop:=0<j/\j<1073741824
noncomputable def Cw(i j:Int):Prop:=0<=j/\j<=1000000/\i.natAbs<2^64
noncomputable def sZ(i j:Int):Prop:=(-(2^64)<i/\i<2^64)\/(-(2^64)<j/\j<2^64)
theorem sZ.ok{i j:Int}(h:sZ i j):IntMulOk i j:=by
 rcases h with⟨h1,h2⟩ |⟨h1,h2⟩
 ·exact .of_left (intBits_le_64 h1 h2)
 ·exact .of_right (intBits_le_64 h1 h2)
theorem vR(k:Nat):(0:Int)<=2^k:=by
 rw[two_pow_cast];exact Int.natCast_nonneg _
theorem op_add:OpR X (dw .Add) (rI0 fun i j=>.int (i+j)):=opI0 fun _ _ _ _ _ _ _ q=>add_int q
theorem op_sub:OpR X (dw .Sub) (rI0 fun i j=>.int (i-j)):=opI0 fun _ _ _ _ _ _ _ q=>sub_int q
theorem op_mul:OpR X (dw .Mult) (rI sZ fun i j=>.int (i*j)):=opI fun _ _ _ _ _ _ _ hc q=>mul_int q hc.ok
theorem op_fdiv:OpR X (dw .FloorDiv) (rI CDiv fun i j=>.int (i/j)):=opI fun i j _ _ _ _ _ hc q=>by
 have h1:(0:Int)<j:=hc.1;have h2:j<1073741824:=hc.2;exact floordiv_int (by omega) (by rw[i6 i (by omega)];exact q) (.inl (PyProof.noPylong_small (by omega)))
theorem op_mod:OpR X (dw .Mod) (rI (fun _ j=>0<j) fun i j=>.int (i%j)):=opI fun i j _ _ _ _ _ hc q=>by
 have h1:(0:Int)<j:=hc;exact mod_int' (by omega) (by rw[Int.fmod_eq_emod_of_nonneg i (by omega)];exact q)
theorem op_pow:OpR X (dw .Pow) (rI Cw fun i j=>.int (i^j.toNat)):=opI fun _ _ _ _ _ _ _ hc q=>pow_int_small hc.1 hc.2.1 hc.2.2 q
theorem op_shl:OpR X (dw .LShift) (rI Cw fun i j=>.int (i*2^j.toNat)):=opI fun _ _ _ _ _ _ _ hc q=>lshift_int_small hc.1 hc.2.1 hc.2.2 q
theorem op_shr:OpR X (dw .RShift) (rI (fun _ j=>0<=j) fun i j=>.int (i/2^j.toNat)):=opI fun i j _ _ _ _ _ hc q=>
 rshift_int hc (by rw[i6 i (vR _)];exact q)
theorem op_and:OpR X (dw .BitAnd) (rI0 fun i j=>.int (Builtin.bitAnd i j)):=opI0 fun _ _ _ _ _ _ _ q=>and_int q
theorem op_xor:OpR X (dw .BitXor) (rI0 fun i j=>.int (Builtin.bitXor i j)):=opI0 fun _ _ _ _ _ _ _ q=>xor_int q
theorem unI{f:Value->Sem Value}{g:Int->Int}
  (rule:∀(i:Int)(t:Tok)(s:Shared)(Q:Value->Shared->Prop)(E:Value->Shared->Prop),Q (.int (g i) s.toks) {s with toks:=s.toks+1}->wpAny (model X.prog X.w) X.A (f (.int i t)) Q E s):
  UnR X f (rU fun i=>.int (g i)):=by
 intro pins s σ H x v Q I rx h;obtain⟨i,rfl,q⟩:=h;obtain⟨t,rfl⟩:=rx;exact rule i t s _ _ ⟨.int (g i),H,I.tok _,⟨_,rfl⟩,q⟩
theorem un_neg:UnR X (unaryOp .USub) (rU fun i=>.int (-i)):=unI fun _ _ _ _ _ q=>neg_int q
end
section
variable {X:Cx}{a b c:Expr}{ta tb tc:TE}{pos:Pos}
theorem pf{pins:List (Addr×Obj)}{σ:St}{H:Hp}{s:Shared}{Q:VK}{k k':Bool}(I:Inv X pins σ H s)(q:Q (.bl k) H)(e:k=k'):EP X pins σ Q (.bool k') s:=by
 subst e;exact⟨.bl k,H,I,rfl,q⟩
theorem op_lt:OpR X (cH .Lt) (rI0 fun i j=>.bl (decide (i<j))):=opB0 fun _ _ _ _ _ _ _ q=>lt_int q
theorem op_le:OpR X (cH .LtE) (rI0 fun i j=>.bl (decide (i<=j))):=opB0 fun _ _ _ _ _ _ _ q=>le_int q
theorem op_gt:OpR X (cH .Gt) (rI0 fun i j=>.bl (decide (j<i))):=opB0 fun _ _ _ _ _ _ _ q=>gt_int q
theorem op_ge:OpR X (cH .GtE) (rI0 fun i j=>.bl (decide (j<=i))):=opB0 fun _ _ _ _ _ _ _ q=>ge_int q
theorem y9:OpR X (cH .In) (fun x y H Q=>∃i j,x=.str i/\y=.str j/\Q (.bl (!(fw j i 0 j.length 1).isEmpty)) H):=by
 intro pins s σ H x y v u Q I rx ry h;obtain⟨i,j,rfl,rfl,q⟩:=h;obtain⟨t,rfl⟩:=rx;obtain⟨t',rfl⟩:=ry;exact in_str (pf I q rfl)
theorem op_isN:OpR X (cH .Is) (fun x y H Q=>y=.non/\Q (.bl (decide (x=.non))) H):=by
 intro pins s σ H x y v u Q I rx ry h;obtain⟨rfl,q⟩:=h;cases ry;refine is_none_gen (pf I q ?_);cases x<;>first
  | (cases rx;rfl)
  | (obtain⟨t,rfl⟩:=rx;rfl)
theorem op_notN:OpR X (cH .IsNot) (fun x y H Q=>y=.non/\Q (.bl (!decide (x=.non))) H):=by
 intro pins s σ H x y v u Q I rx ry h;obtain⟨rfl,q⟩:=h;cases ry;refine isnot_none_gen (pf I q ?_);cases x<;>first
  | (cases rx;rfl)
  | (obtain⟨t,rfl⟩:=rx;rfl)
theorem OpR.or{f:Value->Value->Sem Value}{r r':R2}(h:OpR X f r)(h':OpR X f r'):OpR X f (fun x y H Q=>r x y H Q\/r' x y H Q):=by
 intro pins s σ H x y v u Q I rx ry q;rcases q with q|q
 ·exact h pins s σ H x y v u Q I rx ry q
 ·exact h' pins s σ H x y v u Q I rx ry q
theorem pe_cmpR{op:CmpOp}{r:R2}(ho:OpR X (cH op) r)(ha:PE X a ta)(hb:PE X b tb)(hm:CA op b=false):PE X (.Compare a [op] [b] pos) (tOp r ta tb):=by
 intro pins s σ H Q I h;exact wpAny_Compare1 (binT ha hb I h fun v u s2 x y H2 I2 rx ry q=>ho pins s2 σ H2 x y v u Q I2 rx ry q) hm
noncomputable def tV(t:TE):TT:=fun σ H Q=>t σ H fun x H'=>∃k,x=.bl k/\Q k H'
theorem pt_cmpR{op:CmpOp}{r:R2}(ho:OpR X (cH op) r)(ha:PE X a ta)(hb:PE X b tb)(hm:CA op b=false):PT X (.Compare a [op] [b] pos) (tV (tOp r ta tb)):=by
 intro pins s σ H Q I h;refine wpAny_isTrue_Compare1 (thn (ha pins s σ H _ I h) fun v s1 ⟨x,H1,I1,r1,q1⟩=>thn (hb pins s1 σ H1 _ I1 q1) fun u s2 ⟨y,H2,I2,r2,q2⟩=>
  thn (ho pins s2 σ H2 x y v u _ I2 r1 r2 q2) fun c s3 ⟨z,H3,I3,r3,k,e,q3⟩=>?_) hm
 subst e;cases r3;exact cN ⟨H3,I3,q3⟩
noncomputable def oB(r r':R2)(ta tb tc:TE):TE:=fun σ H Q=>ta σ H fun x H1=>tb σ H1 fun y H2=>r x y H2 fun z H3=>∃k,z=.bl k/\
 (if k=true then tc σ H3 fun w' H4=>r' y w' H4 Q else Q (.bl false) H3)
theorem Bo{op op':CmpOp}{r r':R2}(ho:OpR X (cH op) r)(ho':OpR X (cH op') r')(ha:PE X a ta)(hb:PE X b tb)(hc:PE X c tc)
  (hm:lastMarks [op,op'] [b,c]=false:=by with_unfolding_all rfl):PE X (.Compare a [op,op'] [b,c] pos) (oB r r' ta tb tc):=by
 intro pins s σ H Q I h;refine Compare_chain (thn (ha pins s σ H _ I h) fun v s1 ⟨x,H1,I1,r1,q1⟩=>chain_link (thn (hb pins s1 σ H1 _ I1 q1) fun u s2 ⟨y,H2,I2,r2,q2⟩=>
  thn (ho pins s2 σ H2 x y v u _ I2 r1 r2 q2) fun d s3 ⟨z,H3,I3,r3,k,e,q3⟩=>?_)) hm
 subst e;cases r3;refine cN ?_;cases k with
 |false=>exact ite_ff ⟨.bl false,H3,I3,rfl,q3⟩
 |true=>exact ite_tt (chain_last (thn (hc pins s3 σ H3 _ I3 q3) fun w' s4 ⟨z',H4,I4,r4,q4⟩=>ho' pins s4 σ H4 y z' u w' Q I4 r2 r4 q4))
theorem A3{op op':CmpOp}{r r':R2}(ho:OpR X (cH op) r)(ho':OpR X (cH op') r')(ha:PE X a ta)(hb:PE X b tb)(hc:PE X c tc)
  (hm:lastMarks [op,op'] [b,c]=false:=by with_unfolding_all rfl):PT X (.Compare a [op,op'] [b,c] pos) (tV (oB r r' ta tb tc)):=by
 intro pins s σ H Q I h;refine isTrue_chain (thn (ha pins s σ H _ I h) fun v s1 ⟨x,H1,I1,r1,q1⟩=>test_link (thn (hb pins s1 σ H1 _ I1 q1) fun u s2 ⟨y,H2,I2,r2,q2⟩=>
  thn (ho pins s2 σ H2 x y v u _ I2 r1 r2 q2) fun d s3 ⟨z,H3,I3,r3,k,e,q3⟩=>?_)) hm
 subst e;cases r3;refine cN ?_;cases k with
 |false=>
  obtain⟨k',e',q'⟩:=q3;cases e';exact ite_ff ⟨H3,I3,q'⟩
 |true=>
  refine ite_tt (test_last (thn (hc pins s3 σ H3 _ I3 q3) fun w' s4 ⟨z',H4,I4,r4,q4⟩=>thn (ho' pins s4 σ H4 y z' u w' _ I4 r2 r4 q4) fun d' s5 ⟨z2,H5,I5,r5,k2,e2,q5⟩=>?_));subst e2;cases r5;exact cN ⟨H5,I5,q5⟩
noncomputable def TruV(K:aa)(x:V)(H:Hp)(k:Bool):Prop:=
 match x with
 |.non=>k=false
 |.bl b=>k=b
 |.int i=>k=(i != 0)
 |.str y=>y.length<=sizeLine/\k=((y.length:Int) != 0)
 |.byt y=>y.size<=sizeLine/\k=((y.size:Int) != 0)
 |.ref p=>(∃xs,SqL K H p xs/\k= !xs.isEmpty)\/(∃xs,SqT K H p xs/\k= !xs.isEmpty)\/∃kvs,H p=some (.dK kvs)/\k= !kvs.isEmpty
 |_=>False
theorem wL{κ:Type}{kvs:List (κ×V)}{vs:List (κ×Value)}(r:KV kvs vs):(!vs.isEmpty)= !kvs.isEmpty:=by
 cases r<;>rfl
theorem o6{xs:List V}{its:List Value}(r:bU xs its):(!its.toArray.isEmpty)= !xs.isEmpty:=by
 cases r<;>simp
theorem mQ:(sizeLine:Nat)<2^63:=by rw[vB];decide
theorem tru_ok:TruR X (fun x H Q=>∃k,TruV X.K x H k/\Q k H):=by
 intro pins s σ H x v Q I rx h;obtain⟨k,e,q⟩:=h;have hl:=mQ;have hs:sizeLine=16777216:=vB;cases x with
 |non=>
  cases rx;have e':k=false:=e;subst e';exact truthy_none ⟨H,I,q⟩
 |bl b=>
  cases rx;have e':k=b:=e;subst e';exact cN ⟨H,I,q⟩
 |int i=>
  obtain⟨t,rfl⟩:=rx;have e':k=(i != 0):=e;subst e';exact PySem.P.truthy_int ⟨H,I,q⟩
 |str y=>
  obtain⟨t,rfl⟩:=rx;obtain⟨hy,e'⟩:y.length<=sizeLine/\k=((y.length:Int) != 0):=e;subst e';exact PySem.P.truthy_str (by omega) ⟨H,I.tok _,q⟩
 |byt y=>
  obtain⟨t,rfl⟩:=rx;obtain⟨hy,e'⟩:y.size<=sizeLine/\k=((y.size:Int) != 0):=e;subst e';exact PySem.W.truthy_bytes (by omega) ⟨H,I.tok _,q⟩
 |ref p=>
  cases rx;have e':(∃xs,SqL X.K H p xs/\k= !xs.isEmpty)\/(∃xs,SqT X.K H p xs/\k= !xs.isEmpty)\/∃kvs,H p=some (.dK kvs)/\k= !kvs.isEmpty:=e;rcases e' with⟨xs,hx,e'⟩ |⟨xs,hx,e'⟩ |⟨kvs,hx,e'⟩
  ·subst e'
   obtain⟨its,r,pl,hz⟩:=I.list hx;have hlen:=r.length;exact wpAny_truthy_list pl.isList (by simp only[av];omega) ⟨H,I.tok _,by rw[o6 r];exact q⟩
  ·subst e'
   obtain⟨its,r,pl,hz⟩:=I.tuple hx;have hlen:=r.length;exact truthy_tuple pl (by simp only[av];omega) ⟨H,I.tok _,by rw[o6 r];exact q⟩
  ·subst e'
   obtain⟨hz,hS,vs,r,m⟩:kvs.length<=sizeLine/\(p==zK)=false/\∃vs,KV kvs vs/\s.heap.DictOf (d4 X.prog X.w) p vs:=I.hok p _ hx;have hlen:kvs.length=vs.length:=mz r;exact wpAny_truthy_dict hS m (by omega) ⟨H,I.tok _,by rw[wL r];exact q⟩
 |_=>exact(show False from e).elim
theorem hE(ha:PE X a ta)(he:∀whole,isTrue a X.env whole=(do let v<-whole;standAt a.pos;holding [v] (truthy v))):
  PT X a (fun σ H Q=>ta σ H fun x H'=>∃k,TruV X.K x H' k/\Q k H'):=by
 intro pins s σ H Q I h;exact isTrue_plain (thn (ha pins s σ H _ I h) fun v s1 ⟨x,H1,I1,r1,q1⟩=>tru_ok pins s1 σ H1 x v Q I1 r1 q1) (he _)
theorem wD:OpR X (dw .Add) (fun x y H Q=>∃i j,x=.str i/\y=.str j/\i.length+j.length<=sizeLine/\Q (.str (i++j)) H):=by
 intro pins s σ H x y v u Q I rx ry h;obtain⟨i,j,rfl,rfl,hz,q⟩:=h;obtain⟨t,rfl⟩:=rx;obtain⟨t',rfl⟩:=ry;exact add_str (fun t' tk=>⟨.str (i++j),H,I.tok _,⟨_,rfl⟩,q⟩) hz
theorem vals1{x:V}{us:List Value}(r:bU [x] us):∃u,us=[u]/\RelV x u:=by
 cases r with
 |cons r1 r2=>cases r2;exact⟨_,rfl,r1⟩
theorem vals2{x y:V}{us:List Value}(r:bU [x,y] us):∃u w',us=[u,w']/\RelV x u/\RelV y w':=by
 cases r with
 |cons r1 r2=>
  cases r2 with
  |cons r3 r4=>cases r4;exact⟨_,_,rfl,r1,r3⟩
theorem zB(hc:X.calm=true):eK X (.builtin "min") (fun xs H Q=>∃i j,xs=[.int i,.int j]/\Q (.int (if j<i then j else i)) H):=by
 intro pins s σ H xs us Q I r h;obtain⟨i,j,rfl,q⟩:=h;obtain⟨u,w',rfl,⟨t,rfl⟩,⟨t',rfl⟩⟩:=vals2 r;refine min_two_ints (I.ok.hd hc) fun h' tk k=>⟨_,H,I.kept k,?_,q⟩;by_cases hj:j<i
 ·rw[if_pos hj,if_pos hj];exact⟨_,rfl⟩
 ·rw[if_neg hj,if_neg hj];exact⟨_,rfl⟩
theorem zC:eK X (.type "int") (fun xs H Q=>(∃i,xs=[.int i]/\Q (.int i) H)\/∃k,xs=[.bl k]/\Q (.int (if k then 1 else 0)) H):=by
 intro pins s σ H xs us Q I r h;rcases h with⟨i,rfl,q⟩ |⟨k,rfl,q⟩
 ·obtain⟨u,rfl,t,rfl⟩:=vals1 r
  exact call_int_int ⟨.int i,H,I,⟨_,rfl⟩,q⟩
 ·obtain⟨u,rfl,r1⟩:=vals1 r
  cases r1;exact call_int_bool ⟨.int (if k then 1 else 0),H,I.tok _,⟨_,rfl⟩,q⟩
end
structure ObjM(h:Heap)(x dx C:Addr)(mA:Str->Option Value):Prop where
 obj:h.get? x=some (pH C dx)
 ns:h.Ns1 dx mA
 ne:dx≠x
theorem zg{h:Heap}{dx:Addr}{mA:Str->Option Value}(n:h.Ns1 dx mA):∃od,h.get? dx=some od/\∀name,qo name od=some (mA name):=by
 obtain⟨o,es,ep,ho,hd,hk,_,hm⟩:=n;refine⟨o,ho,fun name=>?_⟩;have e:=hm name;unfold nsFind findBy at e;rw[<-Array.find?_toList]at e;unfold qo;rw[hd];dsimp only;split
 ·rename_i y q
  rw[q]at e;exact congrArg some e
 ·rename_i q
  rw[q]at e;have a:es.toList.any (·.refKey)=false:=by
   rw[List.any_eq_false];intro y hy;obtain⟨z,t,hkey⟩:=hk y (zU.mp hy);simp[DictEntry.refKey,hkey]
  have a':¬es.toList.any (·.refKey)=true:=by rw[a];exact au
  rw[if_neg a'];exact congrArg some e
theorem ObjM.look{h:Heap}{x dx C:Addr}{mA:Str->Option Value}(I:ObjM h x dx C mA):∃od,PySem.W.InstAt h x (pH C dx) C (some od)/\∀name,qo name od=some (mA name):=
 let⟨od,ho,hl⟩:=zg I.ns
 ⟨od,⟨I.obj,rfl,rfl,ho⟩,hl⟩
noncomputable def putF(f:Str)(v:V):List (Str×V)->List (Str×V)
 | []=>[(f,v)]
 | (g,x)::r=>if g=f then(g,v)::r else(g,x)::putF f v r
section
variable {P:Program}{w:World}{H H':Hp}{h h':Heap}{a C dx:Addr}{fs fs':List (Str×V)}
theorem ins_get(hok:HOk P w H h)(e:H a=some (.ins C dx fs)):∃mA,ObjM h a dx C mA/\(∀f,RelO (fs.lookup f) (mA f))/\xr mA (fs.map (·.1))/\fs.length<=1000/\H dx=some (.own a):=by
 obtain⟨d,z,ne,ob,mA,n,r,q⟩:=(show dN P w H h a (.ins C dx fs)from hok a _ e);exact⟨mA,⟨ob,n,ne⟩,r,q,z,d⟩
end
structure Cls(K:aa)(C:Addr):Prop where
 pg:CF K C Str.empty=true
 hd:PySem.W.hasDictIn K C=true
 po:PySem.W.plainOver K C=true
 sa:dU K (.ref C) "__setattr__"=some (some (.builtin "object.__setattr__"))
theorem Cls.get{K:aa}{C:Addr}(c:Cls K C)(f:Str):CF K C f=true:=c.pg
noncomputable def Cs(K:aa)(C:Addr)(f:Str):Prop:=dU K (.ref C) f=some none
structure Meth(K:aa)(C:Addr)(m:Str)(f:Addr):Prop where
 at_:dU K (.ref C) m=some (some (.ref f))
 fn:PySem.W.isFn K (.ref f)=true
 kp:bJ K (.ref f)=true
noncomputable def tFld(K:aa)(ta:TE)(f:Str):TE:=fun σ H Q=>ta σ H fun x H1=>∃a C dx fs v,x=.ref a/\H1 a=some (.ins C dx fs)/\Cls K C/\Cs K C f/\fs.lookup f=some v/\Q v H1
noncomputable def sFld(K:aa)(ta tv:TE)(f:Str):TS:=fun D σ H=>tv σ H fun y H1=>ta σ H1 fun x H2=>∃a C dx fs,x=.ref a/\H2 a=some (.ins C dx fs)/\Cls K C/\Cs K C f/\fs.length<1000/\
 D.nx σ (upd H2 a (.ins C dx (putF f y fs)))
section
variable {X:Cx}{pins:List (Addr×Obj)}{σ:St}{H:Hp}{s:Shared}{A:Around}{E:Value->Shared->Prop}{Q:Value->Shared->Prop}{c:Value}{b:Bool}
inductive ju (K:aa) (H:Hp):V->Value->Prop where
 |non:ju K H .non (.type "NoneType")
 |bl (x:Bool):ju K H (.bl x) (.type "bool")
 |int (i:Int):ju K H (.int i) (.type "int")
 |str (x:Str):ju K H (.str x) (.type "str")
 |flt (x:UInt64):ju K H (.flt x) (.type "float")
 |lst {a:Addr} {xs:List V} (e:H a=some (.lst xs)):ju K H (.ref a) (.type "list")
 |frz {a:Addr} {o:Obj} {xs:List V} (e:H a=some (.frz o (.lst xs))):ju K H (.ref a) (.type "list")
 |tup {a:Addr} {xs:List V} (e:H a=some (.tup xs)):ju K H (.ref a) (.type "tuple")
 |dK {a:Addr} {kvs:List (Key×V)} (e:H a=some (.dK kvs)):ju K H (.ref a) (.type "dict")
 |dT {a:Addr} {kvs:List (List Key×V)} (e:H a=some (.dT kvs)):ju K H (.ref a) (.type "dict")
 |ins {a C dx:Addr} {fs:List (Str×V)} (e:H a=some (.ins C dx fs)) (cl:Cls K C) (ha:dU K (.ref C) "__class__"=some (some (.builtin "object.__class__")))
   (hn:zV K (.builtin "object.__class__") "__get__"=some (some (.builtin "getset_descriptor.__get__"))) (htk:PySem.W.takesIn K (.builtin "object.__class__")=some true)
   (hm:tu K C (.type "object")=some true):ju K H (.ref a) (.ref C)
theorem qQ{x:V}{u t:Value}(I:Inv X pins σ H s)(rx:RelV x u)(ty:ju X.K H x t)(e:bI X.K t c=some b)(h:∀tk,Q (.bool b) {s with toks:=tk}):
  wpAny (model X.prog X.w) A (call (.builtin "isinstance") [u,c]) Q E s:=by
 cases ty with
 |non=>cases(show u=ck from rx);exact cw PySem.W.kitx_none I.kIn True.intro e (fun z=>nomatch z) h
 |bl y=>cases(show u=ti y from rx);exact cw PySem.W.kitx_bool I.kIn True.intro e (fun z=>nomatch z) h
 |int i=>obtain⟨t,q⟩:=(show ∃t,u=jx i t from rx);cases q;exact cw PySem.W.kitx_int I.kIn True.intro e (fun z=>nomatch z) h
 |str y=>obtain⟨t,q⟩:=(show ∃t,u=dF y t from rx);cases q;exact cw PySem.W.kitx_str I.kIn True.intro e (fun z=>nomatch z) h
 |flt y=>obtain⟨t,q⟩:=(show ∃t,u=Value.float y t from rx);cases q;exact cw PySem.W.kitx_float I.kIn True.intro e (fun z=>nomatch z) h
 | @lst a xs ea=>
  cases(show u=cu a from rx);obtain⟨_,_,n,_,h1⟩:=(show dN X.prog X.w H s.heap a (.lst xs)from I.hok a _ ea);exact cw zW I.kIn ⟨_,h1,rfl⟩ e (fun z=>nomatch z) h
 | @frz a ob xs ea=>
  cases(show u=cu a from rx);obtain⟨_,_,_,n,_,h1⟩:=(show dN X.prog X.w H s.heap a (.frz ob (.lst xs))from I.hok a _ ea);exact cw zW I.kIn ⟨_,h1,rfl⟩ e (fun z=>nomatch z) h
 | @tup a xs ea=>
  cases(show u=cu a from rx);obtain⟨_,_,_,p⟩:=(show dN X.prog X.w H s.heap a (.tup xs)from I.hok a _ ea);obtain⟨o,h1,h2,_⟩:=p;exact cw PySem.W.kitx_tuple I.kIn ⟨o,h1,h2⟩ e (fun z=>nomatch z) h
 | @dK a kvs ea=>
  cases(show u=cu a from rx);obtain⟨_,_,vs,_,p⟩:=(show dN X.prog X.w H s.heap a (.dK kvs)from I.hok a _ ea);obtain⟨o,es,ep,h1,h2,_⟩:=p;exact cw zX I.kIn ⟨o,h1,h2.1⟩ e (fun z=>nomatch z) h
 | @dT a kvs ea=>
  cases(show u=cu a from rx);obtain⟨_,_,xs,_,o,es,ep,h1,h2,_⟩:=(show dN X.prog X.w H s.heap a (.dT kvs)from I.hok a _ ea);exact cw zX I.kIn ⟨o,h1,h2.1⟩ e (fun z=>nomatch z) h
 | @ins a C dx fs ea cl ha hn htk hm=>
  cases(show u=cu a from rx);obtain⟨mA,O,_⟩:=ins_get I.hok ea;obtain⟨od,J,_⟩:=O.look;exact cw (PySem.W.kitx_own (cl.get _) cl.hd ha hn htk hm) I.kIn J e (fun z=>nomatch z) h
end
structure iM(k:Nat)(A:Around):Prop where
 hd:A.handled=none
 dp:A.depth+3*k+5<gT
 un:A.units+16*k+200<cLine
theorem iM.mono{j k:Nat}{A:Around}(r:iM k A)(h:j<=k):iM j A:=⟨r.hd,by have :=r.dp;omega,by have :=r.un;omega⟩
theorem iM.deeper{k:Nat}{A:Around}(r:iM (k+1) A)(env:Env):iM k (A.deeper env):=
 ⟨r.hd,by have :=r.dp;show A.depth+1+3*k+5<_;omega,by have :=r.un;show A.units+3+16*k+200<_;omega⟩
theorem iM.depth{k:Nat}{A:Around}(r:iM k A):A.depth<gT:=by have :=r.dp;omega
theorem iM.units{k:Nat}{A:Around}(r:iM k A):A.units+64<cLine:=by have :=r.un;omega
noncomputable def tW:TA:=fun _ H Q=>Q [] H
noncomputable def nr(ta:TE)(tr:TA):TA:=fun σ H Q=>ta σ H fun x H1=>tr σ H1 fun xs H2=>Q (x::xs) H2
section
variable {X:Cx}{e:Expr}{es:List Expr}{te:TE}{t:TA}{pos:Pos}
theorem lj:PA X [] tW:=fun _ _ _ _ H Q I h=>Calls.spliced_nil ⟨[],H,I,.nil,h⟩
theorem iu(ha:PE X e te)(hr:PA X es t)(hs:bB (e::es) X.env=(false,eval e X.env)::bB es X.env:=by rfl):PA X (e::es) (nr te t):=by
 intro pos pins s σ H Q I h;rw[hs];show wpAny _ _ (spliced ((false,eval e X.env)::backTo pos (bB es X.env))) _ _ s;refine Calls.spliced_cons (thn (ha pins s σ H _ I h) fun u s1 ⟨x,H1,I1,r1,q1⟩=>?_);exact thn (hr pos pins s1 σ H1 _ I1 q1) fun us s2 ⟨xs,H2,I2,r2,q2⟩=>⟨x::xs,H2,I2,.cons r1 r2,q2⟩
noncomputable def tTup(t:TA):TE:=fun σ H Q=>t σ H fun xs H1=>xs.length<=sizeLine/\∀p,H1 p=none->Q (.ref p) (upd H1 p (.tup xs))
noncomputable def tLst(t:TA):TE:=fun σ H Q=>t σ H fun xs H1=>xs.length<=sizeLine/\∀p,H1 p=none->Q (.ref p) (upd H1 p (.lst xs))
theorem Bd{x1}(h:PA X es t):PE X (.Tuple es x1 pos) (tTup t):=by
 intro pins s σ H Q I hq;refine wpAny_Tuple_spliced (thn (h pos pins s σ H _ I hq) fun us s1 ⟨xs,H1,I1,r,z,q⟩=>⟨by rw[<-r.length];exact z,?_⟩);have hf:H1 s1.heap.objs.size=none:=I1.hok.fresh (aq _);refine⟨.ref s1.heap.objs.size,upd H1 s1.heap.objs.size (.tup xs),I1.laid (t':=s1.toks) (fun b u e=>ag _ e) (aq _) ?_,rfl,q _ hf⟩;exact⟨z,us,r,⟨_,aK _ rfl,rfl,_,rfl⟩⟩
theorem Bl(h:PA X es t):PE X (.List es pos) (tLst t):=by
 intro pins s σ H Q I hq;refine wpAny_List_spliced (thn (h pos pins s σ H _ I hq) fun us s1 ⟨xs,H1,I1,r,z,q⟩=>⟨by rw[<-r.length];exact z,?_⟩);have hf:H1 s1.heap.objs.size=none:=I1.hok.fresh (aq _);refine⟨.ref s1.heap.objs.size,upd H1 s1.heap.objs.size (.lst xs),I1.laid (t':=s1.toks) (fun b u e=>ag _ e) (aq _) ?_,rfl,q _ hf⟩;exact⟨z,us,0,r,aK _ rfl⟩
end
noncomputable abbrev Sp:=List V->Hp->VK->XK->Prop
noncomputable abbrev CXT:=List Env->Hp->Shared->XK->Value->Shared->Prop
structure Env0(P:Program)(w:World)(K:aa)(mg:Str->Option Value)(base:Heap)(A:Around)(outer:List Env)(s:Shared)(H:Hp):Prop where
 frames:A.frames=some outer
 mod:Mod K mg base
 bs:∀b o,base.get? b=some o->s.heap.get? b=some o/\H b=none
 bsz:base.objs.size<=s.heap.objs.size
 qc:s.heap.FunFrames base outer
 frf:∀b∈frs outer,H b=none
 hok:HOk P w H s.heap
 bare:kB s.gens
noncomputable def CE(outer:List Env)(P:Program)(w:World)(H:Hp)(s:Shared)(Q:VK)(u:Value)(s':Shared):Prop:=
 ∃v H',s'.os=s.os/\kB s'.gens/\Un (frs outer) [] H H' s.heap s'.heap/\HOk P w H' s'.heap/\RelV v u/\Q v H'
noncomputable def CR(CX:CXT)(outer:List Env)(P:Program)(w:World)(H:Hp)(s:Shared)(Q:VK)(E:XK)(r:Result)(s':Shared):Prop:=
 match r with
 |.ok (.ret u)=>CE outer P w H s Q u s'
 |.ok _=>False
 |.error e=>CX outer H s E e s'
structure hV(P:Program)(w:World)(K:aa)(mg:Str->Option Value)(base:Heap)(CX:CXT)(k:Nat)(f:Addr)(fd:eZ)(ps:List Str)(sp:Sp):Prop where
 len:∀vs H Q E,sp vs H Q E->vs.length=ps.length
 run:∀(A:Around)(outer:List Env)(s:Shared)(H:Hp)(args:Args)(us:List Value)(vs:List V)(Q:VK)(E:XK),iM k A->Env0 P w K mg base A outer s H->BindsTo s fd args (ps.zip us)->bU vs us->sp vs H Q E->
  mw (model P w) A (.call (.ref f) args) (CR CX outer P w H s Q E) s
section
variable {X:Cx}{pins:List (Addr×Obj)}{σ:St}{H:Hp}{s s':Shared}
theorem Inv.env0(I:Inv X pins σ H s):Env0 X.prog X.w X.K X.mg X.base X.A X.stack s H:=
 ⟨I.ok.frames,I.ok.mod,I.bs,aI I.ok.bsz I.sz,I.stack,I.rP,I.hok,I.bare⟩
theorem Inv.after{Q:VK}{u:Value}(I:Inv X pins σ H s)(h:CE X.stack X.prog X.w H s Q u s'):EP X pins σ Q u s':=by
 obtain⟨v,H',os,bare,un,hok,r,q⟩:=h;obtain⟨hh,g,d,t,os'⟩:=s';obtain rfl:os'=s.os:=os;exact⟨v,H',I.call (h':=hh) (g':=g) (d':=d) (t':=t) (ch:=[]) un hok bare (fun b z=>absurd z (by simp)),r,q⟩
end
noncomputable def tY(sp:Sp)(dvs:List V)(E:XK)(t:TA):TE:=fun σ H Q=>t σ H fun vs H1=>sp (vs++dvs) H1 Q E
noncomputable def tMeth(C:Addr)(m:Str)(sp:Sp)(dvs:List V)(E:XK)(ta:TE)(t:TA):TE:=fun σ H Q=>ta σ H fun x H1=>∃a dx fs,x=.ref a/\H1 a=some (.ins C dx fs)/\fs.lookup m=none/\
 t σ H1 fun vs H2=>sp (x::(vs++dvs)) H2 Q E
noncomputable def tMake(C:Addr)(sp:Sp)(dvs:List V)(E:XK)(t:TA):TE:=fun σ H Q=>t σ H fun vs H1=>∀x dx,H1 x=none->H1 dx=none->dx≠x->
 sp (.ref x::(vs++dvs)) (upd (upd H1 dx (.own x)) x (.ins C dx [])) (fun v H2=>v=.non/\Q (.ref x) H2) E
noncomputable def Binds(K:aa)(fd:eZ)(ps:List Str)(ds:List Value):Prop:=
 ∀(s:Shared)(us:List Value),K.In s.heap->(us++ds).length=ps.length->BindsTo s fd ⟨us,[]⟩ (ps.zip (us++ds))
theorem Binds.all{K:aa}{fd:eZ}{ps:List Str}(h:∀us:List Value,us.length=ps.length->lE fd ⟨us,[]⟩=pure (ps.zip us)):Binds K fd ps []:=fun s us _ hl=>by
 rw[cM]at hl⊢;exact .of_eq (h us hl)
section
variable {X:Cx}{CX:CXT}{k:Nat}{f C:Addr}{fd:eZ}{ps:List Str}{sp:Sp}{dvs:List V}{ds:List Value}{E:XK}{x m:Str}{p pos apos:Pos}{e o:Expr}{es:List Expr}{ta:TE}{t:TA}
structure Mk(K:aa)(C f:Addr):Prop where
 makes:PySem.W.makesIn K C=true
 init:dU K (.ref C) "__init__"=some (some (.ref f))
 fn:PySem.W.isFn K (.ref f)=true
 kp:bJ K (.ref C)=true
end
structure sY(N P:List Str)(sc:Scope):Prop where
 kind:sc.kind=.function
 co:sc.isCoroutine=false
 gen:sc.isGenerator=false
 nd:N.Nodup
 pre:N.take P.length=P
 par:∀x∈P,sc.names.lookup x=some .local\/sc.names.lookup x=some .cell
 nofree:∀y∈sc.names,y.2≠.free
theorem rn{kindOf:Str->Option cU}{x:Str}:∀{binds:List (Str×Value)}{m:Str->Option Value},(∀v,(x,v)∉binds)->bindL kindOf binds m x=m x
 | [],_,_=>rfl
 | (n,v)::r,m,h=>by
  unfold bindL;rw[rn fun w hw=>h w (aJ _ hw)];split
  ·have :x≠n:=by rintro rfl;exact h v aH
   simp[this]
  ·rfl
theorem rp{kindOf:Str->Option cU}{x:Str}:∀{binds:List (Str×Value)}{m:Str->Option Value},(∀v,(x,v)∉binds)->bindC kindOf binds m x=m x
 | [],_,_=>rfl
 | (n,v)::r,m,h=>by
  unfold bindC;rw[rp fun w hw=>h w (aJ _ hw)];split
  ·rfl
  ·have :x≠n:=by rintro rfl;exact h v aH
   simp[this]
theorem ro{kindOf:Str->Option cU}{x:Str}{v:Value}:∀{P:List Str}{vs:List Value}{i:Nat}{m:Str->Option Value},P.Nodup->P[i]? =some x->vs[i]? =some v->kindOf x=some .local->
  bindL kindOf (P.zip vs) m x=some v
 | [],_,_,_,_,h,_,_=>by simp at h
 |_::_,[],_,_,_,_,h,_=>by simp at h
 |p::P,w::vs,0,m,nd,h1,h2,hk=>by
  simp at h1 h2;subst h1;subst h2;show bindL kindOf ((p,w)::P.zip vs) m p=_;unfold bindL;rw[rn fun v hv=>(eE.mp nd).1 (rD hv).1,if_pos hk];simp
 |p::P,w::vs,i+1,m,nd,h1,h2,hk=>by
  show bindL kindOf ((p,w)::P.zip vs) m x=_;unfold bindL;exact ro (i:=i) (eE.mp nd).2 (by simpa using h1) (by simpa using h2) hk
theorem rq{kindOf:Str->Option cU}{x:Str}{v:Value}:∀{P:List Str}{vs:List Value}{i:Nat}{m:Str->Option Value},P.Nodup->P[i]? =some x->vs[i]? =some v->kindOf x≠some .local->
  bindC kindOf (P.zip vs) m x=some v
 | [],_,_,_,_,h,_,_=>by simp at h
 |_::_,[],_,_,_,_,h,_=>by simp at h
 |p::P,w::vs,0,m,nd,h1,h2,hk=>by
  simp at h1 h2;subst h1;subst h2;show bindC kindOf ((p,w)::P.zip vs) m p=_;unfold bindC;rw[rp fun v hv=>(eE.mp nd).1 (rD hv).1,if_neg hk];simp
 |p::P,w::vs,i+1,m,nd,h1,h2,hk=>by
  show bindC kindOf ((p,w)::P.zip vs) m x=_;unfold bindC;exact rq (i:=i) (eE.mp nd).2 (by simpa using h1) (by simpa using h2) hk
noncomputable def start(N:List Str)(vs:List V):St:=vs.map some++gc (N.length-vs.length) none
noncomputable def qe(CX:CXT)(P:Program)(w:World)(K:aa)(mg:Str->Option Value)(base:Heap)(N:List Str)(qual:Str)(scope:Scope)(f:Addr)(cd:Value)(A:Around)(outer:List Env)(s:Shared)(H:Hp)(E:XK):Cx where
 prog:=P
 w:=w
 K:=K
 mg:=mg
 base:=base
 A:=A.deeper (envOfC qual scope s.heap.objs.size f cd)
 N:=N
 s₀:=s
 H₀:=H
 env:=envOfC qual scope s.heap.objs.size f cd
 outer:=outer
 stack:=envOfC qual scope s.heap.objs.size f cd::outer
 ex:=[]
 calm:=true
 fn:=fun _=>true
 pn:=[]
 xe:=fun e s'=>wpAny (model P w) (A.deeper (envOfC qual scope s.heap.objs.size f cd)) (leaving (envOfC qual scope s.heap.objs.size f cd) e) (fun _ s''=>CX outer H s E e s'') (fun e' s''=>CX outer H s E e' s'') s'
theorem vg{sc:Scope}{n:Nat}{x:Str}(h:sc.names.lookup x=some .cell):∃c,(bQ n sc.names []).lookup x=some c:=by
 have q:=vz sc.names n [] (.inl h);exact bW.mp q
theorem zo{CX:CXT}{P:Program}{w:World}{K:aa}{mg:Str->Option Value}{base:Heap}{N ps:List Str}{qual:Str}{scope:Scope}{f:Addr}{cd:Value}{A:Around}{outer:List Env}{s s1:Shared}{H:Hp}{E:XK}{us:List Value}{vs:List V}
  (S:sY N ps scope)(hd:A.handled=none)(e0:Env0 P w K mg base A outer s H)(hl:vs.length=ps.length)(r:bU vs us)
  (x:InCallC s s.heap.objs.size (bindL (envOfC qual scope s.heap.objs.size f cd).kindOf (ps.zip us) fun _=>none) (bQ (s.heap.objs.size+1) scope.names []) (bindC (envOfC qual scope s.heap.objs.size f cd).kindOf (ps.zip us) fun _=>none) s1):
  Inv (qe CX P w K mg base N qual scope f cd A outer s H E) [] (start N vs) H s1:=by
 have hpl:ps.length<=N.length:=by have :=congrArg cF S.pre;rw[aA]at this;omega
 obtain⟨h1,tk,rfl,hk⟩:=x.done;have noA:∀b:Addr,b∉(qe CX P w K mg base N qual scope f cd A outer s H E).ex:=fun b z=>absurd (show b∈([]:List Addr)from z) (by simp);refine⟨⟨e0.mod,S.kind,rfl,rfl,aq _,fun y z c h1 h2=>?_,fun y hy=>?_,fun y c _ h=>?_,fun _=>hd,Around.frames_deeper e0.frames,.inr ⟨rfl,rfl⟩,fun b z=>absurd z (noA b),e0.bs,e0.bsz,fun b _ _=>noA b,fun b z=>absurd z (noA b),e0.qc,e0.frf⟩,
  rfl,e0.bare,Un.kept hk,⟨_,x.toInCall.ns,fun i y v h1 h2 h3=>?_⟩,fun y c h=>⟨_,x.cell y c h⟩,e0.hok.fresh (aq _),fun y c h=>?_,fun p hp=>absurd (show p∈([]:List (Addr×Obj))from hp) (by simp),e0.hok.kept hk,?_⟩
 ·exact name_of_addr x.apart (aY h1) (aY h2)
 ·have hy:scope.names.lookup y=some .cell\/scope.names.lookup y=some .free:=hy
  rcases hy with hy|hy
  ·exact vg hy
  ·exact absurd rfl (S.nofree _ (aY hy))
 ·exact pK (x.above y c (aY h))
 ·have hi:i<vs.length:=by
   unfold start at h2;by_cases hi:i<vs.length
   ·exact hi
   ·rw[ff (by simpa using hi)]at h2
    rw[List.getElem?_replicate]at h2;split at h2<;>cases h2
  have ha:vs[i]? =some v:=by
   unfold start at h2;rw[i7 (by simpa using hi),bq]at h2;cases e:vs[i]? with
   |none=>rw[e]at h2;cases h2
   |some a=>rw[e]at h2;cases h2;rfl
  obtain⟨u,hu,rv⟩:=r.get ha;have hp:ps[i]? =some y:=by
   rw[<-S.pre,vI (by omega)];exact h1
  have ndP:ps.Nodup:=by rw[<-S.pre];exact S.nd.sublist (gb _ _)
  refine⟨u,rv,?_⟩;rcases S.par y (aD hp)with k|k
  ·exact .inl ⟨k,ro ndP hp hu k⟩
  ·obtain⟨c,e⟩:=vg (n:=s.heap.objs.size+1) k
   refine .inr ⟨.inl k,c,e,?_⟩;have q:=x.cell y c e;rw[rq ndP hp hu (by show scope.names.lookup y≠_;rw[k];decide)]at q;exact q
 ·exact e0.hok.fresh (pK (x.above y c (aY h)))
 ·unfold start
  show _=N.length;rw[ai,aC,List.length_replicate];omega
theorem fn_of{CX:CXT}{P:Program}{w:World}{K:aa}{mg:Str->Option Value}{base:Heap}{k:Nat}{f:Addr}{name qual:Str}{params:Arguments}{body:List Stmt}{scope:Scope}{dV kV doc pm cdv ct oc:Value}{an od:Option Addr}
  {osl:Array (Option Value)}{N ps:List Str}{sp:Sp}(lk:K.lookup f=some ⟨oc,od,.func (aL name qual params body scope dV kV doc pm an cdv ct),osl⟩)(hcd:dW K cdv qual=true)(S:sY N ps scope)
  (len:∀vs H Q E,sp vs H Q E->vs.length=ps.length)
  (hbody:∀(A:Around)(outer:List Env)(s:Shared)(H:Hp)(vs:List V)(Q:VK)(E:XK),iM k (A.deeper (envOfC qual scope s.heap.objs.size f cdv))->sp vs H Q E->
   ∃t,PSs (qe CX P w K mg base N qual scope f cdv A outer s H E) body t/\t {nx:=fun _ H'=>Q .non H',rt:=Q} (start N vs) H):
  hV P w K mg base CX (k+1) f (aL name qual params body scope dV kV doc pm an cdv ct) ps sp:=by
 refine⟨len,fun A outer s H args us vs Q E hr e0 hb r hsp=>?_⟩;have hl:=len _ _ _ _ hsp;have KX:K.In s.heap:=e0.mod.kin.keeps fun b o e=>(e0.bs b o e).1;have lim:s.heap.NoLimit:=e0.mod.nolimit.keeps fun b o e=>(e0.bs b o e).1;have hkind:∀y∈ps.zip us,scope.names.lookup y.1=some .local\/(scope.names.lookup y.1=some .cell/\((bQ (s.heap.objs.size+1) scope.names []).lookup y.1).isSome=true):=fun⟨n,v⟩ hy=>by
  rcases S.par n (rD hy).1 with q|q
  ·exact .inl q
  ·exact .inr ⟨q,vz _ _ _ (.inl q)⟩
 refine codeAny_call_function hr.depth (KX _ _ lk) rfl S.co S.gen rfl (PySem.W.codeRec_of KX hcd) (hb _ _ _ _ ?_);refine wpAny_newFunctionEnv_cells S.kind hkind fun env he s1 x=>?_;subst he;refine⟨lim.keeps x.toInCall.keep,codeAny_func ?_⟩;obtain⟨t,ht,hq⟩:=hbody A outer s H vs Q E (hr.deeper _) hsp;have I:Inv (qe CX P w K mg base N qual scope f cdv A outer s H E) [] (start N vs) H s1:=zo S hr.hd e0 hl r x;refine dk (ht [] s1 (start N vs) H _ I hq) (fun fl s' hs=>?_) fun e s' hs=>hs;have fin:∀{σ':St}{H':Hp}{v:V}{u:Value},Inv (qe CX P w K mg base N qual scope f cdv A outer s H E) [] σ' H' s'->RelV v u->Q v H'->CE outer P w H s Q u s':=
  fun{σ' H' v u} J rv q=>⟨v,H',J.os,J.bare,J.base,J.hok,rv,q⟩
 cases fl with
 |ret u=>
  obtain⟨v,σ',H',J,rv,q⟩:=hs;exact fin J rv q
 |next =>
  obtain⟨σ',H',J,q⟩:=hs;exact fin (v:=V.non) (u:=ck) J rfl q
 |brk=>
  obtain⟨_,_,_,q⟩:=hs;exact iS q
 |cont=>
  obtain⟨_,_,_,q⟩:=hs;exact iS q
section
variable {X:Cx}{x:Str}{p pos:Pos}{e:Expr}{es:List Expr}{t:TA}{id T:String}{r:List V->Hp->VK->Prop}
noncomputable def tCB(r:List V->Hp->VK->Prop)(t:TA):TE:=fun σ H Q=>t σ H fun vs H1=>r vs H1 Q
theorem Bq(hc:eK X (.builtin id) r)(hg:Gl X x)(hm:X.mg x=none)(hv:fK x=some (.builtin id))(ha:PA X (e::es) t)(hn:x≠"__name__":=by decide) (hdb:(x==("__debug__":Str))=false:=by decide)
  (he:bB (e::es) X.env=(false,eval e X.env)::bB es X.env:=by rfl) (hpl:(backTo pos (bB es X.env)).any (·.1)=false:=by rfl):PE X (.Call (.Name x p) (e::es) [] pos) (tCB r t):=by
 intro pins s σ H Q I h;refine eO (mR I hg hm hv ?_ hn hdb);exact PyProof.Rows.callWith_builtin1 (thn (ha pos pins s σ H _ I h) fun us s1 ⟨vs,H1,I1,r1,q1⟩=>hc pins s1 σ H1 vs us Q I1 r1 q1) he hpl
theorem yW(hc:eK X (.type T) r)(hg:Gl X x)(hm:X.mg x=none)(hv:fK x=some (.type T))(ha:PA X (e::es) t)(hn:x≠"__name__":=by decide) (hdb:(x==("__debug__":Str))=false:=by decide)
  (he:bB (e::es) X.env=(false,eval e X.env)::bB es X.env:=by rfl) (hpl:(backTo pos (bB es X.env)).any (·.1)=false:=by rfl):PE X (.Call (.Name x p) (e::es) [] pos) (tCB r t):=by
 intro pins s σ H Q I h;refine eO (mR I hg hm hv ?_ hn hdb);exact gB (thn (ha pos pins s σ H _ I h) fun us s1 ⟨vs,H1,I1,r1,q1⟩=>hc pins s1 σ H1 vs us Q I1 r1 q1) he hpl
end
end L2
namespace HT
open PySem PyProof.Rows
section
open PySem.SeqAt
open PySem.AutoSeq1 (wpAny_loadPart')
open PySem.MeetsSeq PySem.MeetsSeq2 PySem.MeetsSeq3
end
section
variable {prog:Program}{w:World}{A:Around}{E:Value->Shared->Prop}{s:Shared}
theorem cat_tup{t b:Addr}{vs ws:List Value}{Q:Value->Shared->Prop}(ht:IsTup s.heap t vs.toArray)(hb:IsTup s.heap b ws.toArray)(hv:vs≠[])
  (h1:ws=[]->Q (.ref t) s)(h2:ws≠[]->Q (.ref s.heap.objs.size) {s with heap:=s.heap.push {cls:=.type "tuple",data:=.seq (vs++ws).toArray}})
  (hsz:vs.length+ws.length<=sizeLine):wpAny (model prog w) A (dw .Add (.ref t) (.ref b)) Q E s:=by
 obtain⟨⟨cls,dd,data,sl⟩,ho,hc,n,hd⟩:=id ht;obtain⟨⟨cls2,dd2,data2,sl2⟩,ho2,hc2,n2,hd2⟩:=id hb;simp only at hc hd hc2 hd2;subst hc hd hc2 hd2;have e:vs.toArray++ws.toArray=(vs++ws).toArray:=by simp
 by_cases hw:ws=[]
 ·exact concat_meets ⟨_,ho,rfl⟩ ⟨_,ho2,rfl⟩ vx Cz jy jh (i5 _ _)
   (tuple_addW1 t b vs.toArray ws.toArray n n2 dd dd2 sl sl2 (by simpa using hv) (by simp[hw])) ⟨ho,ho2,h1 hw⟩
 ·refine concat_meets ⟨_,ho,rfl⟩ ⟨_,ho2,rfl⟩ vx Cz jy jh (i5 _ _)
   (tuple_addW2 t b vs.toArray ws.toArray n n2 dd dd2 sl sl2 (by simpa using hv) (by simpa using hw) (by rw[av,av];exact hsz)) ⟨ho,ho2,?_⟩
  rw[e];exact h2 hw
noncomputable def sIx(n d:Nat):Option Int->Nat
 |none=>d
 |some v=>if v<0 then(v+(n:Int)).toNat else min v.toNat n
theorem iq(n d k:Nat):sIx n d (some (k:Int))=min k n:=by
 show(if(k:Int)<0 then((k:Int)+(n:Int)).toNat else min (k:Int).toNat n)=min k n;rw[if_neg (by omega),gy]
theorem wo(n d:Nat)(hd:d<=n)(o:Option Int):sIx n d o<=n:=by
 cases o with
 |none=>exact hd
 |some v=>
  show(if v<0 then(v+(n:Int)).toNat else min v.toNat n)<=n;by_cases hv:v<0
  ·rw[if_pos hv];omega
  ·rw[if_neg hv];exact Nat.min_le_right _ _
theorem sM(v:Int)(n d:Nat):(if v<0 then max (v+(n:Int)) 0 else min v (n:Int))=((sIx n d (some v):Nat):Int):=by
 show(if v<0 then max (v+(n:Int)) 0 else min v (n:Int))=(((if v<0 then(v+(n:Int)).toNat else min v.toNat n):Nat):Int);by_cases hv:v<0
 ·simp only[if_pos hv];omega
 ·simp only[if_neg hv];omega
theorem xq(lo hi:Option Int)(n:Nat):gW lo hi 1 (n:Int)=(((sIx n 0 lo:Nat):Int),((sIx n n hi:Nat):Int)):=by
 have h1:¬((1:Int)<0):=by omega
 unfold gW;simp only[h1,if_false];refine Prod.ext ?_ ?_
 ·cases lo with
  |none=>rfl
  |some v=>exact sM v n 0
 ·cases hi with
  |none=>rfl
  |some v=>exact sM v n n
theorem wz(i j:Nat):eG (i:Int) (j:Int) 1=j-i:=by
 unfold eG;have h1:(1:Int)>0:=by omega
 simp only[h1,if_true,Int.ediv_one];split <;>omega
theorem oI{v:Value}{o:Option Int}{Q:Option Int->Shared->Prop}(p:IsPart v o)(h:Q o s):wpAny (model prog w) A (Builtin.Slice.slicePartIndex v) Q E s:=by
 cases p with
 |none=>exact slicePart_none h
 |int i t=>exact slicePart_int h
theorem iU{sl:Addr}{vl vu:Value}{lo hi:Option Int}{n:Nat}{Q:Int×Int×Nat->Shared->Prop}(hs:s.heap.IsSliceOf sl vl vu .none)(pl:IsPart vl lo)(pu:IsPart vu hi)
  (h:Q (((sIx n 0 lo:Nat):Int),1,sIx n n hi-sIx n 0 lo) s):wpAny (model prog w) A (ni (.ref sl) (pure (n:Int))) Q E s:=by
 obtain⟨os,hos,hcs,hds⟩:=id hs;unfold ni Builtin.Slice.sliceFields;refine af (af (iN hos hds (x:=vl) rfl (af (iN hos hds (x:=vu) rfl (af (iN hos hds (x:=.none) rfl (ak ?_)))))));refine af (slicePart_none ?_);show wpAny _ _ (if((1:Int)==0)=true then _ else _) _ _ s;rw[if_neg (by decide)];refine af (oI pl (af (oI pu (af (ak ?_)))));show wpAny _ _ (match gW lo hi 1 (n:Int)with | (lo,hi)=>pure (lo,(1:Int),eG lo hi 1)) _ _ s;rw[xq lo hi n];show wpAny _ _ (pure (((sIx n 0 lo:Nat):Int),(1:Int),eG ((sIx n 0 lo:Nat):Int) ((sIx n n hi:Nat):Int) 1)) _ _ s;rw[wz];exact ak h
theorem Ba(xs:Array Value)(i k:Nat):((aM k).filterMap fun(m:Nat)=>xs[((i:Int)+(m:Int)*1).toNat]?).toArray=((xs.toList.drop i).take k).toArray:=by
 have e:(fun(m:Nat)=>xs[((i:Int)+(m:Int)*1).toNat]?)=fun m=>xs[i+m]? :=by
  funext m
  have :((i:Int)+(m:Int)*1).toNat=i+m:=by omega
  rw[this]
 rw[e];have :=pick_run xs i k;rw[List.filterMap_map]at this;have e2:((fun x=>xs[x]?)∘fun x=>i+x)=fun m=>xs[i+m]? :=rfl;rw[e2]at this;rw[this]
theorem l0{t sl:Addr}{items:Array Value}{vl vu:Value}{lo hi:Option Int}{Q:Value->Shared->Prop}(ht:IsTup s.heap t items)(hs:s.heap.IsSliceOf sl vl vu .none)(pl:IsPart vl lo)(pu:IsPart vu hi)
  (hw:¬(sIx items.size 0 lo=0/\sIx items.size items.size hi=items.size))
  (h:Q (.ref s.heap.objs.size) {s with heap:=s.heap.push {cls:=.type "tuple",data:=.seq ((items.toList.drop (sIx items.size 0 lo)).take (sIx items.size items.size hi-sIx items.size 0 lo)).toArray}})
  (hsz:items.size<=sizeLine):wpAny (model prog w) A (tf (.ref t) (.ref sl)) Q E s:=by
 have htake:sizeOk (.seq ((items.toList.drop (sIx items.size 0 lo)).take (sIx items.size items.size hi-sIx items.size 0 lo)).toArray):=by
  show((items.toList.drop (sIx items.size 0 lo)).take (sIx items.size items.size hi-sIx items.size 0 lo)).toArray.size<=sizeLine;rw[av,aA,be,ax];omega
 have hj:sIx items.size items.size hi<=items.size:=wo _ _ (aq _) hi;obtain⟨os,hos,hcs,hds⟩:=id hs;have hTs:s.TypeIs (.ref sl) "slice":=⟨os,hos,hcs⟩;unfold tf;try with_reducible refine cZ ?_
 first |refine af (ak ?_) |skip
 refine af (wpAny_sequenceKey ht.typeIs (by decide) ?_);refine af (wpAny_callSpecial?_slot (name:=aV "__getitem__") ht.typeIs b7
  (vt b7 ht.typeIs entry_tuple_getitem ?_ (args_tuple_getitem _ _)))
 show wpAny _ _ (ng (.ref t)>>=_) _ _ s;refine af (tupleItemsOf_ ht ?_);refine af (wpAny_typeOf hTs ?_);rw[if_pos (by decide)];refine af (iU hs pl pu ?_);have hno:¬((((sIx items.size 0 lo:Nat):Int)==0&&(1:Int)==1&&(sIx items.size items.size hi-sIx items.size 0 lo)==items.size)=true):=by
  intro q;rw[aw,aw]at q;have q1:((sIx items.size 0 lo:Nat):Int)=0:=eq_of_beq q.1.1;have q2:sIx items.size items.size hi-sIx items.size 0 lo=items.size:=eq_of_beq q.2;exact hw ⟨by omega,by omega⟩
 show wpAny _ _ (if(((sIx items.size 0 lo:Nat):Int)==0&&(1:Int)==1&&(sIx items.size items.size hi-sIx items.size 0 lo)==items.size)=true then _ else _) _ _ s;rw[if_neg hno,Ba]
 first
  |exact af (m:=eS _) (fk (ak ⟨_,rfl,ak h⟩) htake)
  |exact af (m:=eS _) (fk (af (ak (ak ⟨_,rfl,ak h⟩))) htake)
  |exact af (af (m:=eS _) (fk (ak (ak ⟨_,rfl,ak h⟩)) htake))
  |exact af (af (m:=eS _) (fk (ak ⟨_,rfl,ak h⟩) htake))
end
end HT
namespace L2
open PySem PySem.Spec PyProof.Rows
noncomputable abbrev TO:=St->Hp->(Option Int->Hp->Prop)->Prop
noncomputable def PO(X:Cx)(e:Option Expr)(t:TO):Prop:=
 ∀(pins:List (Addr×Obj))(s:Shared)(σ:St)(H:Hp)(Q:Option Int->Hp->Prop),Inv X pins σ H s->t σ H Q->
  wpAny (model X.prog X.w) X.A (evalPart e X.env) (fun u s'=>∃o H',Inv X pins σ H' s'/\IsPart u o/\Q o H') X.xe s
noncomputable def rN:TO:=fun _ H Q=>Q none H
noncomputable def Ao(t:TE):TO:=fun σ H Q=>t σ H fun x H1=>∃i,x=.int i/\Q (some i) H1
section
variable {X:Cx}{e:Expr}{te:TE}{lo hi:Option Expr}{tl th:TO}{pos p2:Pos}
theorem po_none:PO X none rN:=by
 intro pins s σ H Q I h;rw[evalPart_none];exact ak ⟨none,H,I,.none,h⟩
theorem po_some(h:PE X e te):PO X (some e) (Ao te):=by
 intro pins s σ H Q I hw;rw[evalPart_some];refine thn (h pins s σ H _ I hw) fun u s1 ⟨x,H1,I1,r1,q1⟩=>?_;obtain⟨i,rfl,q⟩:=q1;obtain⟨t,rfl⟩:=r1;exact⟨some i,H1,I1,.int i t,q⟩
noncomputable def SlR(X:Cx)(r:V->Option Int->Option Int->Hp->VK->Prop):Prop:=
 ∀(pins:List (Addr×Obj))(s:Shared)(σ:St)(H:Hp)(x:V)(v vl vu:Value)(lo hi:Option Int)(sl:Addr)(Q:VK),Inv X pins σ H s->RelV x v->s.heap.IsSliceOf sl vl vu .none->IsPart vl lo->IsPart vu hi->r x lo hi H Q->
  ∃T id,typeLookup (.type T) "__getitem__"=pure (some (.builtin id))/\s.TypeIs v T/\wpAny (model X.prog X.w) X.A (tf v (.ref sl)) (EP X pins σ Q) X.xe s
theorem SlR.or{r r':V->Option Int->Option Int->Hp->VK->Prop}(h:SlR X r)(h':SlR X r'):SlR X (fun x lo hi H Q=>r x lo hi H Q\/r' x lo hi H Q):=by
 intro pins s σ H x v vl vu lo hi sl Q I rx hs pl pu q;rcases q with q|q
 ·exact h pins s σ H x v vl vu lo hi sl Q I rx hs pl pu q
 ·exact h' pins s σ H x v vl vu lo hi sl Q I rx hs pl pu q
noncomputable def tSl(r:V->Option Int->Option Int->Hp->VK->Prop)(te:TE)(tl th:TO):TE:=fun σ H Q=>te σ H fun x H1=>tl σ H1 fun l H2=>th σ H2 fun u H3=>r x l u H3 Q
theorem Bh{r:V->Option Int->Option Int->Hp->VK->Prop}(hr:SlR X r)(he:PE X e te)(hl:PO X lo tl)(hu:PO X hi th):PE X (.Subscript e (.Slice lo hi none p2) pos) (tSl r te tl th):=by
 intro pins s σ H Q I h;refine Subscript_ (thn (he pins s σ H _ I h) fun v s1 ⟨x,H1,I1,r1,q1⟩=>?_);refine wpAny_Slice (thn (hl pins s1 σ H1 _ I1 q1) fun vl s2 ⟨l,H2,I2,pl,q2⟩=>thn (hu pins s2 σ H2 _ I2 q2) fun vu s3 ⟨u,H3,I3,pu,q3⟩=>?_);rw[evalPart_none];refine ak ?_;have I4:Inv X pins σ H3 {s3 with heap:=s3.heap.push {cls:=.type "slice",data:=.fields #[vl,vu,.none]}}:=I3.kept (t':=s3.toks) fun b ob q=>ag _ q;obtain⟨T,id,hT,ht,hg⟩:=hr pins {s3 with heap:=s3.heap.push {cls:=.type "slice",data:=.fields #[vl,vu,.none]}} σ H3 x v vl vu l u s3.heap.objs.size Q I4 r1 (Heap.IsSliceOf.new ..) pl pu q3;show wpAny (model X.prog X.w) X.A (subscriptTail e (.Slice lo hi none p2) v (.ref s3.heap.objs.size)) (EP X pins σ Q) X.xe {s3 with heap:=s3.heap.push {cls:=.type "slice",data:=.fields #[vl,vu,.none]}};exact tail_any (ops:=[.ref s3.heap.objs.size,v]) ht hT hg (by with_unfolding_all rfl)
noncomputable def mY(xs:List V)(lo hi:Option Int):List V:=(xs.drop (HT.sIx xs.length 0 lo)).take (HT.sIx xs.length xs.length hi-HT.sIx xs.length 0 lo)
theorem nE(xs:List V)(lo hi:Option Int):(mY xs lo hi).length<=xs.length:=by
 unfold mY;rw[aA,be];omega
noncomputable def rSlT(K:aa):V->Option Int->Option Int->Hp->VK->Prop:=fun x lo hi H Q=>∃a xs,x=.ref a/\SqT K H a xs/\
 ¬(HT.sIx xs.length 0 lo=0/\HT.sIx xs.length xs.length hi=xs.length)/\∀p,H p=none->Q (.ref p) (upd H p (.tup (mY xs lo hi)))
theorem sl_tup:SlR X (rSlT X.K):=by
 intro pins s σ H x v vl vu lo hi sl Q I rx hs pl pu h;obtain⟨a,xs,rfl,hx,hw,q⟩:=h;cases rx;obtain⟨its,r,ht,hz⟩:=I.tuple hx;have hlen:its.toArray.size=xs.length:=by rw[av];exact r.length.symm
 refine⟨"tuple",_,b7.lookup,ht.typeIs,?_⟩;refine HT.l0 ht hs pl pu (by rw[hlen];exact hw) ?_ (by rw[hlen];exact hz);rw[hlen];refine⟨.ref s.heap.objs.size,_,I.laid (t':=s.toks) (o:=.tup (mY xs lo hi)) (fun b ob q=>ag _ q) (aq _) ?_,rfl,q _ (I.hok.fresh (aq _))⟩;exact⟨aI (nE xs lo hi) hz,_,(r.drop (HT.sIx xs.length 0 lo)).take (HT.sIx xs.length xs.length hi-HT.sIx xs.length 0 lo),IsTup.new _ _⟩
noncomputable def xM(K:aa):R2:=fun x y H Q=>∃a b xs ys,x=.ref a/\y=.ref b/\SqT K H a xs/\SqT K H b ys/\xs≠[]/\xs.length+ys.length<=sizeLine/\
 (ys=[]->Q (.ref a) H)/\(ys≠[]->∀p,H p=none->Q (.ref p) (upd H p (.tup (xs++ys))))
theorem bU.sE{xs:List V}{us:List Value}(r:bU xs us):us=[]↔xs=[]:=by
 cases r with
 |nil=>simp
 |cons _ _=>simp
theorem op_catT:OpR X (dw .Add) (xM X.K):=by
 intro pins s σ H x y v u Q I rx ry h;obtain⟨a,b,xs,ys,rfl,rfl,ha,hb,hx,hz,q1,q2⟩:=h;cases rx;cases ry;obtain⟨its,r1,p1,_⟩:=I.tuple ha;obtain⟨its2,r2,p2,_⟩:=I.tuple hb;refine HT.cat_tup p1 p2 (fun z=>hx (r1.sE.mp z)) (fun z=>⟨.ref a,H,I,rfl,q1 (r2.sE.mp z)⟩) (fun z=>?_) (by rw[<-r1.length,<-r2.length];exact hz);refine⟨.ref s.heap.objs.size,_,I.laid (t':=s.toks) (o:=.tup (xs++ys)) (fun b ob q=>ag _ q) (aq _) ?_,rfl,q2 (fun w=>z (r2.sE.mpr w)) _ (I.hok.fresh (aq _))⟩;exact⟨by rw[ai];exact hz,_,r1.append r2,IsTup.new _ _⟩
end
noncomputable def ixN(n:Nat)(i:Int):Option Nat:=if 0<=i then(if i<n then some i.toNat else none)else if -(n:Int)<=i then some (i+n).toNat else none
noncomputable def atI{α:Type}(xs:List α)(i:Int):Option α:=(ixN xs.length i).bind fun j=>xs[j]?
theorem ixN_seq{n:Nat}{i:Int}{j:Nat}(h:ixN n i=some j):seqIndex? i n=some j/\j<n∧-(n:Int)<=i/\i<n:=by
 unfold ixN at h;by_cases h0:0<=i
 ·rw[if_pos h0]at h
  by_cases h1:i<n
  ·rw[if_pos h1]at h
   have e:i.toNat=j:=a9 h;exact⟨by rw[seqIndex_of h0 h1,e],by omega,by omega,h1⟩
  ·rw[if_neg h1]at h;cases h
 ·rw[if_neg h0]at h
  by_cases h1: -(n:Int)<=i
  ·rw[if_pos h1]at h
   have e:(i+n).toNat=j:=a9 h;exact⟨by rw[seqIndex_neg (by omega) h1,e],by omega,h1,by omega⟩
  ·rw[if_neg h1]at h;cases h
theorem sW{α:Type}{xs:List α}{i:Int}{v:α}(h:atI xs i=some v):∃j,seqIndex? i xs.length=some j/\xs[j]? =some v/\j<xs.length∧-(xs.length:Int)<=i/\i<xs.length:=by
 unfold atI at h;cases e:ixN xs.length i with
 |none=>rw[e]at h;cases h
 |some j=>
  rw[e]at h;obtain⟨h1,h2,h3,h4⟩:=ixN_seq e;exact⟨j,h1,h,h2,h3,h4⟩
theorem f9{α:Type}{xs:List α}{j:Nat}{v:α}(h:xs[j]? =some v):atI xs (j:Int)=some v:=by
 have hj:j<xs.length:=(aU.mp h).1;have e:ixN xs.length (j:Int)=some j:=by
  unfold ixN;rw[if_pos (by omega),if_pos (by omega)];simp
 unfold atI;rw[e];exact h
noncomputable def yv(b:Expr):Prop:=∀o i,subscripted b false o i=operate [o,i] (tf o i)
noncomputable def IxR(X:Cx)(r:R2):Prop:=
 ∀(value slice:Expr)(pins:List (Addr×Obj))(s:Shared)(σ:St)(H:Hp)(x y:V)(v u:Value)(Q:VK),Inv X pins σ H s->RelV x v->RelV y u->r x y H Q->
  subscripted slice false v u=operate [v,u] (tf v u)->wpAny (model X.prog X.w) X.A (subscriptTail value slice v u) (EP X pins σ Q) X.xe s
noncomputable def MtR(X:Cx)(id:String)(r:V->List V->Hp->VK->Prop):Prop:=
 ∀(pins:List (Addr×Obj))(s:Shared)(σ:St)(H:Hp)(x:V)(xs:List V)(v:Value)(us:List Value)(Q:VK),Inv X pins σ H s->RelV x v->bU xs us->r x xs H Q->
  wpAny (model X.prog X.w) X.A (call (.builtin id) (v::us)) (EP X pins σ Q) X.xe s
section
variable {X:Cx}{a b:Expr}{ta tb:TE}{pos:Pos}
theorem IxR.or{r r':R2}(h:IxR X r)(h':IxR X r'):IxR X (fun x y H Q=>r x y H Q\/r' x y H Q):=by
 intro value slice pins s σ H x y v u Q I rx ry q hs;rcases q with q|q
 ·exact h value slice pins s σ H x y v u Q I rx ry q hs
 ·exact h' value slice pins s σ H x y v u Q I rx ry q hs
theorem MtR.or{id:String}{r r':V->List V->Hp->VK->Prop}(h:MtR X id r)(h':MtR X id r'):MtR X id (fun x xs H Q=>r x xs H Q\/r' x xs H Q):=by
 intro pins s σ H x xs v us Q I rx rs q;rcases q with q|q
 ·exact h pins s σ H x xs v us Q I rx rs q
 ·exact h' pins s σ H x xs v us Q I rx rs q
theorem pe_ix{r:R2}(hr:IxR X r)(ha:PE X a ta)(hb:PE X b tb)(hs:yv b):PE X (.Subscript a b pos) (tOp r ta tb):=by
 intro pins s σ H Q I h;exact Subscript_ (binT ha hb I h fun v u s2 x y H2 I2 rx ry q=>hr a b pins s2 σ H2 x y v u Q I2 rx ry q (hs _ _))
noncomputable def rIxL(K:aa):R2:=fun x y H Q=>∃p xs i v,x=.ref p/\y=.int i/\SqL K H p xs/\atI xs i=some v/\Q v H
noncomputable def rIxT(K:aa):R2:=fun x y H Q=>∃p xs i v,x=.ref p/\y=.int i/\SqT K H p xs/\atI xs i=some v/\Q v H
noncomputable def rIxS:R2:=fun x y H Q=>∃z i c,x=.str z/\y=.int i/\z.length<=sizeLine/\atI z.cps.toList i=some c/\Q (.str ⟨#[c]⟩) H
theorem ix_list:IxR X (rIxL X.K):=by
 intro value slice pins s σ H x y v u Q I rx ry h hs;obtain⟨p,xs,i,z,rfl,rfl,hq,he,q⟩:=h;cases rx;obtain⟨t,rfl⟩:=ry;obtain⟨its,r,pl,hz⟩:=I.list hq;obtain⟨j,h1,h2,h3,h4,h5⟩:=sW he;obtain⟨w,ew,rw'⟩:=r.get h2;have hl:=r.length;have hn:=mQ;have fin:EP X pins σ Q w s:=⟨z,H,I,rw',q⟩;by_cases h0:0<=i
 ·have hj:i.toNat=j:=by
   rw[seqIndex_of h0 h5]at h1;exact a9 h1
  exact item_listR pl.isList h0 (by omega) (by rw[hj];simpa using ew) fin hs
 ·have hj:(i+(its.toArray.size:Int)).toNat=j:=by
   rw[seqIndex_neg (by omega) h4]at h1;rw[av,<-hl];exact a9 h1
  exact mq (x:=w) pl.isList.typeIs slot_list_getitem.lookup
   (wpAny_getItem_list_neg (Q:=fun r s'=>r=w/\EP X pins σ Q r s') pl.isList (by omega) (by rw[av]<;>omega) (by omega) (by rw[hj];simpa using ew) ⟨rfl,fin⟩) hs
theorem ix_tup:IxR X (rIxT X.K):=by
 intro value slice pins s σ H x y v u Q I rx ry h hs;obtain⟨p,xs,i,z,rfl,rfl,hq,he,q⟩:=h;cases rx;obtain⟨t,rfl⟩:=ry;obtain⟨its,r,pl,hz⟩:=I.tuple hq;obtain⟨j,h1,h2,h3,h4,h5⟩:=sW he;obtain⟨w,ew,rw'⟩:=r.get h2;have hl:=r.length;have hn:=mQ;have fin:EP X pins σ Q w s:=⟨z,H,I,rw',q⟩;exact mq (x:=w) pl.typeIs slot_tuple_getitem.lookup
  (getItem_tuple (j:=j) (Q:=fun r s'=>r=w/\EP X pins σ Q r s') pl (by omega) (by omega) (by rw[av,<-hl];exact h1) (by simpa using ew) ⟨rfl,fin⟩) hs
theorem ix_str:IxR X rIxS:=by
 intro value slice pins s σ H x y v u Q I rx ry h hs;obtain⟨z,i,c,rfl,rfl,hz,he,q⟩:=h;obtain⟨t,rfl⟩:=rx;obtain⟨t',rfl⟩:=ry;obtain⟨j,h1,h2,h3,h4,h5⟩:=sW he;have hl:z.cps.toList.length=z.length:=by simp[Str.length]
 rw[hl]at h1 h4 h5;have hn:=mQ;exact tail_any (typeIs_str s z t) slot_str_getitem.lookup (getItem_str (c:=c) (by
  have e1:decide (i< -(2^63:Int))=false:=decide_eq_false (by omega);have e2:decide (i≥ 2^63)=false:=decide_eq_false (by omega);rw[e1,e2,nj]) (by rw[h1];simpa using h2) ⟨.str ⟨#[c]⟩,H,I.tok _,⟨_,rfl⟩,q⟩) hs
noncomputable def rIx(K:aa):R2:=fun x y H Q=>rIxL K x y H Q\/rIxT K x y H Q\/rIxS x y H Q
theorem ix_seq:IxR X (rIx X.K):=ix_list.or (ix_tup.or ix_str)
theorem rV(lo hi:Option Int)(n:Nat):(iO lo hi none n).1=((HT.sIx n 0 lo:Nat):Int)/\(iO lo hi none n).2.1=((HT.sIx n n hi:Nat):Int)/\(iO lo hi none n).2.2=1:=by
 refine⟨?_,?_,rfl⟩
 ·cases lo with
  |none=>simp[iO,HT.sIx]
  |some i=>
   simp only[iO,HT.sIx,ou,show(1:Int)>0 by decide,if_true];by_cases h:i<0
   ·simp only[h,if_true]<;>omega
   ·simp only[h,if_false]<;>omega
 ·cases hi with
  |none=>simp[iO,HT.sIx]
  |some i=>
   simp only[iO,HT.sIx,ou,show(1:Int)>0 by decide,if_true];by_cases h:i<0
   ·simp only[h,if_true]<;>omega
   ·simp only[h,if_false]<;>omega
theorem pX(its:List Value)(lo hi:Option Int):slicePick its.toArray lo hi none=((its.drop (HT.sIx its.length 0 lo)).take (HT.sIx its.length its.length hi-HT.sIx its.length 0 lo)).toArray:=by
 obtain⟨h1,h2,h3⟩:=rV lo hi its.toArray.size;unfold slicePick;rw[h1,h2,h3];simp only[sliceRange_one,pick_run,av]<;>rfl
noncomputable def rSlL(K:aa):V->Option Int->Option Int->Hp->VK->Prop:=fun x lo hi H Q=>∃a xs,x=.ref a/\SqL K H a xs/\∀p,H p=none->Q (.ref p) (upd H p (.lst (mY xs lo hi)))
theorem sl_list:SlR X (rSlL X.K):=by
 intro pins s σ H x v vl vu lo hi sl Q I rx hs pl pu h;obtain⟨a,xs,rfl,hx,q⟩:=h;cases rx;obtain⟨its,r,ht,hz⟩:=I.list hx;have hlen:=r.length;refine⟨"list",_,slot_list_getitem.lookup,ht.isList.typeIs,?_⟩;refine wpAny_getItem_list_slice ht.isList hs pl pu .none (by simp) ?_ (by rw[av]<;>omega);rw[pX,<-hlen];refine⟨.ref s.heap.objs.size,_,I.laid (t':=s.toks) (o:=.lst (mY xs lo hi)) (fun b ob q=>ag _ q) (aq _) ?_,rfl,q _ (I.hok.fresh (aq _))⟩;exact⟨aI (nE xs lo hi) hz,_,0,(r.drop (HT.sIx xs.length 0 lo)).take (HT.sIx xs.length xs.length hi-HT.sIx xs.length 0 lo),aK _ rfl⟩
noncomputable def nC:V->Bool
 |.non=>true
 |.bl _=>true
 |.int _=>true
 |.str _=>true
 |_=>false
noncomputable def eqV:V->V->Bool
 |.non,.non=>true
 |.bl a,.bl b=>a==b
 |.bl a,.int b=>(if a then 1 else 0)==b
 |.int a,.bl b=>a==(if b then 1 else 0)
 |.int a,.int b=>a==b
 |.str a,.str b=>a==b
 |_,_=>false
theorem eI{A:Around}{s:Shared}{y x:V}{u v:Value}(ry:RelV y u)(rx:RelV x v)(fy:nC y=true)(fx:nC x=true):SeqAt.EqAt A s u v (eqV y x):=by
 cases y with
 |non=>
  cases ry;cases x with
  |non=>cases rx;exact SeqAt.EqAt.same _
  |bl b=>cases rx;exact SeqAt.EqAt.none_bool b
  |int b=>obtain⟨t,rfl⟩:=rx;exact SeqAt.EqAt.none_int b t
  |str b=>obtain⟨t,rfl⟩:=rx;exact SeqAt.EqAt.none_str b t
  |_=>exact absurd (show false=true from fx) au
 |bl a=>
  cases ry;cases x with
  |non=>cases rx;exact SeqAt.EqAt.bool_none a
  |bl b=>cases rx;exact SeqAt.EqAt.bool_bool a b
  |int b=>obtain⟨t,rfl⟩:=rx;exact SeqAt.EqAt.bool_int a b t
  |str b=>obtain⟨t,rfl⟩:=rx;exact SeqAt.EqAt.bool_str a b t
  |_=>exact absurd (show false=true from fx) au
 |int a=>
  obtain⟨t',rfl⟩:=ry;cases x with
  |non=>cases rx;exact SeqAt.EqAt.int_none a t'
  |bl b=>cases rx;exact SeqAt.EqAt.int_bool a t' b
  |int b=>obtain⟨t,rfl⟩:=rx;exact SeqAt.EqAt.int_int a t' b t
  |str b=>obtain⟨t,rfl⟩:=rx;exact vD a t' b t
  |_=>exact absurd (show false=true from fx) au
 |str a=>
  obtain⟨t',rfl⟩:=ry;cases x with
  |non=>cases rx;exact SeqAt.EqAt.str_none a t'
  |bl b=>cases rx;exact SeqAt.EqAt.str_bool a t' b
  |int b=>obtain⟨t,rfl⟩:=rx;exact vC a t' b t
  |str b=>obtain⟨t,rfl⟩:=rx;exact SeqAt.EqAt.str_str a t' b t
  |_=>exact absurd (show false=true from fx) au
 |_=>exact absurd (show false=true from fy) au
noncomputable def eqU(x:V)(u:Value):Bool:=match u with
 |.none=>eqV .non x
 |.bool b=>eqV (.bl b) x
 |.int i _=>eqV (.int i) x
 |.str z _=>eqV (.str z) x
 |_=>false
theorem B4{x y:V}{u:Value}(r:RelV y u)(f:nC y=true):eqU x u=eqV y x:=by
 cases y with
 |non=>cases r;rfl
 |bl b=>cases r;rfl
 |int i=>obtain⟨t,rfl⟩:=r;rfl
 |str z=>obtain⟨t,rfl⟩:=r;rfl
 |_=>exact absurd (show false=true from f) au
theorem mn{x:V}:∀{xs:List V}{us:List Value},bU xs us->xs.all nC=true->us.any (eqU x)=xs.any fun y=>eqV y x
 |_,_,.nil,_=>rfl
 |y::xs,u::us,.cons r t,f=>by
  rw[vJ,aw]at f;rw[List.any_cons,List.any_cons,B4 r f.1,mn t f.2]
theorem jL{A:Around}{s:Shared}{x:V}{v:Value}(rx:RelV x v)(fx:nC x=true):∀{xs:List V}{us:List Value},bU xs us->xs.all nC=true->∀u∈us,SeqAt.EqAt A s u v (eqU x u)
 |_,_,.nil,_=>fun u hu=>by cases hu
 |y::xs,u::us,.cons r t,f=>fun u' hu=>by
  rw[vJ,aw]at f;rcases aO.mp hu with rfl|hu
  ·rw[B4 r f.1];exact eI r rx f.1 fx
  ·exact jL rx fx t f.2 u' hu
noncomputable def inV(x:V)(xs:List V):Bool:=xs.any fun y=>eqV y x
noncomputable def rIn(K:aa)(neg:Bool):R2:=fun x y H Q=>∃p xs,y=.ref p/\(SqL K H p xs\/SqT K H p xs)/\nC x=true/\xs.all nC=true/\Q (.bl (if neg then !inV x xs else inV x xs)) H
theorem za:OpR X (cH .In) (rIn X.K false):=by
 intro pins s σ H x y v u Q I rx ry h;obtain⟨p,xs,rfl,hq,fx,fs,q⟩:=h;cases ry;rcases hq with hq|hq
 ·obtain⟨its,r,pl,hz⟩:=I.list hq
  refine SeqAt.in_listAt (eqU x) pl.isList (fun w hw=>jL rx fx r fs w (by simpa using hw)) ⟨.bl _,H,I,rfl,?_⟩;rw[show its.toArray.any (eqU x)=its.any (eqU x) by simp,mn r fs];exact q
 ·obtain⟨its,r,pl,hz⟩:=I.tuple hq
  refine SeqAt.in_tupleAt (eqU x) pl (fun w hw=>jL rx fx r fs w (by simpa using hw)) ⟨.bl _,H,I,rfl,?_⟩;rw[show its.toArray.any (eqU x)=its.any (eqU x) by simp,mn r fs];exact q
theorem sv:OpR X (cH .NotIn) (rIn X.K true):=by
 intro pins s σ H x y v u Q I rx ry h;obtain⟨p,xs,rfl,hq,fx,fs,q⟩:=h;cases ry;rcases hq with hq|hq
 ·obtain⟨its,r,pl,hz⟩:=I.list hq
  refine SeqAt.notIn_listAt (eqU x) pl.isList (fun w hw=>jL rx fx r fs w (by simpa using hw)) ⟨.bl _,H,I,rfl,?_⟩;rw[show its.toArray.any (eqU x)=its.any (eqU x) by simp,mn r fs];exact q
 ·obtain⟨its,r,pl,hz⟩:=I.tuple hq
  refine SeqAt.notIn_tupleAt (eqU x) pl (fun w hw=>jL rx fx r fs w (by simpa using hw)) ⟨.bl _,H,I,rfl,?_⟩;rw[show its.toArray.any (eqU x)=its.any (eqU x) by simp,mn r fs];exact q
theorem sr:OpR X (cH .NotIn) (fun x y H Q=>∃i j,x=.str i/\y=.str j/\Q (.bl (!(!(fw j i 0 j.length 1).isEmpty))) H):=by
 intro pins s σ H x y v u Q I rx ry h;obtain⟨i,j,rfl,rfl,q⟩:=h;obtain⟨t,rfl⟩:=rx;obtain⟨t',rfl⟩:=ry;exact notIn_str ⟨.bl _,H,I,rfl,q⟩
theorem sR:eK X (.builtin "len") (fun xs H Q=>∃p ys,xs=[.ref p]/\(SqL X.K H p ys\/SqT X.K H p ys)/\Q (.int ys.length) H):=by
 intro pins s σ H xs us Q I r h;obtain⟨p,ys,rfl,hq,q⟩:=h;obtain⟨u,rfl,rx⟩:=vals1 r;cases rx;have hn:=mQ;rcases hq with hq|hq
 ·obtain⟨its,r',pl,hz⟩:=I.list hq
  have hlen:=r'.length;exact Calls.call_len_list pl.isList (by simp only[av]<;>omega) ⟨.int ys.length,H,I.tok _,⟨s.toks+1,by rw[av,hlen]⟩,q⟩
 ·obtain⟨its,r',pl,hz⟩:=I.tuple hq
  have hlen:=r'.length;exact len_tuple pl (by simp only[av]<;>omega) ⟨.int ys.length,H,I.tok _,⟨s.toks+1,by rw[av,hlen]⟩,q⟩
theorem sQ:eK X (.builtin "len") (fun xs H Q=>∃z,xs=[.str z]/\z.length<=sizeLine/\Q (.int z.length) H):=by
 intro pins s σ H xs us Q I r h;obtain⟨z,rfl,hz,q⟩:=h;obtain⟨u,rfl,t,rfl⟩:=vals1 r;have hn:=mQ;exact len_str (by omega) ⟨.int z.length,H,I.tok _,⟨_,rfl⟩,q⟩
theorem eK.or{f:Value}{r r':List V->Hp->VK->Prop}(h:eK X f r)(h':eK X f r'):eK X f (fun xs H Q=>r xs H Q\/r' xs H Q):=by
 intro pins s σ H xs us Q I rs q;rcases q with q|q
 ·exact h pins s σ H xs us Q I rs q
 ·exact h' pins s σ H xs us Q I rs q
theorem sO:eK X (.type "list") (fun xs H Q=>∃p ys,xs=[.ref p]/\(SqL X.K H p ys\/SqT X.K H p ys)/\∀l,H l=none->Q (.ref l) (upd H l (.lst ys))):=by
 intro pins s σ H xs us Q I r h;obtain⟨p,ys,rfl,hq,q⟩:=h;obtain⟨u,rfl,rx⟩:=vals1 r;cases rx;have fin:∀(its:List Value),bU ys its->ys.length<=sizeLine->∀(h':Heap)(c':Nat),(∀b o',s.heap.get? b=some o'->h'.get? b=some o')->
   h'.get? s.heap.objs.size=some {cls:=.type "list",dict:=none,data:=.seq its.toArray c',slots:= #[]}->EP X pins σ Q (.ref s.heap.objs.size) {s with heap:=h'}:=fun its r' hz h' c' kp e=>
  ⟨.ref s.heap.objs.size,_,I.laid (t':=s.toks) kp (aq _) (show dN X.prog X.w _ h' _ (.lst ys)from⟨hz,its,c',r',e⟩),rfl,q _ (I.hok.fresh (aq _))⟩
 rcases hq with hq|hq
 ·obtain⟨its,r',pl,hz⟩:=I.list hq
  have hlen:=r'.length;obtain⟨o,ho,hc,n,hd⟩:=pl.isList;exact call_list_seq p (.inl rfl) ho hc hd (fun h' c' kp e=>fin its r' hz h' c' kp e) (by simp only[av]<;>omega)
 ·obtain⟨its,r',pl,hz⟩:=I.tuple hq
  have hlen:=r'.length;obtain⟨o,ho,hc,n,hd⟩:=pl;exact call_list_seq p (.inr rfl) ho hc hd (fun h' c' kp e=>fin its r' hz h' c' kp e) (by simp only[av]<;>omega)
theorem qh:eK X (.type "tuple") (fun xs H Q=>∃p ys,xs=[.ref p]/\((SqL X.K H p ys/\∀l,H l=none->Q (.ref l) (upd H l (.tup ys)))\/(SqT X.K H p ys/\Q (.ref p) H))):=by
 intro pins s σ H xs us Q I r h;obtain⟨p,ys,rfl,h⟩:=h;obtain⟨u,rfl,rx⟩:=vals1 r;cases rx;rcases h with⟨hq,q⟩ |⟨hq,q⟩
 ·obtain⟨its,r',pl,hz⟩:=I.list hq
  have hlen:=r'.length;refine call_tuple_list pl.isList (fun h' kp=>?_) (by simp only[av]<;>omega);have I1:Inv X pins σ H {s with heap:=h'}:=I.kept (t':=s.toks) kp;have I2:Inv X pins σ (upd H h'.objs.size (.tup ys)) {s with heap:=h'.push {cls:=.type "tuple",data:=.seq its.toArray}}:=
   I1.laid (t':=s.toks) (fun b o e=>ag _ e) (aq _) (show dN X.prog X.w _ _ _ (.tup ys)from⟨hz,its,r',IsTup.new _ _⟩)
  exact⟨.ref h'.objs.size,_,I2,rfl,q _ (I1.hok.fresh (aq _))⟩
 ·obtain⟨its,r',pl,hz⟩:=I.tuple hq
  exact call_tuple_same pl ⟨.ref p,H,I,rfl,q⟩
noncomputable def tyV(K:aa)(T:String)(x:V)(H:Hp):Prop:=match x with
 |.str _=>T="str"
 |.int _=>T="int"
 |.ref p=>(T="list"/\∃xs,SqL K H p xs)\/(T="tuple"/\∃o,K.lookup p=some o/\o.cls=.type "tuple"/\o.dict=none)\/
   (T="dict"/\((∃kvs,H p=some (.dK kvs))\/∃kvs,H p=some (.dT kvs)))\/(T="set"/\∃S n,H p=some (.set S n))
 |_=>False
theorem tyV_is{pins:List (Addr×Obj)}{σ:St}{H:Hp}{s:Shared}{T:String}{x:V}{v:Value}(I:Inv X pins σ H s)(r:RelV x v)(ty:tyV X.K T x H):
  s.TypeIs v T/\∀a,v=.ref a->∃ob,s.heap.get? a=some ob/\ob.dict=none:=by
 cases x with
 |str z=>
  obtain⟨t,rfl⟩:=r;cases(show T="str" from ty);exact⟨typeIs_str s z t,fun _ e=>nomatch e⟩
 |int i=>
  obtain⟨t,rfl⟩:=r;cases(show T="int" from ty);exact⟨typeIs_int s i t,fun _ e=>nomatch e⟩
 |ref p=>
  cases r;rcases ty with⟨rfl,xs,hq⟩ |⟨rfl,o,hk,hc,hd⟩ |⟨rfl,hk⟩ |⟨rfl,S,n,hk⟩
  ·obtain⟨its,_,pl,_⟩:=I.list hq
   refine⟨pl.isList.typeIs,fun a e=>?_⟩;cases e;obtain⟨o,n,e,c,hd,_⟩:=pl;exact⟨o,e,hd⟩
  ·refine⟨⟨o,I.kIn p o hk,hc⟩,fun a e=>?_⟩
   cases e;exact⟨o,I.kIn _ o hk,hd⟩
  ·have z:∃o,s.heap.get? p=some o/\o.ExactDict:=by
    rcases hk with⟨kvs,hk⟩ |⟨kvs,hk⟩
    ·obtain⟨_,_,_,_,o,_,_,e,ex,_⟩:=I.hok p _ hk
     exact⟨o,e,ex⟩
    ·obtain⟨_,_,_,_,o,_,_,e,ex,_⟩:=I.hok p _ hk
     exact⟨o,e,ex⟩
   obtain⟨o,e,ex⟩:=z;refine⟨⟨o,e,ex.1⟩,fun a e2=>?_⟩;cases e2;exact⟨o,e,ex.2.1⟩
  ·obtain⟨o,_,_,_,e,ex,_⟩:=I.hok p _ hk
   refine⟨⟨o,e,ex.1⟩,fun a e2=>?_⟩;cases e2;exact⟨o,e,ex.2.1⟩
 |_=>exact iS ty
noncomputable def tBM0(K:aa)(T:String)(r:V->List V->Hp->VK->Prop)(to:TE):TE:=fun σ H Q=>to σ H fun x H1=>tyV K T x H1/\r x [] H1 Q
noncomputable def tBM(K:aa)(T:String)(r:V->List V->Hp->VK->Prop)(to:TE)(t:TA):TE:=fun σ H Q=>to σ H fun x H1=>tyV K T x H1/\t σ H1 fun xs H2=>r x xs H2 Q
variable {o e:Expr}{es:List Expr}{to:TE}{t:TA}{name:Str}{apos cpos:Pos}{T id:String}{r:V->List V->Hp->VK->Prop}
theorem pe_bm(pa:PlainAttrs T)(slot:Slot T name id)(hty:typeOf (.builtin id)=pure (.type "method_descriptor"))(hm:MtR X id r)(ho:PE X o to)(ha:PA X (e::es) t)
  (hbase:attributeBase o name X.env (eval o X.env)=eval o X.env:=by rfl)
  (hfew:((backTo cpos (bB (e::es) X.env)).all (fun x=> !x.1)&&(backToKw cpos (keywordEach [] X.env)).all (fun x=>x.1.isSome)
   &&decide ((e::es).length+([]:List Keyword).length+(if([]:List Keyword).isEmpty then 0 else 1)<30))=true:=by rfl)
  (hline:(apos.endLine==cpos.line)=true:=by rfl) (hs:bB (e::es) X.env=(false,eval e X.env)::bB es X.env:=by rfl) (hplain:(backTo cpos (bB es X.env)).any (·.1)=false:=by rfl):
  PE X (.Call (.Attribute o name apos) (e::es) [] cpos) (tBM X.K T r to t):=by
 intro pins s σ H Q I h;refine wpAny_Call_method_late hbase hfew hline rfl (thn (ho pins s σ H _ I h) fun v s1 ⟨x,H1,I1,r1,ty,q1⟩=>?_);obtain⟨h1,h2⟩:=tyV_is I1 r1 ty;refine⟨T,id,pa,slot,hty,h1,h2,?_⟩;have hA:=ha cpos pins s1 σ H1 _ I1 q1;rw[hs]at hA⊢;refine Calls.callWith_builtin (by show(false||(backTo cpos (bB es X.env)).any (·.1))=false;rw[hplain]<;>rfl) (Calls.evalArgs_plain ?_);exact thn hA fun us s2 ⟨vs,H2,I2,r2,q2⟩=>hm pins s2 σ H2 x vs v us Q I2 r1 r2 q2
end
noncomputable def MtM(X:Cx)(id:String)(r:V->List V->Hp->VK->Prop):Prop:=
 ∀(pins:List (Addr×Obj))(s:Shared)(σ:St)(H:Hp)(x:V)(xs:List V)(v:Value)(us:List Value)(Q:VK),Inv X pins σ H s->RelV x v->bU xs us->r x xs H Q->
  wpAny (model X.prog X.w) X.A (call (.builtin id) (v::us)) (EP X pins σ Q) X.xe s
theorem bU.one{x:V}{us:List Value}(h:bU [x] us):∃u,us=[u]/\RelV x u:=by
 cases h with
 |cons r k=>cases k with
  |nil=>exact⟨_,rfl,r⟩
theorem bU.two{x y:V}{us:List Value}(h:bU [x,y] us):∃u v,us=[u,v]/\RelV x u/\RelV y v:=by
 cases h with
 |cons r k=>
  obtain⟨v,e,q⟩:=bU.one k;exact⟨_,v,by rw[e],r,q⟩
section
variable {X:Cx}{pins:List (Addr×Obj)}{σ:St}{H:Hp}{s:Shared}{l b:Addr}{xs ys zs:List V}
theorem Inv.lset{its its':List Value}{n:Nat}{f:Array Value->Array Value}{t':Nat}(I:Inv X pins σ H s)(hH:H l=some (.lst xs))
  (e:s.heap.get? l=some {cls:=.type "list",data:=.seq its.toArray n}) (hf:f its.toArray=its'.toArray) (hv:bU ys its') (hz:ys.length<=sizeLine):
  Inv X pins σ (upd H l (.lst ys)) {s with heap:=s.heap.update l (bf f),toks:=t'}:=by
 have q:=zO e f;rw[hf]at q;refine I.write (x:=l) (e:=l) (by rw[hH];exact trivial) (.inl rfl) (fun b' u hb hu=>(bb s.heap (bf f) (dD hb)).trans hu) ⟨_,q⟩ ?_;exact⟨hz,its',_,hv,q⟩
theorem Inv.lnew{its:List Value}{t':Nat}(I:Inv X pins σ H s)(hv:bU ys its)(hz:ys.length<=sizeLine):
  Inv X pins σ (upd H s.heap.objs.size (.lst ys)) {s with heap:=s.heap.push {cls:=.type "list",data:=.seq its.toArray},toks:=t'}:=
 I.laid (fun _ _ q=>ag _ q) (aq _) ⟨hz,its,0,hv,aK _ rfl⟩
theorem Inv.fresh(I:Inv X pins σ H s):H s.heap.objs.size=none:=I.hok.fresh (aq _)
theorem Inv.BF(I:Inv X pins σ H s)(hH:H l=some (.lst xs)):xs.length<=sizeLine/\∃(its:List Value)(n:Nat),bU xs its/\xs.length=its.length/\s.heap.get? l=some {cls:=.type "list",data:=.seq its.toArray n}:=by
 obtain⟨z,its,n,r,e⟩:=I.hok l _ hH;exact⟨z,its,n,r,r.length,e⟩
theorem Bw{n:Nat}(h:n<=sizeLine):hZ n=false:=by
 unfold hZ;exact decide_eq_false (by omega)
end
section
variable {X:Cx}
noncomputable def xP:V->List V->Hp->VK->Prop:=fun x vs H Q=>∃l xs y,x=.ref l/\vs=[y]/\H l=some (.lst xs)/\xs.length<sizeLine/\Q .non (upd H l (.lst (xs++[y])))
theorem ze:MtM X "list.append" xP:=by
 intro pins s σ H x vs v us Q I rx rv h;obtain⟨l,xs,y,rfl,rfl,hH,hz,q⟩:=h;cases rx;obtain⟨u,rfl,ru⟩:=rv.one;obtain⟨z,its,n,r,hl,e⟩:=I.BF hH;refine call_meets F.slot_list_append ⟨_,e,rfl⟩ F.entry_list_append (F.args_list_append_2 _ _) (PySem.list_append l its.toArray n u (by rw[av];omega)) ⟨e,?_⟩;refine⟨.non,_,I.lset (its':=its++[u]) hH e (by simp) (r.append (.cons ru .nil)) ?_,rfl,q⟩;rw[ai,eL];omega
noncomputable def xK:V->List V->Hp->VK->Prop:=fun x vs H Q=>∃l b xs zs,x=.ref l/\vs=[.ref b]/\H l=some (.lst xs)/\H b=some (.lst zs)/\xs.length+zs.length<=sizeLine/\Q .non (upd H l (.lst (xs++zs)))
theorem zd:MtM X "list.extend" xK:=by
 intro pins s σ H x vs v us Q I rx rv h;obtain⟨l,b,xs,zs,rfl,rfl,hH,hB,hz,q⟩:=h;cases rx;obtain⟨u,rfl,ru⟩:=rv.one;cases ru;obtain⟨z,its,n,r,hl,e⟩:=I.BF hH;obtain⟨z2,its2,n2,r2,hl2,e2⟩:=I.BF hB;have hsz:its.toArray.size+its2.toArray.size<=sizeLine:=by rw[av,av];omega
 have hlong:¬(!its.toArray.isEmpty&&hZ (its.toArray.size+its2.toArray.size))=true:=by
  rw[Bw hsz,fg];exact au
 refine call_meets F.slot_list_extend ⟨_,e,rfl⟩ F.entry_list_extend (F.args_list_extend_2 _ _)
  (AutoSeq1.list_extend_list_list_0 l its.toArray n b its2.toArray n2 hlong (by rw[av];omega) (by omega)) ⟨e,e2,?_⟩
 refine⟨.non,_,I.lset (its':=its++its2) hH e (by simp) (r.append r2) ?_,rfl,q⟩;rw[ai];omega
noncomputable def rPop:V->List V->Hp->VK->Prop:=fun x vs H Q=>∃l xs y,x=.ref l/\vs=[]/\H l=some (.lst xs)/\xs[xs.length-1]? =some y/\Q y (upd H l (.lst xs.dropLast))
noncomputable def rPopAt:V->List V->Hp->VK->Prop:=fun x vs H Q=>∃l xs i k y,x=.ref l/\vs=[.int i]/\H l=some (.lst xs)∧-(2^63)<=i/\i<2^63/\seqIndex? i xs.length=some k/\xs[k]? =some y/\Q y (upd H l (.lst (xs.eraseIdx k)))
noncomputable def rReverse:V->List V->Hp->VK->Prop:=fun x vs H Q=>∃l xs,x=.ref l/\vs=[]/\H l=some (.lst xs)/\Q .non (upd H l (.lst xs.reverse))
noncomputable def rClear:V->List V->Hp->VK->Prop:=fun x vs H Q=>∃l xs,x=.ref l/\vs=[]/\H l=some (.lst xs)/\Q .non (upd H l (.lst []))
noncomputable def rCat:R2:=fun x y H Q=>∃l b xs zs,x=.ref l/\y=.ref b/\H l=some (.lst xs)/\H b=some (.lst zs)/\xs.length+zs.length<=sizeLine/\∀p,H p=none->Q (.ref p) (upd H p (.lst (xs++zs)))
theorem op_cat:OpR X (dw .Add) rCat:=by
 intro pins s σ H x y v u Q I rx ry h;obtain⟨l,b,xs,zs,rfl,rfl,hH,hB,hz,q⟩:=h;cases rx;cases ry;obtain⟨z,its,n,r,hl,e⟩:=I.BF hH;obtain⟨z2,its2,n2,r2,hl2,e2⟩:=I.BF hB;refine PySem.P.add_list e e2 ?_ (by rw[av,av];omega);have ea:its.toArray++its2.toArray=(its++its2).toArray:=by simp
 rw[ea];exact⟨.ref _,_,I.lnew (t':=s.toks) (r.append r2) (by rw[ai];omega),rfl,q _ I.fresh⟩
noncomputable def rRep:R2:=fun x y H Q=>∃l k xs,x=.ref l/\y=.int k/\H l=some (.lst xs)∧-(2^63)<=k/\k<2^63/\xs.length*k.toNat<=sizeLine/\
 ∀p,H p=none->Q (.ref p) (upd H p (.lst (gc k.toNat xs).flatten))
end
section
variable {κ:Type}[DecidableEq κ]
noncomputable def yG(kvs:List (κ×V))(k:κ):Option V:=(kvs.find? fun kv=>decide (kv.1=k)).map (·.2)
noncomputable def putK(kvs:List (κ×V))(k:κ)(v:V):List (κ×V):=
 if(kvs.any fun kv=>decide (kv.1=k))=true then kvs.map (fun kv=>if kv.1=k then(kv.1,v)else kv)else kvs++[(k,v)]
end
theorem kV_is{P:Program}{w:World}{k:Key}{u:Value}(r:RelV (kV k) u):(d4 P w).is k u=true:=by
 cases k with
 |inl i=>obtain⟨t,e⟩:=(show ∃t,u=jx i t from r);subst e;exact uD P w i t
 |inr x=>obtain⟨t,e⟩:=(show ∃t,u=dF x t from r);subst e;exact uC P w x t
noncomputable def tDNewK:TE:=fun _ H Q=>∀p,H p=none->Q (.ref p) (upd H p (.dK []))
noncomputable def tDNewT:TE:=fun _ H Q=>∀p,H p=none->Q (.ref p) (upd H p (.dT []))
noncomputable def vW:List (TE×TE)->St->Hp->(List (V×V)->Hp->Prop)->Prop
 | [],_,H,Q=>Q [] H
 | (tk,tv)::r,σ,H,Q=>tk σ H fun x H1=>tv σ H1 fun y H2=>vW r σ H2 fun ps H3=>Q ((x,y)::ps) H3
noncomputable abbrev VV:List (V×V)->List (Value×Value)->Prop:=Paired fun p q=>RelV p.1 q.1/\RelV p.2 q.2
noncomputable def PPs(X:Cx)(pos:Pos)(keys:List (Option Expr))(values:List Expr)(trs:List (TE×TE)):Prop:=
 ∀(pins:List (Addr×Obj))(s:Shared)(σ:St)(H:Hp)(Q:List (V×V)->Hp->Prop),Inv X pins σ H s->vW trs σ H Q->
  wpAny (model X.prog X.w) X.A (evalPairs (pairTrees keys values X.env pos)) (fun vs s'=>∃ps H',Inv X pins σ H' s'/\VV ps vs/\Q ps H') X.xe s
theorem pps_nil{X:Cx}{pos:Pos}:PPs X pos [] [] []:=fun pins s σ H Q I h=>pairTrees_nil_walk ⟨[],H,I,.nil,h⟩
theorem A8{X:Cx}{pos:Pos}{k v:Expr}{ks:List (Option Expr)}{vs:List Expr}{tk tv:TE}{trs:List (TE×TE)}(hk:PE X k tk)(hv:PE X v tv)(hr:PPs X pos ks vs trs):
  PPs X pos (some k::ks) (v::vs) ((tk,tv)::trs):=fun pins s σ H Q I h=>
 pairTrees_cons_walk (thn (hk pins s σ H _ I h) fun u s1 ⟨x,H1,I1,rx,q1⟩=>thn (hv pins s1 σ H1 _ I1 q1) fun w2 s2 ⟨y,H2,I2,ry,q2⟩=>
  thn (hr pins s2 σ H2 _ I2 q2) fun ws s3 ⟨ps,H3,I3,rel,q3⟩=>⟨(x,y)::ps,H3,I3,.cons ⟨rx,ry⟩ rel,q3⟩)
noncomputable def mergeK(kvs more:List (Key×V)):List (Key×V):=more.foldl (fun acc kv=>putK acc kv.1 kv.2) kvs
noncomputable def tDisp(trs:List (TE×TE)):TE:=fun σ H Q=>∀p,H p=none->vW trs σ (upd H p (.dK [])) fun ps H2=>H2 p=some (.dK [])/\∃kvs:List (Key×V),ps=kvs.map (fun kv=>(kV kv.1,kv.2))/\kvs.length<=15/\Q (.ref p) (upd H2 p (.dK (mergeK [] kvs)))
end L2
namespace Att
open PySem PySem.W PySem.Calls PyProof.Rows
theorem nW{P:Params}{h:Heap}:∀(ns:List Int)(vs:List Value),WellAll P h vs (ns.map WData.int)->IntsAre vs ns:=by
 intro ns
 induction ns with
 |nil=>
  intro vs w;rw[yC]at w;cases w;exact .nil
 |cons n ns ih=>
  intro vs w;rw[cT]at w;cases w with
  |cons a b=>
   cases a;exact .cons _ _ (ih _ b)
theorem yP{l:OpenLaw}{n:Nat}(hn:l.most=some n){P:Params}{h:Heap}{args:List WData}{vals:List Value}
  (hpre:l.row.toRowW.claim.pre args=true)(hwl:WellAll P h vals args):
  ∃a vs ns,vals=[cu a]/\args=[WData.list (ns.map WData.int)]/\h.get? a=some {cls:=.type "list",data:=.seq vs.toArray}/\IntsAre vs ns/\ns.length<=n:=by
 have hsh:WShape.hasAll [] args [.list .int]=true:=(pre_splitW hpre).1;have hc:l.pre.holds [] {args:=args}=true:=(pre_splitW hpre).2;obtain⟨d,r,rfl,h1,h2⟩:=hasAllW_cons hsh;obtain rfl:=hasAllW_nil h2;obtain⟨xs,rfl,h3⟩:=hasW_list h1;obtain⟨ns,rfl⟩:=items_int h3;have hlen:ns.length<=n:=by
  unfold OpenLaw.pre at hc;have h4:(WTm.not (.lt (.lit (.int (n:Int))) (.len (.arg 0)))).holds [] {args:=[.list (ns.map .int)]}=true:=by
   have h4:=(holds_andW hc).1;rw[hn]at h4;exact h4
  have h5:=condW_of h4 (w_not (w_lt w_lit (w_len_list (w_arg rfl))));rw[aC]at h5;refine qt fun q=>?_;have q':(n:Int)<((ns.length:Nat):Int):=by omega
  first
   | (rw[decide_eq_true q']at h5;exact absurd h5 (by decide))
   | (simp at h5;omega)
 cases hwl with
 |cons w1 w2=>
  cases w2;cases w1 with
  |list ho hall=>exact⟨_,_,ns,rfl,rfl,ho,nW ns _ hall,hlen⟩
theorem yT(l:OpenLaw)(args:List WData):l.row.toRowW.claim.post args (.bool true) args=true:=
 postW_of (r:=l.row.toRowW) (X:=(true==true))
  (show WShape.has [] (.bool true) .bool=true by first |rfl|decide|simp[WShape.has,WShape.arms,WShape.armsAll])
  (show(WTm.eq .res (.lit (.bool true))).value [] {args:=args,res:=some (.bool true),after:=args}=some (.bool (true==true))from w_eq_bool (w_res rfl) w_lit) rfl
theorem vi{l:OpenLaw}{n:Nat}{q:Program}{loose:List Str}{XP:(Str->Option Value)->Heap->Prop}{YP:World->Heap->Prop}{d:DefRec}
  (hn:l.most=some n)(hdf:d.params.defaults=[])
  (call:∀(w:World)(s₀ s₁:Shared)(mg mb:Str->Option Value)(fa:Addr)(o:Obj)(pm cd doc:Value)(a:Addr)(vs:List Value)(ns:List Int),
   Ground q loose [] XP w s₀ mg mb s₁.heap->YP w s₁.heap->
   s₁.heap.get? fa=some o->o.data=.func (docDef d.name d.params d.body d.scope pm cd doc)->s₁.heap.CodeRec cd d.name->mg d.name=some (.ref fa)->
   s₁.heap.get? a=some {cls:=.type "list",data:=.seq vs.toArray}->IntsAre vs ns->ns.length<=n->s₁.gens= #[]->
   mw (model l.prog w) yx (.call (.ref fa) ⟨[.ref a],[]⟩) (fun r s'=>r=.ok (.ret (.bool true))/\OldK s₁.heap s'.heap/\s'.os=s₁.os/\kB s'.gens) s₁):
  WalkO q loose XP YP l.row.toRowW d [] (fun f vs=>PySem.call f vs):=by
 intro w s₀ s₁ mg mb G Y fa o pm cd doc dV kV ho hd hcd hD hmg hg args vals as hpre hlay hrd hwl hlo;obtain rfl:dV=.none:=Dflts.none hD hdf;obtain rfl:kV=.none:=Dflts.noKw hD;obtain⟨a,vs,ns,rfl,rfl,hobj,hints,hlen⟩:=yP hn hpre hwl;refine enter_call (jg (call w s₀ s₁ mg mb fa o pm cd doc a vs ns G Y ho (fd_plain hd) hcd hmg hobj hints hlen hg) fun r s' hq=>?_);obtain⟨rfl,h2,h3,h4⟩:=hq;exact⟨.inl ⟨.bool true,.bool true,[],rfl,fun _=>rfl,.bool true,yT l _,fun _=>⟨kF,fun _ hm=>(nomatch hm)⟩⟩,h2,h3,h4⟩
end Att
namespace L2
open PySem PySem.Spec PyProof.Rows
theorem qu:∀{vs:List Value}{ns:List Int},IntsAre vs ns->bU (ns.map V.int) vs
 |_,_,.nil=>.nil
 |_,_,.cons n t h=>.cons ⟨t,rfl⟩ (qu h)
noncomputable abbrev KOf{K:aa}{h:Heap}(_:K.In h):aa:=K
noncomputable def bK(s:Stmt):Arguments:=match s with
 |.FunctionDef _ a _ _ _ _ _ _ _ _=>a
 |_=>{posonlyargs:=[],args:=[],vararg:=none,kwonlyargs:=[],kw_defaults:=[],kwarg:=none,defaults:=[]}
noncomputable def bj(s:Stmt):List Stmt:=match s with
 |.FunctionDef _ _ b _ _ _ _ _ _ _=>b
 |_=>[]
noncomputable def aQ(s:Stmt):Scope:=match s with
 |.FunctionDef _ _ _ _ _ _ sc _ _ _=>sc
 |_=>{kind:=.function,names:=[],isGenerator:=false,isCoroutine:=false}
noncomputable abbrev CX0:CXT:=fun _ _ _ _ _ _=>False
noncomputable abbrev E0:XK:=fun _ _ _=>False
structure Fun(K:aa)(x qual:Str)(st:Stmt)(f:Addr)(fd:eZ):Prop where
 ex:∃(oc:Value)(od:Option Addr)(kV doc pm:Value)(an:Option Addr)(cdv ct:Value)(osl:Array (Option Value)),
  fd=aL x qual (bK st) (bj st) (aQ st) .none kV doc pm an cdv ct/\K.lookup f=some ⟨oc,od,.func fd,osl⟩/\dW K cdv qual=true
 kp:bJ K (.ref f)=true
section
variable {P:Program}{w:World}{K:aa}{mg:Str->Option Value}{base:Heap}
theorem Fun.binds{x qual:Str}{st:Stmt}{f:Addr}{fd:eZ}{ps:List Str}(F:Fun K x qual st f fd)
  (h:∀(kV doc pm:Value)(an:Option Addr)(cdv ct:Value)(us:List Value),us.length=ps.length->lE (aL x qual (bK st) (bj st) (aQ st) .none kV doc pm an cdv ct) ⟨us,[]⟩=pure (ps.zip us)):Binds K fd ps []:=by
 obtain⟨oc,od,kV,doc,pm,an,cdv,ct,osl,rfl,lk,hcd⟩:=F.ex;exact .all (h kV doc pm an cdv ct)
theorem wO{x qual:Str}{st:Stmt}{f:Addr}{oc:Value}{od an:Option Addr}{osl:Array (Option Value)}{kV doc pm cdv ct:Value}(l:K.lookup f=some ⟨oc,od,.func (aL x qual (bK st) (bj st) (aQ st) .none kV doc pm an cdv ct),osl⟩)
  (c:dW K cdv qual=true)(k:bJ K (.ref f)=true):Fun K x qual st f (aL x qual (bK st) (bj st) (aQ st) .none kV doc pm an cdv ct):=⟨⟨oc,od,kV,doc,pm,an,cdv,ct,osl,rfl,l,c⟩,k⟩
end
noncomputable def aN(H H':Hp):Prop:=∀b o,H b=some o->H' b=some o
theorem aN.refl(H:Hp):aN H H:=fun _ _ h=>h
theorem aN.trans{H H1 H2:Hp}(a:aN H H1)(b:aN H1 H2):aN H H2:=fun c o h=>b c o (a c o h)
theorem aN.free{H H':Hp}(e:aN H H'){l:Addr}(h:H' l=Option.none):H l=Option.none:=by
 cases q:H l with
 |none=>rfl
 |some o=>
  rw[e l o q]at h;cases h
theorem aN.seq{K:aa}{H H':Hp}{a:Addr}{xs:List V}(e:aN H H')(h:SqL K H a xs):SqL K H' a xs:=by
 rcases h with(h|⟨o,h⟩) |h
 ·exact .inl (.inl (e _ _ h))
 ·exact .inl (.inr ⟨o,e _ _ h⟩)
 ·exact .inr h
noncomputable def d7(cells:List (Str×Addr)):List (Str×cU)->List (Str×Addr)->List (Str×Addr)
 | [],acc=>acc
 | (n,k)::r,acc=>d7 cells r (if k=.free then(n,(cells.lookup n).getD 0)::acc else acc)
theorem ly{env:Env}{f:Str×cU->List (Str×Addr)->Sem (ForInStep (List (Str×Addr)))}
  (hf:∀n k a c,k=.free->env.cells.lookup n=some c->f (n,k) a=pure (.yield ((n,c)::a)))(hg:∀n k a,k≠.free->f (n,k) a=pure (.yield a)):
  ∀(names:List (Str×cU))(acc:List (Str×Addr)),(∀y∈names,y.2=.free->∃c,env.cells.lookup y.1=some c)->forIn names acc f=(pure (d7 env.cells names acc):Sem _)
 | [],acc,_=>rfl
 | (n,k)::r,acc,h=>by
  rw[List.forIn_cons];by_cases e:k=.free
  ·obtain⟨c,hc⟩:=h (n,k) aH e
   rw[hf n k acc c e hc];show forIn r ((n,c)::acc) f=_;rw[ly hf hg r _ fun y hy=>h y (aJ _ hy)];simp[d7,e,hc]
  ·rw[hg n k acc e]
   show forIn r acc f=_;rw[ly hf hg r _ fun y hy=>h y (aJ _ hy)];simp[d7,e]
theorem qf{scope:Scope}{env:Env}(h:∀y∈scope.names,y.2=.free->∃c,env.cells.lookup y.1=some c):zM scope env=pure (d7 env.cells scope.names []):=by
 have q:=ly (env:=env) (f:=fun x cs=>match x with | (name,kind)=>if(kind==bx)=true then(do let a<-cellOf env name;pure (fv ((name,a)::cs)))else pure (fv cs))
  (fun n k a c e hc=>by
   subst e;simp only[cellOf,hc];rfl) (fun n k a e=>by
   have e':(k==bx)=false:=by simpa using e
   simp only[e',bt,if_false]) scope.names [] h
 unfold zM;show(forIn scope.names [] _>>=fun r=>pure r)=_;exact(congrArg (·>>=fun r=>pure r) q).trans rfl
theorem iG{cells:List (Str×Addr)}:∀(names:List (Str×cU))(acc:List (Str×Addr))(x:Str)(c:Addr),(d7 cells names acc).lookup x=some c->
  ((x,bx)∈names/\c=(cells.lookup x).getD 0)\/acc.lookup x=some c
 | [],acc,x,c,h=>.inr h
 | (n,k)::r,acc,x,c,h=>by
  rcases iG r _ x c h with⟨q,e⟩ |q
  ·exact .inl ⟨aJ _ q,e⟩
  ·by_cases e:k=.free
   ·rw[if_pos e,a6]at q
    cases hx:x==n with
    |true=>
     rw[hx]at q;have en:x=n:=by simpa using hx
     subst en;subst e;exact .inl ⟨aH,(a9 q).symm⟩
    |false=>
     rw[hx]at q;exact .inr q
   ·rw[if_neg e]at q
    exact .inr q
theorem pq{cells:List (Str×Addr)}:∀(names:List (Str×cU))(acc:List (Str×Addr))(x:Str),(acc.lookup x).isSome=true->((d7 cells names acc).lookup x).isSome=true
 | [],acc,x,h=>h
 | (n,k)::r,acc,x,h=>by
  refine pq r _ x ?_;split
  ·rw[a6]
   cases x==n<;>simp_all
  ·exact h
theorem lz{cells:List (Str×Addr)}:∀(names:List (Str×cU))(acc:List (Str×Addr))(x:Str),(x,bx)∈names->((d7 cells names acc).lookup x).isSome=true
 | [],acc,x,h=>by simp at h
 | (n,k)::r,acc,x,h=>by
  rcases aO.mp h with q|q
  ·cases q
   refine pq r _ n ?_;simp[a6]
  ·exact lz r _ x q
theorem ei:∀(names:List (Str×cU))(n:Nat)(acc:List (Str×Addr)),bQ n names acc=bQ n names []++acc
 | [],_,_=>rfl
 | (x,k)::r,n,acc=>by
  unfold bQ;split
  ·rw[ei r (n+1) ((x,n)::acc),ei r (n+1) [(x,n)],ba]
   rfl
  ·exact ei r n acc
theorem iI:∀(names:List (Str×cU))(n:Nat)(acc:List (Str×Addr))(x:Str),(acc.lookup x).isSome=true->((bQ n names acc).lookup x).isSome=true
 | [],_,_,_,h=>h
 | (y,k)::r,n,acc,x,h=>by
  unfold bQ;split
  ·refine iI r _ _ x ?_
   rw[a6];cases x==y<;>simp_all
  ·exact iI r _ _ x h
theorem fZ:∀(names:List (Str×cU))(n:Nat)(acc:List (Str×Addr))(x:Str),(x,cb)∈names->((bQ n names acc).lookup x).isSome=true
 | [],_,_,_,h=>nomatch h
 | (y,k)::r,n,acc,x,h=>by
  unfold bQ;rcases aO.mp h with q|q
  ·cases q
   rw[if_pos (by rfl)];refine iI r _ _ _ ?_;simp[a6]
  ·split
   ·exact fZ r _ _ x q
   ·exact fZ r _ _ x q
theorem iH:∀(names:List (Str×cU))(n:Nat)(acc:List (Str×Addr))(x:Str)(c:Addr),(x,c)∈bQ n names acc->(x,cb)∈names\/(x,c)∈acc
 | [],_,_,_,_,h=>.inr h
 | (y,k)::r,n,acc,x,c,h=>by
  unfold bQ at h;split at h
  ·rename_i hk
   rcases iH r _ _ x c h with q|q
   ·exact .inl (aJ _ q)
   ·rcases aO.mp q with e|e
    ·cases e
     have :k=.cell:=by simpa using hk
     subst this;exact .inl aH
    ·exact .inr e
  ·rcases iH r _ _ x c h with q|q
   ·exact .inl (aJ _ q)
   ·exact .inr q
theorem wR{M:Model}{A:Around}{E:Value->Shared->Prop}{s:Shared}{scope:Scope}{globals:Addr}{cl:List (Str×Addr)}{qual:Str}{func:Option Addr}{code:Value}{outer:Env}{builtins:Addr}{Q:Env->Shared->Prop}
  (h:Q (newEnv scope s.heap.objs.size globals (bQ (s.heap.objs.size+1) scope.names cl) qual func code (some outer) builtins) {s with heap:=pushCells (s.heap.push {cls:=.type "dict",data:=.dict #[]}) scope.names}):
  wpAny M A (newFunctionEnv scope globals cl [] qual func code (some outer) builtins) Q E s:=by
 simp only[newFunctionEnv,fG,if_true];refine af (wpAny_alloc ?_);refine af (wpAny_layCells _ (fun name kind cells=>by cases hkc:kind==cb<;>simp[hkc]) _ _ _ _ ?_);rw[show({s with heap:=s.heap.push {cls:=.type "dict",data:=.dict #[]}}:Shared).heap.objs.size=s.heap.objs.size+1 from gj ..];rw[tK];exact af (ak (ak h))
structure kl(X:Cx)(N':List Str)(sc:Scope):Prop where
 kind:sc.kind=.function
 cellk:∀y∈sc.names,y.2=.cell->sc.names.lookup y.1=some .cell
 own:∀y∈sc.names,y.2=.local->sc.names.lookup y.1=some .local
 free:∀y∈sc.names,y.2=.free->X.env.kindOf y.1=some .cell\/X.env.kindOf y.1=some .free
noncomputable def cP(X:Cx)(N':List Str)(sc:Scope)(C:Addr)(s₀:Shared)(H₀:Hp)(fp:List Addr):Cx:=
 {X with N:=N',s₀:=s₀,H₀:=H₀,env:=compEnvC sc (bQ (C+1) sc.names (d7 X.env.cells sc.names [])) C X.env,outer:=X.stack,stack:=X.stack,ex:=fp,fn:=fun x=>sc.names.any fun y=>decide (y.1=x)&&decide (y.2=.cell),pn:=[],xe:=fun _ _=>False}
theorem jH{env:Env}:∀{names:List (Str×cU)}{x:Str}{k:cU},
  (names.map fun(n,k)=>if(k==bx&&env.scope.kind== .function&&env.kindOf n==some .cell)then(n,cb)else(n,k)).lookup x=some k->
  names.lookup x=some k\/(names.lookup x=some .free/\k=.cell)
 | [],_,_,h=>by simp at h
 | (n,k)::r,x,k',h=>by
  have ih:= @jH env r x k';rw[cT]at h;change gY x ((if(k==bx&&env.scope.kind== .function&&env.kindOf n==some .cell)=true then(n,cb)else(n,k))::_)=_ at h;cases hx:x==n with
  |true=>
   by_cases hc:(k==bx&&env.scope.kind== .function&&env.kindOf n==some .cell)=true
   ·rw[if_pos hc]at h
    simp only[a6,hx]at h⊢;have :k=.free:=by
     have :=hc
     simp only[aw]at this;simpa using this.1.1
    subst this;exact .inr ⟨rfl,(a9 h).symm⟩
   ·rw[if_neg hc]at h
    simp only[a6,hx]at h⊢;exact .inl h
  |false=>
   have e:gY x (r.map fun(n,k)=>if(k==bx&&env.scope.kind== .function&&env.kindOf n==some .cell)then(n,cb)else(n,k))=some k':=by
    split at h<;>simpa only[a6,hx]using h
   simp only[a6,hx];exact ih e
theorem eX{env:Env}:∀{names:List (Str×cU)}{x:Str},names.lookup x=some .free->
  (names.map fun(n,k)=>if(k==bx&&env.scope.kind== .function&&env.kindOf n==some .cell)then(n,cb)else(n,k)).lookup x=some .free\/
  (names.map fun(n,k)=>if(k==bx&&env.scope.kind== .function&&env.kindOf n==some .cell)then(n,cb)else(n,k)).lookup x=some .cell
 | [],_,h=>by simp at h
 | (n,k)::r,x,h=>by
  have ih:= @eX env r x;rw[cT];change gY x ((if(k==bx&&env.scope.kind== .function&&env.kindOf n==some .cell)=true then(n,cb)else(n,k))::_)=_\/gY x ((if(k==bx&&env.scope.kind== .function&&env.kindOf n==some .cell)=true then(n,cb)else(n,k))::_)=_;cases hx:x==n with
  |true=>
   simp only[a6,hx]at h;cases h;by_cases hc:(bx==bx&&env.scope.kind== .function&&env.kindOf n==some .cell)=true
   ·rw[if_pos hc];right;simp only[a6,hx]
   ·rw[if_neg hc];left;simp only[a6,hx]
  |false=>
   simp only[a6,hx]at h;split <;>simpa only[a6,hx]using ih h
theorem eH{env:Env}:∀{names:List (Str×cU)}{x:Str}{k:Option cU},names.lookup x=k->k≠some .free->
  (names.map fun(n,k)=>if(k==bx&&env.scope.kind== .function&&env.kindOf n==some .cell)then(n,cb)else(n,k)).lookup x=k
 | [],_,_,h,_=>by simpa using h
 | (n,k)::r,x,k',h,hf=>by
  have ih:= @eH env r x k';rw[cT];change gY x ((if(k==bx&&env.scope.kind== .function&&env.kindOf n==some .cell)=true then(n,cb)else(n,k))::_)=_;cases hx:x==n with
  |true=>
   simp only[a6,hx]at h;have hk:k≠.free:=fun e=>hf (by rw[<-h,e]);have hb:(k==bx)=false:=by simpa using hk
   rw[if_neg (by rw[hb];simp)];simp only[a6,hx];exact h
  |false=>
   simp only[a6,hx]at h;split <;>simpa only[a6,hx]using ih h hf
theorem qO{sc:Scope}{cl:List (Str×Addr)}{C:Addr}{env:Env}{x:Str}{k:cU}(h:(compEnvC sc cl C env).kindOf x=some k):sc.names.lookup x=some k\/(sc.names.lookup x=some .free/\k=.cell):=jH (env:=env) h
theorem xk{prog:Program}{w:World}{A:Around}{R:Result->Shared->Prop}{s:Shared}{elt target iter:Expr}{ifs:List Expr}{scope:Scope}{pos:Pos}{it acc:Value}{env:Env}(I:Nat->Shared->Prop)
  (turn:∀n s,I n s->wpAny (model prog w) A (pyNext it) (fun r s₁=>match r with
   |none=>R (.ok .next) s₁
   |some v=>wpAny (model prog w) A (mB target it v) (fun _ s₁'=>wpAny (model prog w) A (assign target env v) (fun _ s₂=>
     wpAny (model prog w) A (forIn ifs true fun c r=>if r=true then do let ok<-isTrue c env (eval c env);pure (fv ok)else pure (fv r)) (fun ok s₃=>
      if ok=true then wpAny (model prog w) A (eval elt env) (fun x s₄=>
       wpAny (model prog w) A (call (.builtin "list.append") [acc,x]) (fun _ s₅=>∃m,m<n/\I m s₅) (fun _ _=>False) s₄) (fun _ _=>False) s₃
      else ∃m,m<n/\I m s₃) (fun _ _=>False) s₂) (fun _ _=>False) s₁') (fun _ _=>False) s₁) (fun _ _=>False) s)
  (n:Nat) (h:I n s):
  mw (model prog w) A (.compLoop (.ListComp elt [⟨target,iter,ifs,0⟩] scope pos) 0 it acc env) R s:=by
 refine codeAny_loop rfl I (fun n s hI=>?_) n h;show wpAny _ A ((compTurn (.ListComp elt [⟨target,iter,ifs,0⟩] scope pos) 0 it acc env).onRaise (fun x=>do jm x env;theTreesLotGoes x)) _ _ s;refine wpAny_noted ?_;rw[compTurn_list];refine af (pL (af (dk (turn n s hI) (fun r s₁ h₁=>?_) fun _ _ h'=>h'.elim)));cases r with
 |none=>exact ak h₁
 |some v=>
  refine af (dk h₁ (fun _ s₁' h₁'=>?_) fun _ _ h'=>h'.elim);refine af (dk h₁' (fun _ s₂ h₂=>af (dk h₂ (fun ok s₃ h₃=>?_) fun _ _ h'=>h'.elim)) fun _ _ h'=>h'.elim);cases ok with
  |false=>exact ak ⟨rfl,h₃⟩
  |true=>
   exact af (af (dk h₃ (fun x s₄ h₄=>af (dk h₄ (fun _ s₅ h₅=>ak (ak ⟨rfl,h₅⟩)) fun _ _ h'=>h'.elim)) fun _ _ h'=>h'.elim))
noncomputable def PTs(X:Cx)(ifs:List Expr)(t:TT):Prop:=
 ∀(pins:List (Addr×Obj))(s:Shared)(σ:St)(H:Hp)(Q:Bool->Hp->Prop),Inv X pins σ H s->t σ H Q->
  wpAny (model X.prog X.w) X.A (forIn ifs true fun c r=>if r=true then do let ok<-isTrue c X.env (eval c X.env);pure (fv ok)else pure (fv r)) (TP X pins σ Q) X.xe s
noncomputable def tYes:TT:=fun _ H Q=>Q true H
theorem pts_nil{X:Cx}:PTs X [] tYes:=by
 intro pins s σ H Q I h;rw[tK];exact ak ⟨H,I,h⟩
theorem pts_one{X:Cx}{c:Expr}{t:TT}(h:PT X c t):PTs X [c] t:=by
 intro pins s σ H Q I hw;rw[List.forIn_cons];simp only[if_true];refine af (af (thn (h pins s σ H Q I hw) fun b s1 q=>?_));refine ak ?_;show wpAny _ _ (forIn ([]:List Expr) b _) _ _ s1;rw[tK];exact ak q
noncomputable def qz(wi:TI)(g:TG)(tc:TT)(te:TE)(mk:St->St):TE:=fun σ H Q=>wi σ H fun J H1=>∃W:Nat->Nat->St->List V->Hp->Prop,(∃m,W 0 m (mk σ) [] H1)/\
 ∀i m τ acc H2,W i m τ acc H2->(J.stop i H2/\∀l,H2 l=none->Q (.ref l) (upd H2 l (.lst acc)))\/(J.go i H2/\∃N:St->List V->Hp->Prop,(∀τ' acc' H',N τ' acc' H'->∃m',m'<m/\W (i+1) m' τ' acc' H')/\
  ∀x H3,J.yld i H2 x H3->g x τ H3 fun τ4 H4=>tc τ4 H4 fun b H5=>if b=true then te τ4 H5 fun v H6=>acc.length<sizeLine/\N τ4 (acc++[v]) H6 else N τ4 acc H5)
theorem Inv.track{X:Cx}{pins:List (Addr×Obj)}{σ:St}{H:Hp}{s:Shared}{a:Addr}{o:HO}(I:Inv X pins σ H s)(hf:mo X pins H a)(new:dN X.prog X.w (upd H a o) s.heap a o):Inv X pins σ (upd H a o) s:=by
 obtain⟨h0,h1,h2,h3,h4,h5⟩:=hf;have :=I.step (g':=s.gens) (d':=s.drawn) (t':=s.toks) (h':=s.heap) (H':=upd H a o) (ch:=[a]) (fun b hb=>by
   have e:b=a:=by simpa using hb
   subst e;exact⟨h3,h1,h4,h5⟩)
  (fun b ob _ _ _ q _=>q) (fun b ob _ _ _ q _=>⟨ob.slots,q⟩) (fun b ob hb q n=>by rw[bo (fun z=>hb (by simp[z]))];exact n) (fun b ob _ q=>⟨ob,q⟩)
  (fun b xs q=>by rw[bo (bD q h0)];exact q) (fun b ob u q=>by rw[bo (bD q h0)];exact q) (fun b ps q=>⟨#[],by rw[bo (bD q h0),q];simp⟩)
  (fun m hm=>hm) (fun b u q=>by
   by_cases hb:b=a
   ·subst hb;rw[aE]at q;cases q;exact new
   ·rw[bo hb]at q
    exact(I.hok b u q).oH (fun c v _ e=>e) (fun c e=>by rw[bo (bD e h0)];exact e) fun c xs e=>by rw[bo (bD e h0)];exact e) I.bare
 exact this
theorem xp{X:Cx}{pins:List (Addr×Obj)}{σ:St}{H:Hp}{s:Shared}{a:Addr}{its:List Value}{n:Nat}{u:Value}{Q:Value->Shared->Prop}{E:Value->Shared->Prop}(I:Inv X pins σ H s)(hf:mo X pins H a)
  (e:s.heap.get? a=some {cls:=.type "list",data:=.seq its.toArray n}) (hz:its.length<sizeLine)
  (h:∀h' n',Inv X pins σ H {s with heap:=h'}->h'.get? a=some {cls:=.type "list",data:=.seq (its++[u]).toArray n'}->(∀b o,b≠a->s.heap.get? b=some o->h'.get? b=some o)->Q .none {s with heap:=h'}):
  wpAny (model X.prog X.w) X.A (call (.builtin "list.append") [.ref a,u]) Q E s:=by
 refine call_meets F.slot_list_append ⟨_,e,rfl⟩ F.entry_list_append (F.args_list_append_2 _ _) (PySem.list_append a its.toArray n u (by rw[av];omega)) ⟨e,?_⟩;have q:=zO e (·.push u);have eq:its.toArray.push u=(its++[u]).toArray:=by simp
 rw[eq]at q;have k:∀b o,b≠a->s.heap.get? b=some o->(s.heap.update a (bf (·.push u))).get? b=some o:=fun b o hb z=>(bb s.heap _ (dD hb)).trans z;obtain⟨h0,h1,h2,h3,h4,h5⟩:=hf;exact h _ _ (I.turned (t':=s.toks) k h0 h1 h3 h4 h5) q k
section
variable {X:Cx}{N':List Str}{sc:Scope}{elt tg iter:Expr}{ifs:List Expr}{pos:Pos}{wi:TI}{g:TG}{tc:TT}{te:TE}{mk:St->St}
noncomputable def MkOk(X:Cx)(N':List Str)(sc:Scope)(mk:St->St):Prop:=
 ∀σ:St,σ.length=X.N.length->(mk σ).length=N'.length/\∀(i:Nat)(x:Str)(v:V),N'[i]? =some x->(mk σ)[i]? =some (some v)->sc.names.lookup x=some .free/\∃j:Nat,X.N[j]? =some x/\σ[j]? =some (some v)
theorem qT{pins:List (Addr×Obj)}{σ:St}{H:Hp}{s:Shared}{Q:VK}{use:Option (Value->Sem Unit)}{QQ:Value->Shared->Prop}(S:kl X N' sc)(hm:MkOk X N' sc mk)(hc:X.calm=true)
  (hi:PI X tg iter wi)
  (hb:∀C s₀ H₀ fp,(cP X N' sc C s₀ H₀ fp).Ok->PG (cP X N' sc C s₀ H₀ fp) tg g/\PTs (cP X N' sc C s₀ H₀ fp) ifs tc/\PE (cP X N' sc C s₀ H₀ fp) elt te)
  (hs:∀x,gV iter X.env x=pure x)(I:Inv X pins σ H s)(h:qz wi g tc te mk σ H Q)
  (fin:∀(l C:Addr)(H':Hp)(s':Shared)(m:Str->Option Value),Inv X pins σ H' s'->s'.heap.Ns C m->mo X pins H' C->(∃o,s'.heap.get? C=some o/\∀v,o.data≠.cell v)->Q (.ref l) H'->compPost (model X.prog X.w) X.A X.xe use QQ (.ref l) C (.ok .next) s'):
  wpAny (model X.prog X.w) X.A (comprehension (.ListComp elt [⟨tg,iter,ifs,0⟩] sc pos) sc X.env (firstIterPos [⟨tg,iter,ifs,0⟩] pos) (newList []) false (eval iter X.env) use) QQ X.xe s:=by
 have hcells:∀y∈sc.names,y.2=.free->∃c,X.env.cells.lookup y.1=some c:=fun y hy hf=>I.ok.has _ (S.free y hy hf);refine wpAny_comprehension_free (use:=use) rfl hs (qf hcells) S.kind S.own ?_;refine thn (hi pins s σ H _ I h) fun v s1 h1=>thn h1 fun itv s2 h2=>?_;obtain⟨it,fp,tn,J,H2,e,I2,T,st2,f2,W,⟨m0,w0⟩,turn⟩:=h2;subst e
 --the list
 refine fk ?_;have hl0:H2 s2.heap.objs.size=none:=I2.fresh;have fD:mo X pins H2 s2.heap.objs.size:=I2.wQ (aq _) hl0;have eD3:(s2.heap.push {cls:=.type "list",dict:=none,data:=.seq ([]:List Value).toArray}).get? s2.heap.objs.size=some {cls:=.type "list",data:=.seq ([]:List Value).toArray 0}:=aK _ rfl;have I3:Inv X pins σ H2 {s2 with heap:=s2.heap.push {cls:=.type "list",dict:=none,data:=.seq ([]:List Value).toArray}}:=I2.kept (t':=s2.toks) fun b o e=>ag _ e
 --the block's frame
 refine wR ?_;dsimp only;have szL:(s2.heap.push {cls:=.type "list",dict:=none,data:=.seq ([]:List Value).toArray}).objs.size=s2.heap.objs.size+1:=gj ..;have hDC:s2.heap.objs.size≠(s2.heap.push {cls:=.type "list",dict:=none,data:=.seq ([]:List Value).toArray}).objs.size:=by rw[szL];exact a0 (qr _)
 have k23:∀b o,s2.heap.get? b=some o->(s2.heap.push {cls:=.type "list",dict:=none,data:=.seq ([]:List Value).toArray}).get? b=some o:=fun b o e=>ag _ e;generalize hH3:s2.heap.push {cls:=.type "list",dict:=none,data:=.seq ([]:List Value).toArray}=P3 at I3 szL eD3 hDC k23⊢;generalize hD:s2.heap.objs.size=D0 at *;have hns4:(pushCells (P3.push {cls:=.type "dict",data:=.dict #[]}) sc.names).Ns P3.objs.size (fun _=>none):=(Heap.Ns.new P3 (.type "dict")).keeps (pushCells_keeps _ _);have keep4:∀b o,P3.get? b=some o->(pushCells (P3.push {cls:=.type "dict",data:=.dict #[]}) sc.names).get? b=some o:=fun b o e=>pushCells_keeps _ _ b o (ag _ e);have own4:=cellsFrom_ok sc.names (P3.push {cls:=.type "dict",data:=.dict #[]}) (P3.objs.size+1) [] ⟨fun _ _ hm=>(nomatch hm),kF⟩ (by rw[gj];exact aq _);rw[gj]at own4;generalize pushCells (P3.push {cls:=.type "dict",data:=.dict #[]}) sc.names=h4 at hns4 keep4 own4⊢
 --the context
 have fpl:∀b∈fp,b<D0:=fun b hb=>by
  obtain⟨o,e,_⟩:=T.obj _ _ st2 b hb;rw[<-hD];exact ay e
 have hCb:D0<P3.objs.size:=by rw[szL];exact qr _
 have clo:∀x c,(d7 X.env.cells sc.names []).lookup x=some c->X.env.cells.lookup x=some c/\(x,bx)∈sc.names:=fun x c e=>by
  rcases iG _ _ x c e with⟨q,e'⟩ |q
  ·obtain⟨c',hc'⟩:=hcells _ q rfl
   have hc'':X.env.cells.lookup x=some c':=hc';rw[hc'']at e'⊢;exact⟨by rw[e'];rfl,q⟩
  ·simp at q
 have clt:∀x c,(d7 X.env.cells sc.names []).lookup x=some c->c<P3.objs.size:=fun x c e=>by
  obtain⟨v,o,ho,_⟩:=I3.cell x c (clo x c e).1;exact ay ho
 have cel:∀x c,(bQ (P3.objs.size+1) sc.names (d7 X.env.cells sc.names [])).lookup x=some c->((x,c)∈bQ (P3.objs.size+1) sc.names []/\P3.objs.size+1<=c/\h4.IsCell c none)\/(d7 X.env.cells sc.names []).lookup x=some c:=fun x c e=>by
  rw[ei,nR]at e;cases ho:(bQ (P3.objs.size+1) sc.names []).lookup x with
  |none=>
   rw[ho]at e;exact .inr e
  |some c'=>
   rw[ho]at e;cases e;have m:=aY ho;exact .inl ⟨m,(own4.empty x c m).2,(own4.empty x c m).1⟩
 have celf:∀x,sc.names.lookup x=some .free->(bQ (P3.objs.size+1) sc.names (d7 X.env.cells sc.names [])).lookup x=(d7 X.env.cells sc.names []).lookup x:=fun x hf=>by
  rw[ei,nR];cases ho:(bQ (P3.objs.size+1) sc.names []).lookup x with
  |none=>rfl
  |some c'=>
   rcases iH _ _ _ _ _ (aY ho)with q|q
   ·have :=S.cellk _ q rfl
    rw[hf]at this;cases this
   ·cases q
 have f3:∀b∈D0::fp,mo X pins H2 b/\b<P3.objs.size:=fun b hb=>by
  rcases aO.mp hb with z|z
  ·rw[z];exact⟨fD,hCb⟩
  ·exact⟨f2 b z,iQ (fpl b z) hCb⟩
 have ok:(cP X N' sc P3.objs.size {s2 with heap:=P3} H2 (D0::fp)).Ok:=by
  refine⟨I.ok.mod,S.kind,I.ok.glob,I.ok.blt,aq _,fun x y c h1 h2=>?_,fun x hx=>?_,fun x c z=>?_,fun z=>I.ok.hd z,I.ok.frames,.inl rfl,fun b hb=>⟨?_,fun x c e=>?_⟩,I3.bs,aI I.ok.bsz I3.sz,fun b o e hb=>?_,fun b hb z=>?_,I3.stack,I3.rP⟩
  ·rcases cel x c h1 with⟨m1,l1,_⟩ |q1<;>rcases cel y c h2 with⟨m2,l2,_⟩ |q2
   ·exact PySem.name_of_addr own4.apart m1 m2
   ·exact absurd l1 (Nat.not_le.mpr (dP (clt y c q2)))
   ·exact absurd l2 (Nat.not_le.mpr (dP (clt x c q1)))
   ·exact I.ok.inj x y c (clo x c q1).1 (clo y c q2).1
  ·have q:sc.names.lookup x=some .free\/sc.names.lookup x=some .cell:=by
    rcases hx with hx|hx
    ·rcases qO hx with q|q
     ·exact .inr q
     ·exact .inl q.1
    ·rcases qO hx with q|q
     ·exact .inl q
     ·exact .inl q.1
   rcases q with q|q
   ·have h1:=bW.mp (lz (cells:=X.env.cells) _ [] _ (aY q))
    show ∃c,(bQ (P3.objs.size+1) sc.names (d7 X.env.cells sc.names [])).lookup x=some c;rw[celf x q];exact h1
   ·exact bW.mp (fZ _ _ _ _ (aY q))
  ·have z:(sc.names.any fun y=>decide (y.1=x)&&decide (y.2=cb))=true:=z
   obtain⟨y,hy,e⟩:=gO.mp z;rw[aw,decide_eq_true_eq,decide_eq_true_eq]at e;intro hc;rcases cel x c hc with⟨_,l1,_⟩ |q1
   ·show P3.objs.size<=c
    omega
   ·have hk:=S.cellk y hy e.2
    rw[e.1]at hk;rcases iG _ _ x c q1 with⟨q,_⟩ |q
    ·have h2:(bQ (P3.objs.size+1) sc.names []).lookup x≠none:=fun h=>by
      have :=fZ sc.names (P3.objs.size+1) [] x (aY hk)
      rw[h]at this;cases this
     have hc':(bQ (P3.objs.size+1) sc.names (d7 X.env.cells sc.names [])).lookup x=some c:=hc;rw[ei,nR]at hc';cases ho:(bQ (P3.objs.size+1) sc.names []).lookup x with
     |none=>exact absurd ho h2
     |some c'=>
      rw[ho]at hc';cases hc';have :=(own4.empty x c (aY ho)).2;show P3.objs.size<=c;omega
    ·cases q
  ·exact a0 (f3 b hb).2
  ·rcases cel x c e with⟨_,l1,_⟩ |q1
   ·have :=(f3 b hb).2
    exact fun z=>by subst z;omega
   ·exact(f3 b hb).1.2.2.2.2.1 x c (clo x c q1).1
  ·rcases(f3 b hb).1.2.2.2.1 with z|z
   ·exact I.ok.noex b o e z
   ·exact absurd (aS (ay e) (aI I.ok.bsz z)) (dq _)
  ·rcases aO.mp (I2.vZ b z)with q|q
   ·exact(f3 b hb).1.2.1 q
   ·exact(f3 b hb).1.2.2.1 q
 obtain⟨pg,pt,pe⟩:=hb _ _ _ _ ok;have I4:Inv (cP X N' sc P3.objs.size {s2 with heap:=P3} H2 (D0::fp)) [] (mk σ) H2 {s2 with heap:=h4}:=by
  obtain⟨ml,hmk⟩:=hm σ I.len;have locC:∀x c v,X.env.cells.lookup x=some c->P3.IsCell c v->h4.IsCell c v:=fun x c v e ⟨o,ho,hd⟩=>⟨o,keep4 c o ho,hd⟩;refine⟨ok,rfl,I2.bare,Un.kept keep4,⟨_,hns4,fun i x v e1 e2 e3=>?_⟩,fun x c e=>?_,I3.hok.fresh (aq _),fun x c e=>?_,fun p hp=>absurd (show p∈([]:List (Addr×Obj))from hp) (by simp),I3.hok.kept keep4,ml⟩
  ·obtain⟨hf,j,hj,hv⟩:=hmk i x v e1 e2
   obtain⟨m,hn,hl⟩:=I3.loc;have kx:=S.free (x,.free) (aY hf) rfl;obtain⟨u,r,l⟩:=hl j x v hj hv (by
    rcases kx with q|q
    ·exact .inr (.inl q)
    ·exact .inr (.inr q))
   refine⟨u,r,.inr ⟨?_,?_⟩⟩
   ·rcases eX (env:=X.env) hf with q|q
    ·exact .inr q
    ·exact .inl q
   ·rcases l with⟨q,_⟩ |⟨_,c,hc1,hc2⟩
    ·have kx':X.env.kindOf x=some .cell\/X.env.kindOf x=some .free:=kx
     rw[q]at kx';rcases kx' with z|z<;>cases z
    ·obtain⟨c',q⟩:=bW.mp (lz (cells:=X.env.cells) _ [] _ (aY hf))
     have :=(clo x c' q).1
     rw[hc1]at this;cases this;exact⟨c,by show(bQ (P3.objs.size+1) sc.names (d7 X.env.cells sc.names [])).lookup x=some c;rw[celf x hf];exact q,locC x c _ hc1 hc2⟩
  ·rcases cel x c e with⟨_,_,hv⟩ |q1
   ·exact⟨none,hv⟩
   ·obtain⟨v,hv⟩:=I3.cell x c (clo x c q1).1
    exact⟨v,locC x c v (clo x c q1).1 hv⟩
  ·rcases cel x c e with⟨_,l1,_⟩ |q1
   ·exact I3.hok.fresh (by show P3.objs.size<=c;omega)
   ·exact I3.freeC x c (clo x c q1).1
 have st4:tn 0 h4:=T.keep _ _ _ st2 fun b hb o e=>keep4 b o (k23 b o e);have f4:∀{H':Hp}{b:Addr},b∈D0::fp->H' b=none->mo (cP X N' sc P3.objs.size {s2 with heap:=P3} H2 (D0::fp)) [] H' b:=fun{H' b} hb hn=>
  ⟨hn,(ok.exf b hb).1,ok.exfs b hb,.inl hb,(ok.exf b hb).2,fun p hp=>absurd (show p∈([]:List (Addr×Obj))from hp) (by simp)⟩
 have ofp:∀{b:Addr},b∈fp->b∈D0::fp:=fun hb=>aJ _ hb;have nD:∀b∈fp,b≠D0:=fun b hb=>a0 (fpl b hb)
 --the loop
 have loop:mw (model X.prog X.w) X.A (.compLoop (.ListComp elt [⟨tg,iter,ifs,0⟩] sc pos) 0 (.ref it) (.ref D0) (compEnvC sc (bQ (P3.objs.size+1) sc.names (d7 X.env.cells sc.names [])) P3.objs.size X.env))
   (compPost (model X.prog X.w) X.A X.xe use QQ (.ref D0) P3.objs.size) {s2 with heap:=h4}:=by
  refine xk (fun n s'=>∃i τ acc H' its k,Inv (cP X N' sc P3.objs.size {s2 with heap:=P3} H2 (D0::fp)) [] τ H' s'/\tn i s'.heap/\(∀b∈D0::fp,H' b=none)/\bU acc its/\acc.length<=sizeLine/\
    s'.heap.get? D0=some {cls:=.type "list",data:=.seq its.toArray k}/\W i n τ acc H') ?_ m0
   ⟨0,mk σ,[],_,[],0,I4,st4,fun b hb=>(f3 b hb).1.1,.nil,aW _,keep4 _ _ eD3,w0⟩
  rintro n s5 ⟨i,τ,acc,H5,its,kk,I5,st5,fr5,va5,hz5,e5,w5⟩;have I5p:Inv (cP X N' sc P3.objs.size {s2 with heap:=P3} H2 (D0::fp)) ([]++gF [D0] s5.heap) τ H5 s5:=by
   refine I5.pinned (fun b hb=>?_) (fun b hb=>?_)
   ·have z:b=D0:=by simpa using hb
    rw[z];exact f4 aH (fr5 D0 aH)
   ·have z:b=D0:=by simpa using hb
    rw[z];exact⟨_,e5,fun v z=>by cases z⟩
  obtain q|⟨go,NN,hN,step⟩:=turn i n τ acc H5 w5
  ·obtain⟨stop,q⟩:=q
   refine thn (T.done (cP X N' sc P3.objs.size {s2 with heap:=P3} H2 (D0::fp)) rfl rfl rfl hc i _ s5 τ H5 (fun _ _=>False) I5p (fun b hb=>?_) st5 stop) fun r s6 ⟨hr,I6p⟩=>?_
   ·obtain⟨g0,g1,g2,g3,g4,_⟩:=f4 (ofp hb) (fr5 b (ofp hb))
    refine⟨g0,g1,g2,g3,g4,fun p hp=>?_⟩;have hp':p∈gF [D0] s5.heap:=by simpa[cP]using hp
    obtain⟨z,_⟩:=mO hp';have z':p.1=D0:=by simpa using z
    rw[z'];exact(nD b hb).symm
   subst hr;have I6:=I6p.fH;have e6:s6.heap.get? D0=some {cls:=.type "list",data:=.seq its.toArray kk}:=(I6p.pin (D0,_) (aR _ (aR _ (fU (by simp) e5)))).1
   --back in the context around
   have un:Un (frs X.stack) fp H2 H5 s2.heap s6.heap:=by
    have u:=I6.base;have nb:∀b o,s2.heap.get? b=some o->b∉fp->b∉D0::fp:=fun b o e hb z=>by
     rcases aO.mp z with z|z
     ·exact absurd (ay e) (by rw[z,hD];exact dq _)
     ·exact hb z
    exact⟨fun b o e n hb hx=>u.keep b o (k23 b o e) n hb (nb b o e hx),fun b o e n hb hx=>u.slot b o (k23 b o e) n hb (nb b o e hx),fun b o e n hx=>u.free b o (k23 b o e) n (nb b o e hx),fun b o e hx=>u.there b o (k23 b o e) (nb b o e hx),u.tups,u.frzs,u.tbls⟩
   have I7:Inv X pins σ H5 s6:=by
    obtain⟨hh,g6,d6,t6,os6⟩:=s6;have eo:os6=s2.os:=I6.os;subst eo;exact I2.call (h':=hh) (g':=g6) (d':=d6) (t':=t6) (ch:=fp) un I6.hok I6.bare fun b hb=>⟨(f2 b hb).2.2.2.1,(f2 b hb).2.1,(f2 b hb).2.2.2.2.1,(f2 b hb).2.2.2.2.2⟩
   have fD5:mo X pins H5 D0:=⟨fr5 D0 aH,fD.2⟩;have I8:=I7.track (o:=.lst acc) fD5 (show dN X.prog X.w _ s6.heap D0 (.lst acc)from⟨hz5,its,kk,va5,e6⟩);obtain⟨m,hn,_⟩:=id I6.loc;refine fin _ P3.objs.size _ s6 m I8 hn (I2.wQ (by rw[hD];exact pK hCb) (by rw[bo (dD hDC)];exact I6.free)) ?_ (q D0 (fr5 D0 aH));obtain⟨o,es,ep,ho,hd,_⟩:=hn;exact⟨o,ho,fun v z=>by rw[hd]at z;cases z⟩
  ·skip
   have fpi:∀{H':Hp}{b:Addr},b∈fp->H' b=none->mo (cP X N' sc P3.objs.size {s2 with heap:=P3} H2 (D0::fp)) ([]++gF [D0] s5.heap) H' b:=fun{H' b} hb hn=>by
    obtain⟨g0,g1,g2,g3,g4,_⟩:=f4 (H':=H') (ofp hb) hn;refine⟨g0,g1,g2,g3,g4,fun p hp=>?_⟩;have hp':p∈gF [D0] s5.heap:=by simpa[cP]using hp
    obtain⟨z,_⟩:=mO hp';have z':p.1=D0:=by simpa using z
    rw[z'];exact(nD b hb).symm
   refine thn (T.item (cP X N' sc P3.objs.size {s2 with heap:=P3} H2 (D0::fp)) rfl rfl rfl hc i _ s5 τ H5 (fun _ _=>False) I5p (fun b hb=>fpi hb (fr5 b (ofp hb))) st5 go) fun r s6 ⟨u,hr,h6⟩=>?_;subst hr;refine thn h6 fun _ s7 ⟨x,H7,I7,r7,y7,st7,fr7⟩=>?_;have I7':=I7.pinned (fun b hb=>fpi hb (fr7 b hb)) (T.obj _ _ st7);refine thn (pg _ s7 τ H7 x u _ I7' r7 (step x H7 y7)) fun _ s8 ⟨τ8,H8,I8,q8⟩=>?_;refine thn (pt _ s8 τ8 H8 _ I8 q8) fun b s9 ⟨H9,I9,q9⟩=>?_;have pinD:∀{τ':St}{H':Hp}{s':Shared},Inv (cP X N' sc P3.objs.size {s2 with heap:=P3} H2 (D0::fp)) ([]++gF [D0] s5.heap++gF fp s7.heap) τ' H' s'->s'.heap.get? D0=some {cls:=.type "list",data:=.seq its.toArray kk}/\H' D0=none:=fun{τ' H' s'} J=>by
    have :=J.pin (D0,_) (aR _ (cV _ (aR _ (fU (by simp) e5))))
    exact⟨this.1,this.2.1⟩
   have pinF:∀{τ':St}{H':Hp}{s':Shared},Inv (cP X N' sc P3.objs.size {s2 with heap:=P3} H2 (D0::fp)) ([]++gF [D0] s5.heap++gF fp s7.heap) τ' H' s'->(∀b∈fp,∀o,s7.heap.get? b=some o->s'.heap.get? b=some o)/\(∀b∈fp,H' b=none):=fun{τ' H' s'} J=>by
    refine⟨fun b hb o e=>(J.pin (b,o) (aR _ (aR _ (fU hb e)))).1,fun b hb=>?_⟩;obtain⟨o,e,d⟩:=T.obj _ _ st7 b hb;exact(J.pin (b,o) (aR _ (aR _ (fU hb e)))).2.1
   cases b with
   |false=>
    rw[if_neg (by decide)]at q9⊢;obtain⟨m',hm',w7⟩:=hN τ8 acc H9 q9;obtain⟨d1,d2⟩:=pinD I9;obtain⟨p1,p2⟩:=pinF I9;refine⟨m',hm',i+1,τ8,acc,H9,its,kk,I9.fH.fH,T.keep _ _ _ st7 p1,fun b hb=>?_,va5,hz5,d1,w7⟩;rcases aO.mp hb with z|z
    ·rw[z];exact d2
    ·exact p2 b z
   |true=>
    rw[if_pos rfl]at q9⊢;refine thn (pe _ s9 τ8 H9 _ I9 q9) fun y s10 ⟨z,H10,I10,r10,q10⟩=>?_;obtain⟨hz10,n10⟩:=q10;obtain⟨m',hm',w7⟩:=hN τ8 _ H10 n10;obtain⟨d1,d2⟩:=pinD I10;obtain⟨p1,p2⟩:=pinF I10;have hlen:its.length=acc.length:=va5.length.symm;refine xp (X:=cP X N' sc P3.objs.size {s2 with heap:=P3} H2 (D0::fp)) I10.fH.fH (f4 aH d2) d1 (by omega) fun h' n' I11 e11 k11=>?_;refine⟨m',hm',i+1,τ8,acc++[z],H10,its++[y],n',I11,T.keep _ _ _ st7 fun b hb o e=>k11 b o (nD b hb) (p1 b hb o e),fun b hb=>?_,va5.append (.cons r10 .nil),?_,e11,w7⟩
    ·rcases aO.mp hb with w|w
     ·rw[w];exact d2
     ·exact p2 b w
    ·rw[ai,eL];omega
 exact codeAny_compStart_list loop (T.self _ 0 _ _ _ st4 loop)
theorem pe_comp(S:kl X N' sc)(hm:MkOk X N' sc mk)(hc:X.calm=true)(hi:PI X tg iter wi)
  (hb:∀C s₀ H₀ fp,(cP X N' sc C s₀ H₀ fp).Ok->PG (cP X N' sc C s₀ H₀ fp) tg g/\PTs (cP X N' sc C s₀ H₀ fp) ifs tc/\PE (cP X N' sc C s₀ H₀ fp) elt te)
  (hs:∀x,gV iter X.env x=pure x:=by intro _;rfl):PE X (.ListComp elt [⟨tg,iter,ifs,0⟩] sc pos) (qz wi g tc te mk):=by
 intro pins s σ H Q I h;rw[eval_ListComp];refine qT (use:=none) S hm hc hi hb hs I h fun l C H' s' m I' hn hC hCo q=>⟨m,hn,fun h'' hs''=>?_⟩;have I'':Inv X pins σ H' {s' with heap:=h'',toks:=s'.toks}:=I'.turned (fun b o hb e=>hs''.extBut b o hb e) hC.1 hC.2.1 hC.2.2.2.1 hC.2.2.2.2.1 hC.2.2.2.2.2;exact⟨.ref l,H',I'',rfl,q⟩
theorem wu{i:Nat}{x:Str}{pos' spos:Pos}(S:kl X N' sc)(hm:MkOk X N' sc mk)(hc:X.calm=true)(hi:PI X tg iter wi)
  (hb:∀C s₀ H₀ fp,(cP X N' sc C s₀ H₀ fp).Ok->PG (cP X N' sc C s₀ H₀ fp) tg g/\PTs (cP X N' sc C s₀ H₀ fp) ifs tc/\PE (cP X N' sc C s₀ H₀ fp) elt te)
  (hN:X.N.Nodup)(hx:X.N[i]? =some x)(hl:X.env.scope.names.lookup x=some .local)
  (hsw:ot (.ListComp elt [⟨tg,iter,ifs,0⟩] sc pos) (some (.Name x pos')) spos.line X.env=pure true)
  (hs:∀x,gV iter X.env x=pure x:=by intro _;rfl):PS X (.Assign [.Name x pos'] (.ListComp elt [⟨tg,iter,ifs,0⟩] sc pos) spos) (rO (qz wi g tc te mk) (kJ i)):=by
 intro pins s σ H D I h;rw[exec_Assign_Name_used _ _ _ _ hsw];refine af (pL (af ?_));show wpAny _ X.A (do let _<-comprehension (.ListComp elt [⟨tg,iter,ifs,0⟩] sc pos) sc X.env (firstIterPos [⟨tg,iter,ifs,0⟩] pos) (newList []) false (eval iter X.env) (some (assign (.Name x pos') X.env))) _ _ s;refine af (thn (qT (use:=some (assign (.Name x pos') X.env)) (QQ:=fun _ s'=>SP X pins D .next s') S hm hc hi hb hs I h fun l C H' s' m I' hn hC hCo q=>?_) fun _ s' hq=>ak (ak hq));obtain⟨oC,eC,dC⟩:=id hCo;have I1:Inv X (pins++[(C,oC)]) σ H' s':=I'.si fun p hp=>(bN.mp hp).elim (fun z=>I'.pin p (aR _ z)) fun z=>by
  have e:p=(C,oC):=by simpa using z
  subst e;exact⟨eC,hC.1,hC.2.1,hC.2.2.1,dC⟩
 show wpAny _ X.A (assign (.Name x pos') X.env (.ref l)) _ _ s';refine thn (sj (i:=i) hN hx (.inl hl) (.inr hl) (pins++[(C,oC)]) s' σ H' (.ref l) (.ref l) D.nx I1 rfl q) fun _ s2 ⟨σ2,H2,I2,q2⟩=>?_;obtain⟨eC2,nC2,_,_,_⟩:=I2.pin (C,oC) (aR _ (aR _ (by simp)));have hn2:s2.heap.Ns C m:=by
  obtain⟨o,es,ep,ho,r⟩:=hn;have :o=oC:=by rw[eC]at ho;exact(a9 ho).symm
  subst this;exact⟨o,es,ep,eC2,r⟩
 refine⟨m,hn2,fun h'' hs''=>?_⟩;have I3:Inv X pins σ2 H2 {s2 with heap:=h'',toks:=s2.toks}:=I2.fH.turned (fun b o hb e=>hs''.extBut b o hb e) nC2 hC.2.1 hC.2.2.2.1 hC.2.2.2.2.1 hC.2.2.2.2.2;exact⟨σ2,H2,I3,q2⟩
end
section
variable {X:Cx}
theorem nG:eK X (.builtin "isinstance") (fun xs H Q=>∃x T t b,xs=[x,.ty T]/\ju X.K H x t/\bI X.K t (.type T)=some b/\Q (.bl b) H):=by
 intro pins s σ H xs us Q I rv h;obtain⟨x,T,t,b,rfl,ty,e,q⟩:=h;obtain⟨u,c,rfl,ru,rc⟩:=rv.two;cases rc;exact qQ I ru ty e fun tk=>⟨.bl b,H,I.tok tk,rfl,q⟩
theorem mf:eK X (.builtin "isinstance") (fun xs H Q=>∃x C t b,xs=[x,.ref C]/\ju X.K H x t/\bI X.K t (.ref C)=some b/\Q (.bl b) H):=by
 intro pins s σ H xs us Q I rv h;obtain⟨x,T,t,b,rfl,ty,e,q⟩:=h;obtain⟨u,c,rfl,ru,rc⟩:=rv.two;cases rc;exact qQ I ru ty e fun tk=>⟨.bl b,H,I.tok tk,rfl,q⟩
theorem tS{prog:Program}{w:World}{A:Around}{its:List Value}{bs:List Bool}(r:bU (bs.map V.bl) its):TruthOf prog w A (fun i v=>its.toArray[i]? =some v) (fun i=>bs.getD i false):=by
 intro i v s Q E hP h;have hi:its[i]? =some v:=by simpa using hP
 have e:v=.bool (bs.getD i false):=by
  have hl:=r.length;rw[aC]at hl;have hlt:i<bs.length:=by
   have :=(aU.mp hi).1
   omega
  obtain⟨u,hu,ru⟩:=bU.get (i:=i) (x:=.bl bs[i]) r (by simp[hlt]);rw[hi]at hu;cases hu;have ru':v=ti bs[i]:=ru;rw[ru',ah,ae hlt];rfl
 rw[e];exact cN h
theorem range_all(bs:List Bool):(aM bs.length).all (fun i=>bs.getD i false)=bs.all id:=by
 have :bs=(aM bs.length).map fun i=>bs.getD i false:=by
  apply cR
  ·simp
  ·intro i h1 h2
   simp[h1]
 rw[fM];simp only[bP,bX];constructor
 ·intro h x hx
  obtain⟨i,hi,rfl⟩:=aZ.mp hx;have :=h i hi;simpa[hi]using this
 ·intro h i hi
  have :=h bs[i] (bp hi)
  simpa[hi]using this
theorem range_any(bs:List Bool):(aM bs.length).any (fun i=>bs.getD i false)=bs.any id:=by
 rw[fM];simp only[gO,bX];constructor
 ·rintro⟨i,hi,h⟩
  exact⟨bs[i],bp hi,by simpa[hi]using h⟩
 ·rintro⟨x,hx,h⟩
  obtain⟨i,hi,rfl⟩:=aZ.mp hx;exact⟨i,hi,by simpa[hi]using h⟩
theorem Cj(hc:X.calm=true):eK X (.builtin "all") (fun xs H Q=>∃(p:Addr)(bs:List Bool),xs=[.ref p]/\SqL X.K H p (bs.map V.bl)/\Q (.bl (bs.all id)) H):=by
 intro pins s σ H xs us Q I rv h;obtain⟨p,bs,rfl,hq,q⟩:=h;obtain⟨u,rfl,ru⟩:=rv.one;cases ru;obtain⟨its,r,pl,hz⟩:=I.list hq;have hlen:its.toArray.size=bs.length:=by rw[av,<-r.length,aC]
 have hne:p≠s.heap.objs.size:=by obtain⟨o,n,ho,_⟩:=id pl;exact a0 (ay ho)
 refine call_all_walk (gS pl.isList ⟨s.heap.objs.size,_,_,_,_,_,fun i=>bs.getD i false,rfl,CC (A:=X.A.in1) (I.ok.hd hc) _ p hne its.toArray,⟨⟨_,aK _ rfl,rfl,rfl⟩,pl.isList.at fun o e=>ag _ e⟩,tS r,fun h' tk k=>?_⟩);rw[hlen,range_all];exact⟨.bl (bs.all id),H,I.kept (t':=tk) fun b o e=>k b o (by simpa using a0 (ay e)) (ag _ e),rfl,q⟩
theorem Ci(hc:X.calm=true):eK X (.builtin "any") (fun xs H Q=>∃(p:Addr)(bs:List Bool),xs=[.ref p]/\SqL X.K H p (bs.map V.bl)/\Q (.bl (bs.any id)) H):=by
 intro pins s σ H xs us Q I rv h;obtain⟨p,bs,rfl,hq,q⟩:=h;obtain⟨u,rfl,ru⟩:=rv.one;cases ru;obtain⟨its,r,pl,hz⟩:=I.list hq;have hlen:its.toArray.size=bs.length:=by rw[av,<-r.length,aC]
 have hne:p≠s.heap.objs.size:=by obtain⟨o,n,ho,_⟩:=id pl;exact a0 (ay ho)
 refine call_any_walk (gS pl.isList ⟨s.heap.objs.size,_,_,_,_,_,fun i=>bs.getD i false,rfl,CC (A:=X.A.in1) (I.ok.hd hc) _ p hne its.toArray,⟨⟨_,aK _ rfl,rfl,rfl⟩,pl.isList.at fun o e=>ag _ e⟩,tS r,fun h' tk k=>?_⟩);rw[hlen,range_any];exact⟨.bl (bs.any id),H,I.kept (t':=tk) fun b o e=>k b o (by simpa using a0 (ay e)) (ag _ e),rfl,q⟩
noncomputable def vf(x:Str)(lo hi:Option Int):Str:=⟨((x.cps.toList.drop (HT.sIx x.length 0 lo)).take (HT.sIx x.length x.length hi-HT.sIx x.length 0 lo)).toArray⟩
theorem sIx_eq(n d:Nat)(i:Int):(max 0 (min (if i<0 then i+(n:Int)else i) (n:Int)))=((HT.sIx n d (some i):Nat):Int):=by
 have :=HT.sM i n d
 rw[<-this];split <;>omega
theorem strIx(lo hi:Option Int)(n:Nat):nU lo hi 1 n=(aM (HT.sIx n n hi-HT.sIx n 0 lo)).map fun k=>HT.sIx n 0 lo+k:=by
 have key:∀a b:Nat,sliceRange (a:Int) (b:Int) 1=(aM (b-a)).map fun k=>a+k:=by
  intro a b;unfold sliceRange;have e:(if(1:Int)>0 then(if(a:Int)<b then((b:Int)-a+1-1)/1 else 0)else(if(a:Int)>b then((a:Int)-b-1-1)/(-1)else 0)).toNat=b-a:=by
   rw[if_pos (by decide)];split <;>omega
  simp only[e];apply fC;intro k hk;omega
 have e1:∀(o:Option Int)(d:Nat),(match o with |none=>(d:Int) |some i=>max 0 (min (if i<0 then i+(n:Int)else i) (n:Int)))=((HT.sIx n d o:Nat):Int):=by
  intro o d;cases o with
  |none=>rfl
  |some i=>exact sIx_eq n d i
 have a1:=e1 lo 0;have a2:=e1 hi n;unfold nU;simp only[show(1:Int)>0 by decide,if_true];have b1:((0:Nat):Int)=0:=rfl;rw[b1]at a1;rw[<-key,<-a1,<-a2];cases lo<;>cases hi<;>rfl
theorem pickN(xs:Array Nat)(i:Nat):∀k,((aM k).map fun m=>i+m).filterMap (xs[·]?)=(xs.toList.drop i).take k:=by
 intro k
 induction k with
 |zero=>simp
 |succ k ih=>
  rw[rC,kE,List.filterMap_append,ih];by_cases h:i+k<xs.size
  ·rw[List.take_succ,dy]
   simp[h]
  ·rw[List.take_succ,dy]
   simp[h]
theorem yL(x:Str)(lo hi:Option Int):Txt.slice x lo hi=vf x lo hi:=by
 have hl:HT.sIx x.length 0 lo<=x.length:=HT.wo _ _ (aW _) lo;have hu:HT.sIx x.length x.length hi<=x.length:=HT.wo _ _ (aq _) hi;unfold Txt.slice vf;rw[strIx];split
 ·rename_i h
  rw[aw,beq_iff_eq,beq_iff_eq,aC,eR]at h;have a:HT.sIx x.length 0 lo=0:=by omega
  have b:HT.sIx x.length x.length hi=x.length:=by omega
  rw[a,b];have :x.cps.toList.length=x.length:=by simp[Str.length]
  rw[lH,zP,<-this,d8]
 ·rw[pickN]
theorem nB{v:Value}{o:Option Int}(p:IsPart v o):∃l:Option (Int×Tok),v=partValue l/\o=l.map (·.1):=by
 cases p with
 |none=>exact⟨none,rfl,rfl⟩
 |int i t=>exact⟨some (i,t),rfl,rfl⟩
noncomputable def rSlS:V->Option Int->Option Int->Hp->VK->Prop:=fun x lo hi H Q=>∃z,x=.str z/\z.length<=sizeLine/\Q (.str (vf z lo hi)) H
theorem sl_str:SlR X rSlS:=by
 intro pins s σ H x v vl vu lo hi sl Q I rx hs pl pu h;obtain⟨z,rfl,hz,q⟩:=h;obtain⟨t,rfl⟩:=rx;obtain⟨l,rfl,rfl⟩:=nB pl;obtain⟨u,rfl,rfl⟩:=nB pu;refine⟨"str",_,F.slot_str_getitem.lookup,typeIs_str _ _ _,?_⟩;refine wpAny_getItem_str_slice (l:=l) (u:=u) (st:=none) hs rfl (post_val_or_str ⟨aI (Txt.slice_le z _ _) hz,fun t' k=>?_⟩);have e:=yL z (l.map (·.1)) (u.map (·.1));unfold Txt.slice at e;refine⟨.str (vf z (l.map (·.1)) (u.map (·.1))),H,I.tok k,⟨t',?_⟩,q⟩;rw[<-e];rfl
noncomputable def Its(x:Str):It:=⟨fun i _=>i<x.length,fun i H v H'=>H'=H/\∃c,x.cps[i]? =some c/\v=.str ⟨#[c]⟩,fun i _=>x.length<=i⟩
end
theorem qB{prog:Program}{w:World}(it:Addr)(x:Str)(t:Tok)(A:Around)(hA:A.handled=none):
  Walks prog w A it [it] [it] x.cps.size (SignAt x) (fun i h=>h.IsStrIter it (fE x) x t i):=by
 unfold fE;cases ha:x.cps.all (·<128)
 ·simp only[bt,if_false];exact Walks.strWide hA it x t
 ·simp only[if_true];exact Walks.strAscii hA it x t
theorem Ae{P:Program}{w:World}{K:aa}{tg:Expr}(x:Str)(it:Addr)(t:Tok):Turn P w K tg (Its x) [it] it (fun i h=>h.IsStrIter it (fE x) x t i) where
 mem:=by simp
 obj:=fun i h st b hb=>by
  have e:b=it:=by simpa using hb
  subst e;obtain⟨o,e,c,d⟩:=st;exact⟨o,e,fun v z=>by rw[d]at z;cases z⟩
 keep:=fun i h h' st k=>let⟨o,ho,r⟩:=st;⟨o,k it (by simp) o ho,r⟩
 item:=by
  intro X hP hw hK hc i pins s σ H E I hf st hg;subst hP hw hK;obtain⟨f0,f1,f2,f3,f4,f5⟩:=hf it (by simp);have W:=qB (prog:=X.prog) (w:=X.w) it x t X.A (I.ok.hd hc);refine W.item i s _ _ hg st fun v h' tk hv st' kk=>?_;obtain⟨c,u,hc',rfl⟩:=hv;have I1:Inv X pins σ H {s with heap:=h',toks:=tk}:=I.turned (fun b o hb e=>kk b o (by simpa using hb) e) f0 f1 f3 f4 f5;obtain⟨o,e,cl,d⟩:=id st';refine⟨_,rfl,yj (s:={s with heap:=h',toks:=tk}) (n:=fE x) e cl d ?_ ⟨.str ⟨#[c]⟩,H,I1,⟨u,rfl⟩,⟨rfl,c,hc',rfl⟩,st',fun b hb=>(hf b hb).1⟩⟩;unfold fE;split <;>decide
 done:=by
  intro X hP hw hK hc i pins s σ H E I hf st hg;subst hP hw hK;obtain⟨f0,f1,f2,f3,f4,f5⟩:=hf it (by simp);have hg':x.length<=i:=hg;by_cases hi:i=x.cps.size
  ·subst hi
   have W:=qB (prog:=X.prog) (w:=X.w) it x t X.A (I.ok.hd hc);exact W.done s _ _ st fun h' tk kk=>⟨rfl,I.turned (fun b o hb e=>kk b o (by simpa using hb) e) f0 f1 f3 f4 f5⟩
  ·have hn:x.cps[i]? =none:=by
    rw[Array.getElem?_eq_none_iff];exact hg'
   have st2:s.heap.IsStrIter it (fE x) x t i:=st;unfold fE at st2;cases ha:x.cps.all (·<128)
   ·rw[ha]at st2
    exact wpAny_pyNext_wide_end (I.ok.hd hc) st2 hn fun h' eb=>⟨rfl,I.turned (t':=s.toks) (fun b o hb e=>eb b o hb e) f0 f1 f3 f4 f5⟩
   ·rw[ha]at st2
    exact wpAny_pyNext_ascii_end (I.ok.hd hc) st2 hn fun h' eb=>⟨rfl,I.turned (t':=s.toks) (fun b o hb e=>eb b o hb e) f0 f1 f3 f4 f5⟩
 self:=fun A i s Q E st h=>by
  have st2:s.heap.IsStrIter it (fE x) x t i:=st;unfold fE at st2;cases ha:x.cps.all (·<128)
  ·rw[ha]at st2;exact wpAny_pyIter_striter_wide st2 h
  ·rw[ha]at st2;exact wpAny_pyIter_striter_ascii st2 h
noncomputable def Ite(K:aa)(a:Addr):It:=
 ⟨fun i H=>∃xs x,SqL K H a xs/\xs[i]? =some x,fun i H v H'=>∃p x,H p=none/\H'=upd H p (.tup [.int i,x])/\v=.ref p/\∀xs,SqL K H a xs->xs[i]? =some x,fun i H=>∃xs,SqL K H a xs/\xs.length<=i⟩
section
variable {X:Cx}{es:List Expr}{kk:Nat}{pp:Pos}
noncomputable def iEnum(K:aa)(tl:TE):TI:=fun σ H R=>tl σ H fun x H1=>∃a,x=.ref a/\(∃xs,SqL K H1 a xs)/\R (Ite K a) H1
end
inductive D where
 |non|bl (b:Bool) |int (i:Int) |str (x:Str) |tup (ds:List D) |lst (ds:List D)
 deriving Inhabited
mutual
noncomputable def Rep(K:aa)(H:Hp):D->V->Prop
 |.non,v=>v=.non
 |.bl b,v=>v=.bl b
 |.int i,v=>v=.int i
 |.str x,v=>v=.str x
 |.tup ds,v=>∃a xs,v=.ref a/\SqT K H a xs/\gL K H ds xs
 |.lst ds,v=>∃a xs,v=.ref a/\SqL K H a xs/\gL K H ds xs
noncomputable def gL(K:aa)(H:Hp):List D->List V->Prop
 | [],xs=>xs=[]
 |d::ds,xs=>∃x r,xs=x::r/\Rep K H d x/\gL K H ds r
end
theorem aN.tup{K:aa}{H H':Hp}{a:Addr}{xs:List V}(e:aN H H')(h:SqT K H a xs):SqT K H' a xs:=by
 rcases h with(h|⟨o,h⟩) |h
 ·exact .inl (.inl (e _ _ h))
 ·exact .inl (.inr ⟨o,e _ _ h⟩)
 ·exact .inr h
theorem gL.length{K:aa}{H:Hp}:∀{ds:List D}{xs:List V},gL K H ds xs->xs.length=ds.length
 | [],_,h=>by rw[show _=[]from h];rfl
 |d::ds,_,h=>by
  obtain⟨x,r,rfl,_,h2⟩:=h;rw[a7,a7,gL.length h2]
theorem gL.at{K:aa}{H:Hp}:∀{ds:List D}{xs:List V}{i:Nat}{d:D},gL K H ds xs->ds[i]? =some d->∃x,xs[i]? =some x/\Rep K H d x
 | [],_,i,d,h,e=>by simp at e
 |d::ds,_,0,d',h,e=>by
  obtain⟨y,r,rfl,h1,h2⟩:=h;simp at e;subst e;exact⟨y,rfl,h1⟩
 |d::ds,_,i+1,d',h,e=>by
  obtain⟨y,r,rfl,h1,h2⟩:=h;obtain⟨x,e',h'⟩:=gL.at (i:=i) h2 (by simpa using e);exact⟨x,by simpa using e',h'⟩
mutual
noncomputable def eqD:D->D->Bool
 |.non,.non=>true
 |.bl a,.bl b=>a==b
 |.bl a,.int b=>(if a then 1 else 0)==b
 |.int a,.bl b=>a==(if b then 1 else 0)
 |.int a,.int b=>a==b
 |.str a,.str b=>a==b
 |.tup a,.tup b=>iX a b
 |.lst a,.lst b=>iX a b
 |_,_=>false
noncomputable def iX:List D->List D->Bool
 | [],[]=>true
 |a::as,b::bs=>eqD a b&&iX as bs
 |_,_=>false
end
mutual
noncomputable def hgt:D->Nat
 |.tup ds=>fV ds+1
 |.lst ds=>fV ds+1
 |_=>0
noncomputable def fV:List D->Nat
 | []=>0
 |d::ds=>max (hgt d) (fV ds)
end
theorem mT:∀{ds:List D}{i:Nat}{d:D},ds[i]? =some d->hgt d<=fV ds
 | [],i,d,e=>by simp at e
 |d::ds,0,d',e=>by simp at e;subst e;simp only[fV];omega
 |d::ds,i+1,d',e=>by
  have :=mT (i:=i) (ds:=ds) (d:=d') (by simpa using e)
  simp only[fV];omega
theorem jR:∀(as bs:List D)(e:Nat->Bool),as.length=bs.length->(∀(i:Nat) a b,as[i]? =some a->bs[i]? =some b->e i=eqD a b)->(aM as.length).all e=iX as bs
 | [],[],e,_,_=>rfl
 |a::as,b::bs,e,hl,h=>by
  rw[a7,List.range_succ_eq_map,vJ,List.all_map];have h0:=h 0 a b rfl rfl;have ih:=jR as bs (fun i=>e (i+1)) (by simpa using hl) fun i x y hx hy=>h (i+1) x y (by simpa using hx) (by simpa using hy);rw[h0];show(eqD a b&&(aM as.length).all (fun i=>e (i+1)))=_;rw[ih,iX]
 | [],b::bs,e,hl,_=>by simp at hl
 |a::as,[],e,hl,_=>by simp at hl
theorem jQ:∀(as bs:List D),as.length≠bs.length->iX as bs=false
 | [],[],h=>absurd rfl h
 |a::as,b::bs,h=>by
  rw[iX,jQ as bs (by simpa using h),fg]
 | [],b::bs,_=>rfl
 |a::as,[],_=>rfl
mutual
theorem pj:∀d:D,eqD d d=true
 |.non=>rfl
 |.bl b=>by simp[eqD]
 |.int i=>by simp[eqD]
 |.str x=>by simp[eqD]
 |.tup ds=>by rw[eqD];exact mV ds
 |.lst ds=>by rw[eqD];exact mV ds
theorem mV:∀ds:List D,iX ds ds=true
 | []=>rfl
 |d::ds=>by rw[iX,pj d,mV ds];rfl
end
section
variable {X:Cx}{pins:List (Addr×Obj)}{σ:St}{H:Hp}{s:Shared}
mutual
theorem Inv.r6(I:Inv X pins σ H s):∀{d d':D}{v:V},Rep X.K H d v->Rep X.K H d' v->d=d'
 |.non,d',v,h,h'=>by
  cases(show v=V.non from h);cases d'<;>first | (obtain⟨_,_,z,_⟩:=h';cases z;done) |rfl| (cases h';done)
 |.bl b,d',v,h,h'=>by
  cases(show v=V.bl b from h);cases d'<;>first | (obtain⟨_,_,z,_⟩:=h';cases z;done) | (cases h';rfl) | (cases h';done)
 |.int b,d',v,h,h'=>by
  cases(show v=V.int b from h);cases d'<;>first | (obtain⟨_,_,z,_⟩:=h';cases z;done) | (cases h';rfl) | (cases h';done)
 |.str b,d',v,h,h'=>by
  cases(show v=V.str b from h);cases d'<;>first | (obtain⟨_,_,z,_⟩:=h';cases z;done) | (cases h';rfl) | (cases h';done)
 |.tup ds,d',v,h,h'=>by
  obtain⟨a,xs,rfl,h1,h2⟩:=h;cases d' with
  |tup ds'=>
   obtain⟨b,ys,e,h1',h2'⟩:=h';cases e;have :=I.qx h1 h1';subst this;rw[Inv.oO I h2 h2']
  |lst ds'=>
   obtain⟨b,ys,e,h1',h2'⟩:=h';cases e;obtain⟨its,_,⟨o,e1,c1,_⟩,_⟩:=I.tuple h1;obtain⟨its',_,⟨o',n,e2,c2,_⟩,_⟩:=I.list h1';rw[e1]at e2;cases e2;rw[c1]at c2;exact absurd c2 (by decide+kernel)
  |_=>cases h'
 |.lst ds,d',v,h,h'=>by
  obtain⟨a,xs,rfl,h1,h2⟩:=h;cases d' with
  |lst ds'=>
   obtain⟨b,ys,e,h1',h2'⟩:=h';cases e;have :=I.uK h1 h1';subst this;rw[Inv.oO I h2 h2']
  |tup ds'=>
   obtain⟨b,ys,e,h1',h2'⟩:=h';cases e;obtain⟨its,_,⟨o,n,e1,c1,_⟩,_⟩:=I.list h1;obtain⟨its',_,⟨o',e2,c2,_⟩,_⟩:=I.tuple h1';rw[e1]at e2;cases e2;rw[c1]at c2;exact absurd c2 (by decide+kernel)
  |_=>cases h'
theorem Inv.oO(I:Inv X pins σ H s):∀{ds ds':List D}{xs:List V},gL X.K H ds xs->gL X.K H ds' xs->ds=ds'
 | [],[],_,_,_=>rfl
 | [],d::ds,xs,h,h'=>by
  obtain⟨x,r,e,_⟩:=h';rw[show xs=[]from h]at e;cases e
 |d::ds,[],xs,h,h'=>by
  obtain⟨x,r,e,_⟩:=h;rw[show xs=[]from h']at e;cases e
 |d::ds,d'::ds',xs,h,h'=>by
  obtain⟨x,r,rfl,h1,h2⟩:=h;obtain⟨y,r',e,h1',h2'⟩:=h';cases e;rw[Inv.r6 I h1 h1',Inv.oO I h2 h2']
end
open PySem.SeqAt
theorem Inv.rcTup(I:Inv X pins σ H s)(A:Around){ds ds':List D}{a b:Addr}{xs ys:List V}(hit:∀(i:Nat)(d d':D)(x y:V)(u u':Value),ds[i]? =some d->ds'[i]? =some d'->Rep X.K H d x->Rep X.K H d' y->RelV x u->RelV y u'->EqAt A.in1 s u u' (eqD d d'))(h1:SqT X.K H a xs)(h2:gL X.K H ds xs)(h1':SqT X.K H b ys)(h2':gL X.K H ds' ys)(hu:A.units<cLine):RcAt A s (.ref a) (.ref b) (iX ds ds'):=by
  obtain⟨its,r,p,_⟩:=I.tuple h1;obtain⟨its',r',p',_⟩:=I.tuple h1';have l1:=h2.length;have l2:=h2'.length;have l3:=r.length;have l4:=r'.length;have key:=RcAt.tuples (e:=fun j=>match ds[j]?,ds'[j]? with |some d,some d'=>eqD d d'|_,_=>false) p p' (A:=A) (by omega) (fun j g1 g2=>by
   have g1':j<its.length:=by simpa using g1
   have g2':j<its'.length:=by simpa using g2
   have e1:ds[j]? =some ds[j]:=ae (by omega);have e2:ds'[j]? =some ds'[j]:=ae (by omega);show EqAt A.in1 s _ _ (match ds[j]?,ds'[j]? with |some d,some d'=>eqD d d'|_,_=>false);rw[e1,e2];obtain⟨x,hx,rx⟩:=h2.at e1;obtain⟨y,hy,ry⟩:=h2'.at e2;obtain⟨u,hu1,ru⟩:=r.get hx;obtain⟨u',hu2,ru'⟩:=r'.get hy;have q1:its.toArray[j]=u:=by have :its[j]? =some its[j]:=ae g1';rw[this]at hu1;simpa using hu1
   have q2:its'.toArray[j]=u':=by have :its'[j]? =some its'[j]:=ae g2';rw[this]at hu2;simpa using hu2
   rw[q1,q2];exact hit j _ _ x y u u' e1 e2 rx ry ru ru')
  have hs:its.toArray.size=ds.length:=by simp;omega
  have hs':its'.toArray.size=ds'.length:=by simp;omega
  rw[hs,hs']at key;by_cases hl:ds.length=ds'.length
  ·have e:((aM (min ds.length ds'.length)).all (fun j=>match ds[j]?,ds'[j]? with |some d,some d'=>eqD d d'|_,_=>false)&&ds.length==ds'.length)=iX ds ds':=by
    rw[<-hl,pJ,beq_self_eq_true,Bool.and_true];refine jR ds ds' _ hl fun i x y hx hy=>?_;simp only[hx,hy]
   rw[e]at key;exact key
  ·have e:((aM (min ds.length ds'.length)).all (fun j=>match ds[j]?,ds'[j]? with |some d,some d'=>eqD d d'|_,_=>false)&&ds.length==ds'.length)=iX ds ds':=by
    rw[jQ ds ds' hl,beq_eq_false_iff_ne.mpr hl,fg]
   rw[e]at key;exact key
theorem Inv.rcLst(I:Inv X pins σ H s)(A:Around){ds ds':List D}{a b:Addr}{xs ys:List V}(hit:∀(i:Nat)(d d':D)(x y:V)(u u':Value),ds[i]? =some d->ds'[i]? =some d'->Rep X.K H d x->Rep X.K H d' y->RelV x u->RelV y u'->EqAt A.in1 s u u' (eqD d d'))(h1:SqL X.K H a xs)(h2:gL X.K H ds xs)(h1':SqL X.K H b ys)(h2':gL X.K H ds' ys)(hu:A.units<cLine):RcAt A s (.ref a) (.ref b) (iX ds ds'):=by
  obtain⟨its,r,p,_⟩:=I.list h1;obtain⟨its',r',p',_⟩:=I.list h1';have l1:=h2.length;have l2:=h2'.length;have l3:=r.length;have l4:=r'.length;by_cases hl:ds.length=ds'.length
  ·have key:=RcAt.lists (e:=fun j=>match ds[j]?,ds'[j]? with |some d,some d'=>eqD d d'|_,_=>false) p.isList p'.isList (A:=A) (by simp;omega) (by omega) (fun j g1 g2=>by
    have g1':j<its.length:=by simpa using g1
    have g2':j<its'.length:=by simpa using g2
    have e1:ds[j]? =some ds[j]:=ae (by omega);have e2:ds'[j]? =some ds'[j]:=ae (by omega);show EqAt A.in1 s _ _ (match ds[j]?,ds'[j]? with |some d,some d'=>eqD d d'|_,_=>false);rw[e1,e2];obtain⟨x,hx,rx⟩:=h2.at e1;obtain⟨y,hy,ry⟩:=h2'.at e2;obtain⟨u,hu1,ru⟩:=r.get hx;obtain⟨u',hu2,ru'⟩:=r'.get hy;have q1:its.toArray[j]=u:=by have :its[j]? =some its[j]:=ae g1';rw[this]at hu1;simpa using hu1
    have q2:its'.toArray[j]=u':=by have :its'[j]? =some its'[j]:=ae g2';rw[this]at hu2;simpa using hu2
    rw[q1,q2];exact hit j _ _ x y u u' e1 e2 rx ry ru ru')
   have hs:its.toArray.size=ds.length:=by simp;omega
   rw[hs,jR ds ds' _ hl fun i x y hx hy=>by simp only[hx,hy]]at key;exact key
  ·have key:=RcAt.lists_lengths p.isList p'.isList (A:=A) (by simp;omega) (by omega)
   rw[jQ ds ds' hl];exact key
theorem Inv.shp(I:Inv X pins σ H s){d:D}{v:V}{u:Value}(h:Rep X.K H d v)(r:RelV v u):(d=.non/\v=.non/\u=.none)\/(∃x,d=.bl x/\v=.bl x/\u=.bool x)\/(∃x t,d=.int x/\v=.int x/\u=.int x t)\/(∃x t,d=.str x/\v=.str x/\u=.str x t)\/(∃ds a xs its,d=.tup ds/\v=.ref a/\u=.ref a/\SqT X.K H a xs/\gL X.K H ds xs/\IsTup s.heap a its)\/∃ds a xs its,d=.lst ds/\v=.ref a/\u=.ref a/\SqL X.K H a xs/\gL X.K H ds xs/\s.heap.IsList a its:=by
 cases d with
 |non=>cases(show v=_ from h);cases r;exact .inl ⟨rfl,rfl,rfl⟩
 |bl x=>cases(show v=_ from h);cases r;exact .inr (.inl ⟨x,rfl,rfl,rfl⟩)
 |int x=>cases(show v=_ from h);obtain⟨t,rfl⟩:=r;exact .inr (.inr (.inl ⟨x,t,rfl,rfl,rfl⟩))
 |str x=>cases(show v=_ from h);obtain⟨t,rfl⟩:=r;exact .inr (.inr (.inr (.inl ⟨x,t,rfl,rfl,rfl⟩)))
 |tup ds=>obtain⟨a,xs,rfl,h1,h2⟩:=id h;cases r;obtain⟨its,_,p,_⟩:=I.tuple h1;exact .inr (.inr (.inr (.inr (.inl ⟨ds,a,xs,_,rfl,rfl,rfl,h1,h2,p⟩))))
 |lst ds=>obtain⟨a,xs,rfl,h1,h2⟩:=id h;cases r;obtain⟨its,_,p,_⟩:=I.list h1;exact .inr (.inr (.inr (.inr (.inr ⟨ds,a,xs,_,rfl,rfl,rfl,h1,h2,p.isList⟩))))
theorem Inv.eqAt1(I:Inv X pins σ H s){n:Nat}(A:Around)(hit:∀(m:Nat)(ds ds':List D)(i:Nat)(d d':D)(x y:V)(u u':Value),n=m+1->fV ds<=m->ds[i]? =some d->ds'[i]? =some d'->Rep X.K H d x->Rep X.K H d' y->RelV x u->RelV y u'->EqAt A.in1 s u u' (eqD d d')):
  ∀(d d':D)(v v':V)(u u':Value),Rep X.K H d v->Rep X.K H d' v'->RelV v u->RelV v' u'->hgt d<=n->A.units+n+1<cLine->EqAt A s u u' (eqD d d'):=by
 intro d d' v v' u u' h h' r r' hn hu;obtain⟨rfl,rfl,rfl⟩ |⟨_,rfl,rfl,rfl⟩ |⟨_,t,rfl,rfl,rfl⟩ |⟨_,t,rfl,rfl,rfl⟩ |⟨ds,a,xs,its,rfl,rfl,rfl,h1,h2,p⟩ |⟨ds,a,xs,its,rfl,rfl,rfl,h1,h2,p⟩:=I.shp h r<;>obtain⟨rfl,rfl,rfl⟩ |⟨_,rfl,rfl,rfl⟩ |⟨_,t',rfl,rfl,rfl⟩ |⟨_,t',rfl,rfl,rfl⟩ |⟨ds',b,ys,its',rfl,rfl,rfl,h1',h2',p'⟩ |⟨ds',b,ys,its',rfl,rfl,rfl,h1',h2',p'⟩:=I.shp h' r'
 ·exact eI r r' rfl rfl
 ·exact eI r r' rfl rfl
 ·exact eI r r' rfl rfl
 ·exact eI r r' rfl rfl
 ·exact EqAt.none_tuple p' (by omega)
 ·exact EqAt.none_list p' (by omega)
 ·exact eI r r' rfl rfl
 ·exact eI r r' rfl rfl
 ·exact eI r r' rfl rfl
 ·exact eI r r' rfl rfl
 ·exact EqAt.bool_tuple _ p' (by omega)
 ·exact EqAt.bool_list _ p' (by omega)
 ·exact eI r r' rfl rfl
 ·exact eI r r' rfl rfl
 ·exact eI r r' rfl rfl
 ·exact eI r r' rfl rfl
 ·exact EqAt.int_tuple _ t p' (by omega)
 ·exact EqAt.int_list _ t p' (by omega)
 ·exact eI r r' rfl rfl
 ·exact eI r r' rfl rfl
 ·exact eI r r' rfl rfl
 ·exact eI r r' rfl rfl
 ·exact EqAt.str_tuple _ t p' (by omega)
 ·exact EqAt.str_list _ t p' (by omega)
 ·exact EqAt.tuple_none p (by omega)
 ·exact EqAt.tuple_bool _ p (by omega)
 ·exact EqAt.tuple_int _ t' p (by omega)
 ·exact EqAt.tuple_str _ t' p (by omega)
 ·rw[hgt]at hn
  by_cases z:a=b
  ·subst z
   have e:=I.r6 h h';rw[<-e,pj];exact EqAt.same _
  ·rw[eqD]
   exact EqAt.of_refs z (Inv.rcTup I A (fun i d d' x y u u' e1 e2 rx ry ru ru'=>hit (n-1) ds ds' i d d' x y u u' (by omega) (by omega) e1 e2 rx ry ru ru') h1 h2 h1' h2' (by omega))
 ·exact EqAt.tuple_list p p' (by omega)
 ·exact EqAt.list_none p (by omega)
 ·exact EqAt.list_bool _ p (by omega)
 ·exact EqAt.list_int _ t' p (by omega)
 ·exact EqAt.list_str _ t' p (by omega)
 ·exact EqAt.list_tuple p p' (by omega)
 ·rw[hgt]at hn
  by_cases z:a=b
  ·subst z
   have e:=I.r6 h h';rw[<-e,pj];exact EqAt.same _
  ·rw[eqD]
   exact EqAt.of_refs z (Inv.rcLst I A (fun i d d' x y u u' e1 e2 rx ry ru ru'=>hit (n-1) ds ds' i d d' x y u u' (by omega) (by omega) e1 e2 rx ry ru ru') h1 h2 h1' h2' (by omega))
theorem Inv.yn(I:Inv X pins σ H s):∀(n:Nat)(A:Around)(d d':D)(v v':V)(u u':Value),Rep X.K H d v->Rep X.K H d' v'->RelV v u->RelV v' u'->hgt d<=n->A.units+n+1<cLine->EqAt A s u u' (eqD d d'):=by
 intro n
 induction n with
 |zero=>exact fun A d d' v v' u u' h h' r r' hn hu=>Inv.eqAt1 I A (fun m ds ds' i d d' x y u u' hm _ _ _ _ _ _ _=>absurd hm (by omega)) d d' v v' u u' h h' r r' hn hu
 |succ n ih=>
  exact fun A d d' v v' u u' h h' r r' hn hu=>Inv.eqAt1 I A (fun m ds ds' i d d' x y u u' hm hd e1 e2 rx ry ru ru'=>ih A.in1 d d' x y u u' rx ry ru ru' (by have :=mT e1;omega) (by show A.units+1+n+1<cLine;omega)) d d' v v' u u' h h' r r' hn hu
end
end L2
namespace L2
open PySem PySem.Spec PyProof.Rows PySem.SeqAt
section
variable {X:Cx}{pins:List (Addr×Obj)}{σ:St}{H:Hp}{s:Shared}
theorem Inv.neTup(I:Inv X pins σ H s)(A:Around){ds ds':List D}{a b:Addr}{xs ys:List V}(hit:∀(i:Nat)(d d':D)(x y:V)(u u':Value),ds[i]? =some d->ds'[i]? =some d'->Rep X.K H d x->Rep X.K H d' y->RelV x u->RelV y u'->EqAt A.in1 s u u' (eqD d d'))
  (h1:SqT X.K H a xs)(h2:gL X.K H ds xs)(h1':SqT X.K H b ys)(h2':gL X.K H ds' ys)(hu:A.units<cLine):RcNeAt A s (.ref a) (.ref b) (!iX ds ds'):=by
 obtain⟨its,r,p,_⟩:=I.tuple h1;obtain⟨its',r',p',_⟩:=I.tuple h1';have l1:=h2.length;have l2:=h2'.length;have l3:=r.length;have l4:=r'.length;have key:=RcNeAt.tuples (e:=fun j=>match ds[j]?,ds'[j]? with |some d,some d'=>eqD d d'|_,_=>false) p p' (A:=A) hu (fun j g1 g2=>by
  have g1':j<its.length:=by simpa using g1
  have g2':j<its'.length:=by simpa using g2
  have e1:ds[j]? =some ds[j]:=ae (by omega);have e2:ds'[j]? =some ds'[j]:=ae (by omega);show EqAt A.in1 s _ _ (match ds[j]?,ds'[j]? with |some d,some d'=>eqD d d'|_,_=>false);rw[e1,e2];obtain⟨x,hx,rx⟩:=h2.at e1;obtain⟨y,hy,ry⟩:=h2'.at e2;obtain⟨u,hu1,ru⟩:=r.get hx;obtain⟨u',hu2,ru'⟩:=r'.get hy;have q1:its.toArray[j]=u:=by have :its[j]? =some its[j]:=ae g1';rw[this]at hu1;simpa using hu1
  have q2:its'.toArray[j]=u':=by have :its'[j]? =some its'[j]:=ae g2';rw[this]at hu2;simpa using hu2
  rw[q1,q2];exact hit j _ _ x y u u' e1 e2 rx ry ru ru')
 have hs:its.toArray.size=ds.length:=by simp;omega
 have hs':its'.toArray.size=ds'.length:=by simp;omega
 rw[hs,hs']at key;have e:((aM (min ds.length ds'.length)).all (fun j=>match ds[j]?,ds'[j]? with |some d,some d'=>eqD d d'|_,_=>false)&&ds.length==ds'.length)=iX ds ds':=by
  by_cases hl:ds.length=ds'.length
  ·rw[<-hl,pJ,beq_self_eq_true,Bool.and_true]
   refine jR ds ds' _ hl fun i x y hx hy=>?_;simp only[hx,hy]
  ·rw[jQ ds ds' hl,beq_eq_false_iff_ne.mpr hl,fg]
 rw[e]at key;exact key
theorem Inv.neLst(I:Inv X pins σ H s)(A:Around){ds ds':List D}{a b:Addr}{xs ys:List V}(hit:∀(i:Nat)(d d':D)(x y:V)(u u':Value),ds[i]? =some d->ds'[i]? =some d'->Rep X.K H d x->Rep X.K H d' y->RelV x u->RelV y u'->EqAt A.in1 s u u' (eqD d d'))
  (h1:SqL X.K H a xs)(h2:gL X.K H ds xs)(h1':SqL X.K H b ys)(h2':gL X.K H ds' ys)(hu:A.units<cLine):RcNeAt A s (.ref a) (.ref b) (!iX ds ds'):=by
 obtain⟨its,r,p,_⟩:=I.list h1;obtain⟨its',r',p',_⟩:=I.list h1';have l1:=h2.length;have l2:=h2'.length;have l3:=r.length;have l4:=r'.length;by_cases hl:ds.length=ds'.length
 ·have key:=RcNeAt.lists (e:=fun j=>match ds[j]?,ds'[j]? with |some d,some d'=>eqD d d'|_,_=>false) p.isList p'.isList (A:=A) (by simp;omega) hu (fun j g1 g2=>by
   have g1':j<its.length:=by simpa using g1
   have g2':j<its'.length:=by simpa using g2
   have e1:ds[j]? =some ds[j]:=ae (by omega);have e2:ds'[j]? =some ds'[j]:=ae (by omega);show EqAt A.in1 s _ _ (match ds[j]?,ds'[j]? with |some d,some d'=>eqD d d'|_,_=>false);rw[e1,e2];obtain⟨x,hx,rx⟩:=h2.at e1;obtain⟨y,hy,ry⟩:=h2'.at e2;obtain⟨u,hu1,ru⟩:=r.get hx;obtain⟨u',hu2,ru'⟩:=r'.get hy;have q1:its.toArray[j]=u:=by have :its[j]? =some its[j]:=ae g1';rw[this]at hu1;simpa using hu1
   have q2:its'.toArray[j]=u':=by have :its'[j]? =some its'[j]:=ae g2';rw[this]at hu2;simpa using hu2
   rw[q1,q2];exact hit j _ _ x y u u' e1 e2 rx ry ru ru')
  have hs:its.toArray.size=ds.length:=by simp;omega
  rw[hs,jR ds ds' _ hl fun i x y hx hy=>by simp only[hx,hy]]at key;exact key
 ·have key:=RcNeAt.lists_lengths p.isList p'.isList (A:=A) (by simp;omega) hu
  rw[jQ ds ds' hl];exact key
theorem Inv.rcD(I:Inv X pins σ H s)(A:Around)(d d':D)(v v':V)(u u':Value)(h:Rep X.K H d v)(h':Rep X.K H d' v')(r:RelV v u)(r':RelV v' u')(hu:A.units+hgt d+1<cLine):RcAt A s u u' (eqD d d'):=by
 obtain⟨rfl,rfl,rfl⟩ |⟨_,rfl,rfl,rfl⟩ |⟨_,t,rfl,rfl,rfl⟩ |⟨_,t,rfl,rfl,rfl⟩ |⟨ds,a,xs,its,rfl,rfl,rfl,h1,h2,p⟩ |⟨ds,a,xs,its,rfl,rfl,rfl,h1,h2,p⟩:=I.shp h r<;>obtain⟨rfl,rfl,rfl⟩ |⟨_,rfl,rfl,rfl⟩ |⟨_,t',rfl,rfl,rfl⟩ |⟨_,t',rfl,rfl,rfl⟩ |⟨ds',b,ys,its',rfl,rfl,rfl,h1',h2',p'⟩ |⟨ds',b,ys,its',rfl,rfl,rfl,h1',h2',p'⟩:=I.shp h' r'
 ·exact RcAt.none_none
 ·exact RcAt.none_bool _
 ·exact RcAt.none_int _ t'
 ·exact RcAt.none_str _ t'
 ·exact RcAt.none_tuple p' (by omega)
 ·exact RcAt.none_list p' (by omega)
 ·exact RcAt.bool_none _
 ·exact RcAt.bool_bool _ _
 ·exact RcAt.bool_int _ _ t'
 ·exact RcAt.bool_str _ _ t'
 ·exact RcAt.bool_tuple _ p' (by omega)
 ·exact RcAt.bool_list _ p' (by omega)
 ·exact RcAt.int_none _ t
 ·exact RcAt.int_bool _ t _
 ·exact RcAt.int_int _ t _ t'
 ·exact RcAt.int_str _ t _ t'
 ·exact RcAt.int_tuple _ t p' (by omega)
 ·exact RcAt.int_list _ t p' (by omega)
 ·exact RcAt.str_none _ t
 ·exact RcAt.str_bool _ t _
 ·exact RcAt.str_int _ t _ t'
 ·exact RcAt.str_str _ t _ t'
 ·exact RcAt.str_tuple _ t p' (by omega)
 ·exact RcAt.str_list _ t p' (by omega)
 ·exact RcAt.tuple_none p (by omega)
 ·exact RcAt.tuple_bool _ p (by omega)
 ·exact RcAt.tuple_int _ t' p (by omega)
 ·exact RcAt.tuple_str _ t' p (by omega)
 ·rw[eqD];exact Inv.rcTup I A (fun i d d' x y u u' e1 e2 rx ry ru ru'=>Inv.yn I (fV ds) A.in1 d d' x y u u' rx ry ru ru' (mT e1) (by rw[hgt]at hu;show A.units+1+fV ds+1<cLine;omega)) h1 h2 h1' h2' (by omega)
 ·exact RcAt.tuple_list p p' (by omega)
 ·exact RcAt.list_none p (by omega)
 ·exact RcAt.list_bool _ p (by omega)
 ·exact RcAt.list_int _ t' p (by omega)
 ·exact RcAt.list_str _ t' p (by omega)
 ·exact RcAt.list_tuple p p' (by omega)
 ·rw[eqD];exact Inv.rcLst I A (fun i d d' x y u u' e1 e2 rx ry ru ru'=>Inv.yn I (fV ds) A.in1 d d' x y u u' rx ry ru ru' (mT e1) (by rw[hgt]at hu;show A.units+1+fV ds+1<cLine;omega)) h1 h2 h1' h2' (by omega)
theorem Inv.rcNeD(I:Inv X pins σ H s)(A:Around)(d d':D)(v v':V)(u u':Value)(h:Rep X.K H d v)(h':Rep X.K H d' v')(r:RelV v u)(r':RelV v' u')(hu:A.units+hgt d+1<cLine):RcNeAt A s u u' (!eqD d d'):=by
 obtain⟨rfl,rfl,rfl⟩ |⟨_,rfl,rfl,rfl⟩ |⟨_,t,rfl,rfl,rfl⟩ |⟨_,t,rfl,rfl,rfl⟩ |⟨ds,a,xs,its,rfl,rfl,rfl,h1,h2,p⟩ |⟨ds,a,xs,its,rfl,rfl,rfl,h1,h2,p⟩:=I.shp h r<;>obtain⟨rfl,rfl,rfl⟩ |⟨_,rfl,rfl,rfl⟩ |⟨_,t',rfl,rfl,rfl⟩ |⟨_,t',rfl,rfl,rfl⟩ |⟨ds',b,ys,its',rfl,rfl,rfl,h1',h2',p'⟩ |⟨ds',b,ys,its',rfl,rfl,rfl,h1',h2',p'⟩:=I.shp h' r'
 ·exact RcNeAt.none_none
 ·exact RcNeAt.none_bool _
 ·exact RcNeAt.none_int _ t'
 ·exact RcNeAt.none_str _ t'
 ·exact RcNeAt.none_tuple p' (by omega)
 ·exact RcNeAt.none_list p' (by omega)
 ·exact RcNeAt.bool_none _
 ·exact RcNeAt.bool_bool _ _
 ·exact RcNeAt.bool_int _ _ t'
 ·exact RcNeAt.bool_str _ _ t'
 ·exact RcNeAt.bool_tuple _ p' (by omega)
 ·exact RcNeAt.bool_list _ p' (by omega)
 ·exact RcNeAt.int_none _ t
 ·exact RcNeAt.int_bool _ t _
 ·exact RcNeAt.int_int _ t _ t'
 ·exact RcNeAt.int_str _ t _ t'
 ·exact RcNeAt.int_tuple _ t p' (by omega)
 ·exact RcNeAt.int_list _ t p' (by omega)
 ·exact RcNeAt.str_none _ t
 ·exact RcNeAt.str_bool _ t _
 ·exact RcNeAt.str_int _ t _ t'
 ·exact RcNeAt.str_str _ t _ t'
 ·exact RcNeAt.str_tuple _ t p' (by omega)
 ·exact RcNeAt.str_list _ t p' (by omega)
 ·exact RcNeAt.tuple_none p (by omega)
 ·exact RcNeAt.tuple_bool _ p (by omega)
 ·exact RcNeAt.tuple_int _ t' p (by omega)
 ·exact RcNeAt.tuple_str _ t' p (by omega)
 ·rw[eqD];exact Inv.neTup I A (fun i d d' x y u u' e1 e2 rx ry ru ru'=>Inv.yn I (fV ds) A.in1 d d' x y u u' rx ry ru ru' (mT e1) (by rw[hgt]at hu;show A.units+1+fV ds+1<cLine;omega)) h1 h2 h1' h2' (by omega)
 ·exact RcNeAt.tuple_list p p' (by omega)
 ·exact RcNeAt.list_none p (by omega)
 ·exact RcNeAt.list_bool _ p (by omega)
 ·exact RcNeAt.list_int _ t' p (by omega)
 ·exact RcNeAt.list_str _ t' p (by omega)
 ·exact RcNeAt.list_tuple p p' (by omega)
 ·rw[eqD];exact Inv.neLst I A (fun i d d' x y u u' e1 e2 rx ry ru ru'=>Inv.yn I (fV ds) A.in1 d d' x y u u' rx ry ru ru' (mT e1) (by rw[hgt]at hu;show A.units+1+fV ds+1<cLine;omega)) h1 h2 h1' h2' (by omega)
noncomputable def rEqD(K:aa):R2:=fun x y H Q=>∃d d',Rep K H d x/\Rep K H d' y/\hgt d<=30/\Q (.bl (eqD d d')) H
noncomputable def rNeD(K:aa):R2:=fun x y H Q=>∃d d',Rep K H d x/\Rep K H d' y/\hgt d<=30/\Q (.bl (!eqD d d')) H
theorem op_eqD(hu:X.A.units+40<cLine):OpR X (cH .Eq) (rEqD X.K):=by
 intro pins s σ H x y v u Q I rx ry h;obtain⟨d,d',h1,h2,hd,q⟩:=h;exact I.rcD X.A d d' x y v u h1 h2 rx ry (by omega) _ _ _ _ (pf I q rfl)
theorem op_neD(hu:X.A.units+40<cLine):OpR X (cH .NotEq) (rNeD X.K):=by
 intro pins s σ H x y v u Q I rx ry h;obtain⟨d,d',h1,h2,hd,q⟩:=h;exact I.rcNeD X.A d d' x y v u h1 h2 rx ry (by omega) _ _ _ _ (pf I q rfl)
end
end L2
namespace Q
open PySem PySem.W PyProof.Rows
noncomputable def run{α:Type}(lt:Nat->Nat->Bool):KasT α->α
 |.ret a=>a
 |.ask i j k=>run lt (k (lt i j))
theorem run_bind{α β:Type}(lt:Nat->Nat->Bool)(f:α->KasT β):∀t:KasT α,run lt (t.bind f)=run lt (f (run lt t))
 |.ret a=>rfl
 |.ask i j k=>run_bind lt f (k (lt i j))
noncomputable def okT{α:Type}(lt:Nat->Nat->Bool)(n:Nat):KasT α->Prop
 |.ret _=>True
 |.ask i j k=>(i<n/\j<n/\i≠j)/\okT lt n (k (lt i j))
theorem j7{α β:Type}{lt:Nat->Nat->Bool}{n:Nat}{f:α->KasT β}:∀{t:KasT α},okT lt n t->okT lt n (f (run lt t))->okT lt n (t.bind f)
 |.ret a,_,h=>h
 |.ask i j k,h,h'=>⟨h.1,j7 h.2 h'⟩
structure Tot(lt:Nat->Nat->Bool)(n:Nat):Prop where
 tri:∀i j,i<n->j<n->i≠j->lt i j= !lt j i
 tr:∀i j k,i<n->j<n->k<n->lt i j=true->lt j k=true->lt i k=true
noncomputable abbrev at'(p:Array Nat)(i:Nat):Nat:=p.getD i 0
theorem yu(p:Array Nat)(i:Nat):at' p i=(p[i]?).getD 0:=by simp[at',bH]
structure Pm(p:Array Nat)(n:Nat):Prop where
 perm:p.Perm (aM n).toArray
theorem Pm.size{p:Array Nat}{n:Nat}(h:Pm p n):p.size=n:=by rw[h.perm.size_eq];simp
theorem Pm.lt{p:Array Nat}{n:Nat}(h:Pm p n){i:Nat}(hi:i<n):at' p i<n:=by
 have hs:i<p.size:=by rw[h.size];exact hi
 have e:at' p i=p[i]:=by simp[at',hs]
 have m:p[i]∈(aM n).toArray:=h.perm.mem_iff.mp (Array.getElem_mem hs);rw[e];simpa using m
theorem Pm.inj{p:Array Nat}{n:Nat}(h:Pm p n){i j:Nat}(hi:i<n)(hj:j<n)(e:at' p i=at' p j):i=j:=by
 have hsi:i<p.size:=by rw[h.size];exact hi
 have hsj:j<p.size:=by rw[h.size];exact hj
 have nd:p.toList.Nodup:=by
  have q:p.toList.Perm (aM n):=by simpa using cn.mp h.perm
  exact q.nodup_iff.mpr jA
 have e1:at' p i=p.toList[i]'(by simpa using hsi):=by simp[at',hsi]
 have e2:at' p j=p.toList[j]'(by simpa using hsj):=by simp[at',hsj]
 rw[e1,e2]at e;exact(du nd).mp e
theorem Cn{p:Array Nat}{i j:Nat}(hj:j<=p.size)(k:Nat):at' (td p i j) k=if i<=k/\k<j then at' p (i+j-1-k)else at' p k:=by
 rw[yu];unfold td;rw[getElem?_mirror_all hj];split <;>rw[yu]
theorem Co{p:Array Nat}{src d:Nat}(hs:src<p.size)(hd:d<=src)(k:Nat):at' (bubble p src d) k=if k=src-d then at' p src else if src-d<k/\k<=src then at' p (k-1)else at' p k:=by
 rw[yu,getElem?_bubble hs d hd];split
 ·simp[at',hs]
 ·split <;>rw[yu]
theorem Pm.rev{p:Array Nat}{n i j:Nat}(h:Pm p n):Pm (td p i j) n:=⟨(mirror_perm _ _ _ _).trans h.perm⟩
theorem Pm.bub{p:Array Nat}{n i j:Nat}(h:Pm p n):Pm (bubble p i j) n:=⟨(bubble_perm _ _ _).trans h.perm⟩
noncomputable def Up(lt:Nat->Nat->Bool)(p:Array Nat)(m:Nat):Prop:=∀i j,i<j->j<m->lt (at' p i) (at' p j)=true
noncomputable def Dn(lt:Nat->Nat->Bool)(p:Array Nat)(m:Nat):Prop:=∀i j,i<j->j<m->lt (at' p j) (at' p i)=true
section
variable {lt:Nat->Nat->Bool}{N:Nat}{p:Array Nat}
theorem Tot.flip(T:Tot lt N)(P:Pm p N){i j:Nat}(hi:i<N)(hj:j<N)(n:i≠j)(h:lt (at' p i) (at' p j)=false):lt (at' p j) (at' p i)=true:=by
 have q:=T.tri _ _ (P.lt hi) (P.lt hj) fun e=>n (P.inj hi hj e);rw[h]at q;simpa using q.symm
theorem Pm.ask{p:Array Nat}(P:Pm p N){i j:Nat}(hi:i<N)(hj:j<N)(n:i≠j):at' p i<N/\at' p j<N/\at' p i≠at' p j:=⟨P.lt hi,P.lt hj,fun e=>n (P.inj hi hj e)⟩
theorem Up.succ(T:Tot lt N)(P:Pm p N){n:Nat}(h1:1<=n)(hn:n<N)(u:Up lt p n)(h:lt (at' p (n-1)) (at' p n)=true):Up lt p (n+1):=by
 intro i j hij hj;by_cases e:j=n
 ·subst e
  by_cases e2:i=j-1
  ·subst e2;exact h
  ·exact T.tr _ _ _ (P.lt (by omega)) (P.lt (by omega)) (P.lt hn) (u i (j-1) (by omega) (by omega)) h
 ·exact u i j hij (by omega)
theorem Dn.succ(T:Tot lt N)(P:Pm p N){n:Nat}(h1:1<=n)(hn:n<N)(u:Dn lt p n)(h:lt (at' p n) (at' p (n-1))=true):Dn lt p (n+1):=by
 intro i j hij hj;by_cases e:j=n
 ·subst e
  by_cases e2:i=j-1
  ·subst e2;exact h
  ·exact T.tr _ _ _ (P.lt hn) (P.lt (by omega)) (P.lt (by omega)) h (u i (j-1) (by omega) (by omega))
 ·exact u i j hij (by omega)
theorem rX(T:Tot lt N)(P:Pm p N):∀(f n:Nat),1<=n->n+f<=N->Up lt p n->∃m,run lt (kas_asc p f n)=m/\n<=m/\m<=n+f/\Up lt p m/\(m=n+f\/lt (at' p m) (at' p (m-1))=true)/\okT lt N (kas_asc p f n)
 | 0,n,h1,h2,u=>⟨n,rfl,aq _,aq _,u,.inl rfl,trivial⟩
 |f+1,n,h1,h2,u=>by
  unfold kas_asc;have hask:=P.ask (i:=n) (j:=n-1) (by omega) (by omega) (by omega);simp only[run,okT];by_cases c:lt (at' p n) (at' p (n-1))=true
  ·rw[if_pos c]
   exact⟨n,rfl,aq _,by omega,u,.inr c,hask,trivial⟩
  ·rw[if_neg c]
   have c':lt (at' p n) (at' p (n-1))=false:=by simpa using c
   obtain⟨m,e,a1,a2,a3,a4,a5⟩:=rX T P f (n+1) (by omega) (by omega) (u.succ T P h1 (by omega) (T.flip P (by omega) (by omega) (by omega) c'));refine⟨m,e,by omega,by omega,a3,?_,hask,a5⟩;rcases a4 with z|z
   ·exact .inl (by omega)
   ·exact .inr z
theorem uc(T:Tot lt N)(P:Pm p N):∀(f n:Nat),1<=n->n+f<=N->Dn lt p n->∃m,run lt (kas_desc f p n 0)=(p,m,0)/\n<=m/\m<=n+f/\Dn lt p m/\okT lt N (kas_desc f p n 0)
 | 0,n,h1,h2,u=>⟨n,rfl,aq _,aq _,u,trivial⟩
 |f+1,n,h1,h2,u=>by
  unfold kas_desc;have hask:=P.ask (i:=n) (j:=n-1) (by omega) (by omega) (by omega);have hask2:=P.ask (i:=n-1) (j:=n) (by omega) (by omega) (by omega);simp only[run,okT];by_cases c:lt (at' p n) (at' p (n-1))=true
  ·rw[if_pos c,if_neg (dq 0)]
   obtain⟨m,e,a1,a2,a3,a4⟩:=uc T P f (n+1) (by omega) (by omega) (u.succ T P h1 (by omega) c);exact⟨m,e,by omega,by omega,a3,hask,a4⟩
  ·rw[if_neg c]
   have c':lt (at' p n) (at' p (n-1))=false:=by simpa using c
   have d:=T.flip P (by omega) (by omega) (by omega) c';simp only[run,okT];rw[if_pos d];exact⟨n,rfl,aq _,by omega,u,hask,hask2,trivial⟩
theorem AV(T:Tot lt N)(P:Pm p N){n:Nat}(h1:1<=n)(hn:n<=N)(u:Dn lt p n):∃m p',run lt (kas_tail3 n N p)=(m,p')/\1<=m/\m<=N/\Up lt p' m/\Pm p' N/\okT lt N (kas_tail3 n N p):=by
 have u':Up lt (td p 0 n) n:=by
  intro i j hij hj;rw[Cn (by rw[P.size];exact hn),Cn (by rw[P.size];exact hn),if_pos ⟨aW _,by omega⟩,if_pos ⟨aW _,hj⟩];exact u _ _ (by omega) (by omega)
 obtain⟨m,e,a1,a2,a3,_,a5⟩:=rX T P.rev (N-n) n h1 (by omega) u';unfold kas_tail3;refine⟨m,td p 0 n,?_,by omega,by omega,a3,P.rev,j7 a5 trivial⟩;rw[run_bind,e];rfl
theorem rW(T:Tot lt N)(P:Pm p N){n:Nat}(hn:n+1<=N)(u:Dn lt p (n+1)):∃m p',run lt (gU n N p)=(m,p')/\1<=m/\m<=N/\Up lt p' m/\Pm p' N/\okT lt N (gU n N p):=by
 obtain⟨m,e,a1,a2,a3,a4⟩:=uc T P (N-(n+1)) (n+1) (by omega) (by omega) u;obtain⟨m2,p2,b1,b2,b3,b4,b5,b6⟩:=AV T P (by omega) (by omega) a3;unfold gU;refine⟨m2,p2,?_,b2,b3,b4,b5,j7 a4 ?_⟩
 ·rw[run_bind,e]
  exact b1
 ·rw[e]
  exact b6
theorem yS(T:Tot lt N)(P:Pm p N)(hN:1<=N):∃m p',run lt (kas_count N p)=(m,p')/\1<=m/\m<=N/\Up lt p' m/\Pm p' N/\okT lt N (kas_count N p):=by
 obtain⟨m,e,a1,a2,a3,a4,a5⟩:=rX T P (N-1) 1 (aq _) (by omega) (fun i j hij hj=>by omega);have hmid:∃m' p',run lt (if(m==N)=true then ow (m,p)else if m>1 then KasT.ask (p.getD 0 0) (p.getD (m-1) 0) fun c=>if c=true then ow (m,p)else gU m N (td p 0 m)else gU m N p)=(m',p')/\1<=m'/\m'<=N/\Up lt p' m'/\Pm p' N/\
   okT lt N (if(m==N)=true then ow (m,p)else if m>1 then KasT.ask (p.getD 0 0) (p.getD (m-1) 0) fun c=>if c=true then ow (m,p)else gU m N (td p 0 m)else gU m N p):=by
  by_cases c:m=N
  ·rw[if_pos (by simpa using c)]
   exact⟨m,p,rfl,a1,by omega,a3,P,trivial⟩
  ·rw[if_neg (by simpa using c)]
   by_cases d:m>1
   ·rw[if_pos d]
    simp only[run,okT];rw[if_pos (a3 0 (m-1) (by omega) (by omega))];exact⟨m,p,rfl,a1,by omega,a3,P,P.ask (by omega) (by omega) (by omega),trivial⟩
   ·rw[if_neg d]
    obtain rfl:m=1:=by omega
    rcases a4 with z|z
    ·omega
    ·exact rW T P (by omega) fun i j hij hj=>by
      obtain rfl:j=1:=by omega
      obtain rfl:i=0:=by omega
      exact z
 obtain⟨m',p',b1,b2,b3,b4,b5,b6⟩:=hmid;unfold kas_count;refine⟨m',p',?_,b2,b3,b4,b5,j7 a5 ?_⟩
 ·rw[run_bind,e]
  exact b1
 ·rw[e]
  exact b6
theorem mK(T:Tot lt N)(P:Pm p N){k:Nat}(hk:k<N)(u:Up lt p k):∀(f l r:Nat),l<=r->r<=k->r-l<=f->(∀i,i<l->lt (at' p i) (at' p k)=true)->(∀i,r<=i->i<k->lt (at' p k) (at' p i)=true)->
  ∃q,run lt (kas_place p k f l r)=q/\q<=k/\(∀i,i<q->lt (at' p i) (at' p k)=true)/\(∀i,q<=i->i<k->lt (at' p k) (at' p i)=true)/\okT lt N (kas_place p k f l r)
 | 0,l,r,h1,h2,h3,a,b=>⟨l,rfl,by omega,a,fun i hi=>b i (by omega),trivial⟩
 |f+1,l,r,h1,h2,h3,a,b=>by
  unfold kas_place;by_cases c:l≥ r
  ·rw[if_pos c]
   exact⟨l,rfl,by omega,a,fun i hi=>b i (by omega),trivial⟩
  ·rw[if_neg c]
   have hask:=P.ask (i:=k) (j:=(l+r)/2) hk (by omega) (by omega);simp only[run,okT];by_cases d:lt (at' p k) (at' p ((l+r)/2))=true
   ·rw[if_pos d]
    have key:=mK T P hk u f l ((l+r)/2) (by omega) (by omega) (by omega) a fun i hi hik=>?_;obtain⟨q,y1,y2,y3,y4,y5⟩:=key;exact⟨q,y1,y2,y3,y4,hask,y5⟩;by_cases e:i=(l+r)/2
    ·rw[e];exact d
    ·exact T.tr _ _ _ (P.lt hk) (P.lt (by omega)) (P.lt (by omega)) d (u _ _ (by omega) hik)
   ·rw[if_neg d]
    have d':=T.flip P hk (by omega:(l+r)/2<N) (by omega) (by simpa using d);have key:=mK T P hk u f ((l+r)/2+1) r (by omega) h2 (by omega) (fun i hi=>?_) b;obtain⟨q,y1,y2,y3,y4,y5⟩:=key;exact⟨q,y1,y2,y3,y4,hask,y5⟩;by_cases e:i=(l+r)/2
    ·rw[e];exact d'
    ·exact T.tr _ _ _ (P.lt (by omega)) (P.lt (by omega)) (P.lt hk) (u _ _ (by omega) (by omega)) d'
end
theorem xG{lt:Nat->Nat->Bool}{N:Nat}(T:Tot lt N):∀(f k:Nat)(p:Array Nat),Pm p N->k+f=N->Up lt p k->∃p',run lt (kas_bin f p k)=p'/\Up lt p' N/\Pm p' N/\okT lt N (kas_bin f p k)
 | 0,k,p,P,h,u=>⟨p,rfl,by rw[<-h];exact u,P,trivial⟩
 |f+1,k,p,P,h,u=>by
  have hk:k<N:=by omega
  obtain⟨q,e,hq,a,b,okp⟩:=mK T P hk u k 0 k (aW _) (aq _) (by omega) (fun i hi=>absurd hi (fN _)) fun i h1 h2=>by omega
  have key:=xG T f (k+1) (bubble p k (k-q)) P.bub (by omega) fun i j hij hj=>?_;obtain⟨p',y1,y2,y3,y4⟩:=key;unfold kas_bin;refine⟨p',?_,y2,y3,j7 okp ?_⟩
  ·rw[run_bind,e]
   exact y1
  ·rw[e]
   exact y4
  have hs:k<p.size:=by rw[P.size];exact hk
  rw[Co hs (by omega),Co hs (by omega)];have eq:k-(k-q)=q:=by omega
  rw[eq];by_cases c1:i=q
  ·rw[if_pos c1,if_neg (by omega),if_pos (by omega)]
   exact b _ (by omega) (by omega)
  ·rw[if_neg c1]
   by_cases c2:j=q
   ·rw[if_pos c2,if_neg (by omega)]
    exact a i (by omega)
   ·rw[if_neg c2]
    by_cases c3:q<i
    ·rw[if_pos (by omega),if_pos (by omega)]
     exact u _ _ (by omega) (by omega)
    ·rw[if_neg (by omega)]
     by_cases c4:q<j
     ·rw[if_pos (by omega)]
      exact u _ _ (by omega) (by omega)
     ·rw[if_neg (by omega)]
      exact u _ _ (by omega) (by omega)
theorem gm{lt:Nat->Nat->Bool}{N:Nat}(T:Tot lt N)(hN:1<=N):Pm (run lt (bw N)) N/\Up lt (run lt (bw N)) N/\okT lt N (bw N):=by
 have P0:Pm (cS (aM N)) N:=⟨gD _⟩;obtain⟨m,p',e,a1,a2,a3,a4,a5⟩:=yS T P0 hN;have hm:max m 1=m:=by omega
 have hmid:∃p2,run lt (if m<N then kas_bin (N-max m 1) p' (max m 1)else ow p')=p2/\Up lt p2 N/\Pm p2 N/\okT lt N (if m<N then kas_bin (N-max m 1) p' (max m 1)else ow p'):=by
  rw[hm];by_cases c:m<N
  ·rw[if_pos c]
   exact xG T (N-m) m p' a4 (by omega) a3
  ·rw[if_neg c]
   have e2:m=N:=by omega
   exact⟨p',rfl,by rw[<-e2];exact a3,a4,trivial⟩
 obtain⟨p2,b1,b2,b3,b4⟩:=hmid;have er:run lt (bw N)=p2:=by
  unfold bw;rw[run_bind,e];exact b1
 rw[er];refine⟨b3,b2,?_⟩;unfold bw;refine j7 a5 ?_;rw[e];exact b4
theorem wp_run{lt:Nat->Nat->Bool}{N:Nat}{S:Shared->Prop}{cmp:Nat->Nat->(Bool->Shared->Prop)->Shared->Prop}{α:Type}{G:α->Shared->Prop}
  (h:∀i j C s,i<N->j<N->i≠j->S s->(∀s',S s'->C (lt i j) s')->cmp i j C s):
  ∀(t:KasT α)(s:Shared),okT lt N t->S s->(∀s',S s'->G (run lt t) s')->t.kasWp cmp G s
 |.ret a,s,_,hs,g=>g s hs
 |.ask i j k,s,ok,hs,g=>h i j _ s ok.1.1 ok.1.2.1 ok.1.2.2 hs fun s' hs'=>wp_run h (k (lt i j)) s' ok.2 hs' g
end Q
namespace L2
open PySem PySem.Spec PyProof.Rows
structure Fly(h₀ h:Heap)(H:Hp)(pn:List (Addr×Obj))(a:Addr)(c:Value)(d:Option Addr):Prop where
 ex:∃T oe vs oT ts,h.get? a=some oe/\oe.cls=c/\oe.dict=d/\oe.data=.fields vs/\vs[1]? =some (.ref T)/\T≠a/\h.get? T=some oT/\oT.data=.fields ts/\ts[3]? =some .none/\h₀.get? T=none/\H T=none/\∀p∈pn,p.1≠T
 new:h₀.get? a=none
 un:H a=none
 pins:∀p∈pn,p.1≠a
noncomputable def CXx(P:Program)(w:World):CXT:=fun outer H s E e s'=>
 ∃a c d H',e=.ref a/\s'.os=s.os/\kB s'.gens/\Un (frs outer) [] H H' s.heap s'.heap/\HOk P w H' s'.heap/\Fly s.heap s'.heap H' [] a c d/\E c d H'
section
variable {X:Cx}{pins:List (Addr×Obj)}{σ:St}{H:Hp}{s:Shared}
theorem Inv.nZ{h':Heap}{t':Nat}{it:Addr}(I:Inv X pins σ H s)(k:∀b o,b≠it->s.heap.get? b=some o->h'.get? b=some o)(hn:H it=none)(hL:it≠X.env.locals)
  (h1:X.s₀.heap.get? it=none)(h2:∀x c,X.env.cells.lookup x=some c->c≠it)(h3:∀p∈X.pn++pins,p.1≠it):Inv X pins σ H {s with heap:=h',toks:=t'}:=by
 have ne0:∀b o,X.s₀.heap.get? b=some o->b≠it:=fun b o e z=>by rw[z,h1]at e;cases e
 have nit:∀b u,H b=some u->b≠it:=fun b u e z=>by rw[z,hn]at e;cases e
 refine⟨I.ok,I.os,I.bare,⟨fun b o e n hb hx=>k b o (ne0 b o e) (I.base.keep b o e n hb hx),fun b o e n hb hx=>?_,I.base.free,fun b o e hx=>?_,I.base.tups,I.base.frzs,I.base.tbls⟩,?_,fun x c e=>?_,I.free,I.freeC,fun p hp=>?_,fun b u e=>?_,I.len⟩
 ·obtain⟨sl,q⟩:=I.base.slot b o e n hb hx
  exact⟨sl,k _ _ (ne0 b o e) q⟩
 ·obtain⟨o',q⟩:=I.base.there b o e hx
  exact⟨o',k _ _ (ne0 b o e) q⟩
 ·obtain⟨m,⟨o,es,ep,ho,r⟩,hl⟩:=I.loc
  refine⟨m,⟨o,es,ep,k _ _ (dD hL) ho,r⟩,fun i x v e1 e2 e3=>?_⟩;obtain⟨u,ru,l⟩:=hl i x v e1 e2 e3;refine⟨u,ru,?_⟩;rcases l with l|⟨kk,c,e,oc,q,dd⟩
  ·exact .inl l
  ·exact .inr ⟨kk,c,e,oc,k _ _ (h2 x c e) q,dd⟩
 ·obtain⟨v,oc,q,dd⟩:=I.cell x c e
  exact⟨v,oc,k _ _ (h2 x c e) q,dd⟩
 ·obtain⟨e,n,ne,nf,d⟩:=I.pin p hp
  exact⟨k _ _ (h3 p hp) e,n,ne,nf,d⟩
 ·refine(I.hok b u e).oH (fun c v hc q=>k c v ?_ q) (fun _ q=>q) fun _ _ q=>q
  rcases hc with z|z
  ·rw[z];exact nit b u e
  ·exact nit c _ z
theorem Inv.oP(I:Inv X pins σ H s){a:Addr}{o:Obj}{vs:Array Value}(e:s.heap.get? a=some o)(hd:o.data=.fields vs):a≠X.env.locals/\∀x c,X.env.cells.lookup x=some c->c≠a:=by
 refine⟨fun z=>?_,fun x c hc z=>?_⟩
 ·obtain⟨m,⟨o',es,ep,ho',hd',_⟩,_⟩:=I.loc
  rw[<-z,e]at ho';cases ho';rw[hd]at hd';cases hd'
 ·obtain⟨v,o',ho',hd'⟩:=I.cell x c hc
  rw[z,e]at ho';cases ho';rw[hd]at hd';cases hd'
theorem dN.has{P:Program}{w:World}{H:Hp}{h:Heap}{a:Addr}{o:HO}(x:dN P w H h a o):∃ob,h.get? a=some ob:=by
 cases o with
 |lst xs=>obtain⟨_,_,_,_,e⟩:=x;exact⟨_,e⟩
 |tup xs=>obtain⟨_,_,_,_,e,_⟩:=x;exact⟨_,e⟩
 |dK kvs=>obtain⟨_,_,_,_,o,_,_,e,_⟩:=x;exact⟨_,e⟩
 |dT kvs=>obtain⟨_,_,_,_,o,_,_,e,_⟩:=x;exact⟨_,e⟩
 |set S n=>obtain⟨o,_,_,_,e,_⟩:=x;exact⟨_,e⟩
 |ins C dx fs=>obtain⟨_,_,_,e,_⟩:=x;exact⟨_,e⟩
 |own y=>exact x
 |xd fs=>obtain⟨_,⟨_,_,_,e,_⟩,_⟩:=x;exact⟨_,e⟩
 |rng lo hi=>obtain⟨_,_,_,e⟩:=x;exact⟨_,e⟩
 |frz ob u=>obtain⟨e,_⟩:=x;exact⟨_,e⟩
 |tbl ps=>exact⟨_,x⟩
 |met f y=>exact⟨_,x⟩
 |ext φ=>exact x.2.1
section
variable {M:Model}{E:Value->Shared->Prop}{Q:Unit->Shared->Prop}
theorem enter{a:Addr}{oe:Obj}{vs:Array Value}{head:Value}{more:Bool}(I:Inv X pins σ H s)(stk:X.stack=X.env::X.outer)(hf:X.env.frame=some X.env.locals)
  (he:s.heap.get? a=some oe)(hd:oe.data=.fields vs)(hsz:1<vs.size)(h0:X.s₀.heap.get? a=none)(hH:H a=none)(hp:∀p∈X.pn++pins,p.1≠a)
  (h:∀s2,Inv X pins σ H s2->Fly X.s₀.heap s2.heap H (X.pn++pins) a oe.cls oe.dict->Q () s2):
  wpAny M X.A (do let f<-frameOf X.env;let l<-entryPlaceOf X.env.locals more;let b<-vA head f .none (rawInt X.env.locals) .none l;setField (.ref a) 1 b)
   (fun _ s'=>wpAny M X.A (vv (.ref a) none) Q E s') E s:=by
 have hfr:X.A.frames=some (X.env::X.outer):=by rw[<-stk];exact I.ok.frames
 have hl:s.heap.FunFrames X.base (X.env::X.outer):=by rw[<-stk];exact I.stack
 have nofr:∀b∈frs X.stack,H b=none:=I.rP;refine af (wpAny_frameOf_fun hfr hl hf fun h1 hs=>?_);have hs':Heap.SlotsOnly (frs X.stack) s.heap h1:=by rw[stk];exact hs
 have hane:a∉frs X.stack:=fun hm=>by
  rw[stk]at hm;obtain⟨_,o,ho,hnf⟩:=hl.mem hm;rw[he]at ho;cases ho;exact hnf vs hd
 have u1:Un (frs X.stack) [] H H s.heap h1:=
  ⟨fun b o e _ hb _=>(hs'.2.1 b hb).trans e,fun b o e _ _ _=>hs'.2.2 b o e,fun _ _ _ n _=>n,fun b o e _=>let⟨sl,q⟩:=hs'.2.2 b o e;⟨_,q⟩,fun _ _ q=>q,fun _ _ _ q=>q,fun _ ps q=>⟨#[],by rw[q];simp⟩⟩
 have k1:HOk X.prog X.w H h1:=fun b u e=>by
  refine(I.hok b u e).oH (fun c v hc q=>(hs'.2.1 c fun hm=>?_).trans q) (fun _ q=>q) fun _ _ q=>q;have n:=nofr c hm;rcases hc with z|z
  ·rw[z,e]at n;cases n
  ·rw[z]at n;cases n
 have I1:Inv X pins σ H {s with heap:=h1}:=I.call (g':=s.gens) (t':=s.toks) (d':=s.drawn) (ch:=[]) u1 k1 I.bare fun _ z=>nomatch z;have he1:h1.get? a=some oe:=(hs'.2.1 a hane).trans he;refine af (wpAny_entryPlaceOf fun pl hpl=>?_);unfold vA newFields;refine af (fk ?_ (hpl.sizeOk5 _ _ _ _ _));generalize hob:({cls:=.type "traceback",dict:=none,data:=.fields ([head,.ref X.env.locals,.none,rawInt X.env.locals,.none]++(if pl.isEmpty then gc 6 ck else pl)).toArray}:Obj)=ob;have hodata:ob.data=.fields ([head,.ref X.env.locals,.none,rawInt X.env.locals,.none]++(if pl.isEmpty then gc 6 ck else pl)).toArray:=by rw[<-hob]
 have hofree:ob.isFreed=false:=by rw[<-hob];rfl
 have I2:Inv X pins σ H {s with heap:=h1.push ob}:=I1.kept (t':=s.toks) fun b o e=>ag _ e;have he2:(h1.push ob).get? a=some oe:=ag _ he1;have hT2:(h1.push ob).get? h1.objs.size=some ob:=aK _ hofree;have hTa:h1.objs.size≠a:=iP (ay he1);have hd3:=fQ hd (·.setIfInBounds 1 (cu h1.objs.size));refine wpAny_setField he2 hd hsz ?_;obtain⟨ra1,ra2⟩:=I.oP he hd;have I3:Inv X pins σ H {s with heap:=(h1.push ob).update a (dX (·.setIfInBounds 1 (.ref h1.objs.size)))}:=
  I2.nZ (t':=s.toks) (fun b o hb e=>by rw[bb _ _ (dD hb)];exact e) hH ra1 h0 ra2 hp
 have he3:=kX (dX (·.setIfInBounds 1 (cu h1.objs.size))) he2 (lF hd3);have hT3:((h1.push ob).update a (dX (·.setIfInBounds 1 (cu h1.objs.size)))).get? h1.objs.size=some ob:=by
  rw[bb _ _ (dD hTa)];exact hT2
 have hszT:3<([head,.ref X.env.locals,.none,rawInt X.env.locals,.none]++(if pl.isEmpty then gc 6 ck else pl)).toArray.size:=by
  simp only[av,ai,a7,fL];omega
 have hv1:(vs.setIfInBounds 1 (cu h1.objs.size))[1]? =some (.ref h1.objs.size):=by simp[hsz]
 refine wpAny_setFlight_none he3 hd3 hv1 hT3 hodata hszT ?_;have hTle:s.heap.objs.size<=h1.objs.size:=zQ hs.1.symm;have hT0:X.s₀.heap.get? h1.objs.size=none:=zZ (aI I.sz hTle);have hTH:H h1.objs.size=none:=I.hok.fresh hTle;obtain⟨rt1,rt2⟩:=I3.oP hT3 hodata;have hpT:∀p∈X.pn++pins,p.1≠h1.objs.size:=fun p hq z=>by
  have q:=ay (I.pin p hq).1;exact absurd (aS (z▸q) hTle) (dq _)
 have I4:=I3.nZ (t':=s.toks) (h':=((h1.push ob).update a (dX (·.setIfInBounds 1 (.ref h1.objs.size)))).update h1.objs.size (dX (·.setIfInBounds 3 .none)))
  (fun b o hb e=>by rw[bb _ _ (dD hb)];exact e) hTH rt1 hT0 rt2 hpT
 refine h _ I4 ⟨⟨h1.objs.size,_,_,_,_,?_,Obj.cls_mapFields _ _,?_,hd3,hv1,hTa,kX _ hT3 (lF (fQ hodata _)),fQ hodata _,?_,hT0,hTH,hpT⟩,h0,hH,hp⟩
 ·show(Heap.update _ _ _).get? a=_
  rw[bb _ _ hTa];exact he3
 ·obtain⟨c',d',dt',sl'⟩:=oe
  cases dt'<;>rfl
 ·rw[kY hszT]
theorem uz{a:Addr}{c:Value}{args:List Value}{h':Heap}(I:Inv X pins σ H s)(stk:X.stack=X.env::X.outer)(hf:X.env.frame=some X.env.locals)(hx:X.ex=[])(hm:lJ s.heap h' a c args)
  (h:∀s2,Inv X pins σ H s2->Fly X.s₀.heap s2.heap H (X.pn++pins) a c none->Q () s2):
  wpAny M X.A (jm (.ref a) X.env) (fun _ s'=>wpAny M X.A (vv (.ref a) none) Q E s') E {s with heap:=h'}:=by
 obtain⟨t,ht,_,_⟩:=hm.there;have I1:Inv X pins σ H {s with heap:=h'}:=I.kept (t':=s.toks) hm.keeps;have hH:H a=none:=by
  cases q:H a with
  |none=>rfl
  |some o=>
   obtain⟨ob,e⟩:=(I.hok a o q).has;rw[hm.new]at e;cases e
 unfold jm;simp only[hf];refine af (iN (x:=.none) ht rfl (by rfl) ?_);rw[if_neg (show ¬(ck != ck)=true by simp)];have h0:X.s₀.heap.get? a=none:=by
  cases q:X.s₀.heap.get? a with
  |none=>rfl
  |some o=>
   obtain⟨o',e⟩:=I.base.there a o q (by rw[hx];simp);rw[hm.new]at e;cases e
 exact enter I1 stk hf ht rfl (by simp) h0 hH (fun p hp z=>by have :=(I.pin p hp).1;rw[z,hm.new]at this;cases this) h
theorem uA{a:Addr}{c:Value}{d:Option Addr}{H':Hp}{s':Shared}(I:Inv X pins σ H s)(stk:X.stack=X.env::X.outer)(hf:X.env.frame=some X.env.locals)(hx:X.ex=[])(ho:s'.os=s.os)(hg:kB s'.gens)(u:Un (frs X.stack) [] H H' s.heap s'.heap)(ok:HOk X.prog X.w H' s'.heap)
  (F:Fly s.heap s'.heap H' [] a c d)(h:∀s2,Inv X pins σ H' s2->Fly X.s₀.heap s2.heap H' (X.pn++pins) a c d->Q () s2):
  wpAny M X.A (jm (.ref a) X.env) (fun _ s'=>wpAny M X.A (vv (.ref a) none) Q E s') E s':=by
 obtain⟨⟨T,oe,vs,oT,ts,he,rfl,rfl,hd,h1,hTa,hT,hdT,h3,hnT,hHT,_⟩,hna,hHa,_⟩:=F;have I1:Inv X pins σ H' s':=I.call' (ch:=[]) ho u ok hg fun _ z=>nomatch z;have back:∀b,s.heap.get? b=none->X.s₀.heap.get? b=none:=fun b n=>by
  cases q:X.s₀.heap.get? b with
  |none=>rfl
  |some o=>
   obtain⟨o',e⟩:=I.base.there b o q (by rw[hx];simp);rw[n]at e;cases e
 have np:∀b,s.heap.get? b=none->∀p∈X.pn++pins,p.1≠b:=fun b n p hp z=>by have :=(I.pin p hp).1;rw[z,n]at this;cases this
 unfold jm;simp only[hf];refine af (iN he hd h1 ?_);rw[if_pos (show(cu T != ck)=true by simp)];refine af (iN hT hdT h3 ?_);rw[if_neg (show ¬(ck==rawInt X.env.locals)=true by simp[rawInt])];refine af (wpAny_setField hT hdT (cI.mp h3).1 ?_);obtain⟨rt1,rt2⟩:=I1.oP hT hdT;have I2:=I1.nZ (t':=s'.toks) (h':=s'.heap.update T (dX (·.setIfInBounds 3 .none))) (fun b o hb e=>by rw[bb _ _ (dD hb)];exact e) hHT rt1 (back T hnT) rt2 (np T hnT);have he2:(s'.heap.update T (dX (·.setIfInBounds 3 .none))).get? a=some oe:=by rw[bb _ _ hTa];exact he
 exact enter I2 stk hf he2 hd (cI.mp h1).1 (back a hna) hHa (np a hna) h
end
end
end L2
namespace L2
open PySem PySem.Spec PySem.W PyProof.Rows
noncomputable def jP(K:aa)(C:Addr):Bool:=
 findIn K (.ref C) "__getattribute__"==some (some (.builtin "BaseException.__getattribute__"))&&findIn K (.ref C) "__getattr__"==some none&&
 findIn K (.ref C) "__class__"==some (some (.builtin "object.__class__"))&&specialIn K (.builtin "object.__class__") "__get__"==some (some (.builtin "getset_descriptor.__get__"))&&
 takesIn K (.builtin "object.__class__")==some true&&mroIn K C (.type "object")==some true&&mroIn K C (.type "BaseException")==some true&&(clsIn K C).isSome
structure vq(K:aa)(C:Addr):Prop where
 ga:findIn K (.ref C) "__getattribute__"=some (some (.builtin "BaseException.__getattribute__"))
 hook:findIn K (.ref C) "__getattr__"=some none
 cl:findIn K (.ref C) "__class__"=some (some (.builtin "object.__class__"))
 get:specialIn K (.builtin "object.__class__") "__get__"=some (some (.builtin "getset_descriptor.__get__"))
 tk:takesIn K (.builtin "object.__class__")=some true
 obj:mroIn K C (.type "object")=some true
 bex:mroIn K C (.type "BaseException")=some true
 isc:(clsIn K C).isSome=true
theorem BY{K:aa}{C:Addr}(h:jP K C=true):vq K C:=by
 unfold jP at h;simp only[aw,beq_iff_eq]at h;obtain⟨⟨⟨⟨⟨⟨⟨a,b⟩,c⟩,d⟩,e⟩,f⟩,g⟩,i⟩:=h;exact⟨a,b,c,d,e,f,g,i⟩
theorem wa:splitId "BaseException.__getattribute__"=some ("BaseException","__getattribute__"):=by decide+kernel
theorem zi:builtinKind "BaseException.__getattribute__"=some .slot:=by decide+kernel
theorem ga_ne:(mE "BaseException.__getattribute__"==mE "object.__getattribute__")=false:=by decide+kernel
section
variable {prog:Program}{w:World}{A:Around}{E:Value->Shared->Prop}{s:Shared}{K:aa}{a C:Addr}{o:Obj}{od:Option Obj}
theorem xo{M:Model}{nameV:Value}{Q:Unit->Shared->Prop}{h:Heap}{g:Array zS}{d:Drawn}{t:Nat}{os:OsState}(kin:K.In h)(J:InstAt h a o C od)(F:vq K C)(hq:Q () ⟨h,g,d,t,os⟩):
  wpAny M A (vy "BaseException.__getattribute__" ⟨[.ref a,nameV],[]⟩) Q E ⟨h,g,d,t,os⟩:=by
 have L0:=J.type (M:=M);have L4:=looks_mroIn (M:=M) kin F.bex;have ha:=PySem.F.args_bexc_ga (.ref a) nameV;simp only[vy,zi,wa];unfold isInstance;repeat(first |lk|wp_step)
 exact hq
theorem zD{tk:Tok}{R:Result->Shared->Prop}(kin:K.In s.heap)(J:InstAt s.heap a o C od)(F:vq K C)(h:R (.ok (.ret (.ref C))) s):
  mw (model prog w) A (.call (.builtin "BaseException.__getattribute__") ⟨[.ref a,.str "__class__" tk],[]⟩) R s:=by
 have hf:findObj K C od "__class__"=some (.bind (.builtin "getset_descriptor.__get__") (.builtin "object.__class__")):=by
  obtain⟨cd,hc⟩:=bW.mp F.isc;unfold findObj;rw[hc,jo,F.cl,jo];simp[F.get,F.tk]
 obtain⟨hh,g,d,t,os⟩:=s;have L0:=J.type (M:=model prog w);have L3:=looks_find (M:=model prog w) kin J hf;refine codeAny_call_builtin pO.ga.plain PySem.F.entry_bexc_ga (xo kin J F ?_);unfold Builtin.«object.__getattribute__»;repeat(first |with_reducible refine qm ?_ |lk|wp_step)
 refine class_get (s:=⟨hh,g,d,t,os⟩) kin J F.obj ?_;repeat(first |lk|wp_step)
 exact h
theorem zt{Q:Option Value->Shared->Prop}(kin:K.In s.heap)(J:InstAt s.heap a o C od)(F:vq K C)(h:Q (some (.ref C)) {s with toks:=s.toks+1}):
  wpAny (model prog w) A (getAttr? (.ref a) "__class__") Q E s:=by
 obtain⟨hh,g,d,t,os⟩:=s;have L0:=J.type (M:=model prog w);have L1:=looks_findIn (M:=model prog w) kin F.ga;have L2:=looks_findIn (M:=model prog w) kin F.hook;have hf:findObj K C od "__class__"=some (.bind (.builtin "getset_descriptor.__get__") (.builtin "object.__class__")):=by
  obtain⟨cd,hc⟩:=bW.mp F.isc;unfold findObj;rw[hc,jo,F.cl,jo];simp[F.get,F.tk]
 have L3:=looks_find (M:=model prog w) kin J hf;have L4:=looks_mroIn (M:=model prog w) kin F.bex;unfold getAttr? getAttrBy? getAttrBy;refine af (wpAny_mkText (af (pN (cZ (af (L0.at (af (L1.at ?_))))))));show wpAny _ _ (if(onTheHeap (.ref C)&&(mE "BaseException.__getattribute__"==mE "object.__getattribute__"))=true then _ else _) _ _ _;rw[ga_ne,fg,if_neg au];unfold getAttrByItsOwn hookBefore;rw[if_pos (show onTheHeap (.ref C)=true from rfl)];refine af (L2.at ?_);unfold callGetattribute boundAndCalled;rw[bY,if_neg au];refine af (pN (cZ (af ?_)));rw[pO.ga.bind (.ref a)];refine ak (qm (zD (s:=⟨hh,g,d,t+1,os⟩) kin J F ?_));exact handed_on rfl (ak h)
end
abbrev bmV:List Value:=[.type "ValueError",.type "Exception",.type "BaseException",.type "object"]
noncomputable def vc(a:Addr)(c:Value)(d:Option Addr):HO:=.ext fun h=>∃o,h.get? a=some o/\o.cls=c/\o.dict=d/\notCls o=true
noncomputable abbrev B0(a:Addr)(c:Value):HO:=vc a c none
section
variable {K:aa}{a C:Addr}
theorem BK(F:vq K C):KitX K (.ref a) (.ref C) (fun h=>∃o od,InstAt h a o C od) where
 ty:=fun M h _ p=>by obtain⟨o,od,J⟩:=p;exact J.type
 it:=fun M h kin _=>by
  obtain⟨cd,hc⟩:=bW.mp F.isc;unfold clsIn at hc;split at hc
  ·rename_i ho
   intro A Q E s k q;unfold isType loadHead;exact af (wpAny_loadPart (k _ _ (kin _ _ ho)) (ak q))
  ·cases hc
 ne:=fun h tp dd its n sl kin htp=>by
  obtain⟨cd,hc⟩:=bW.mp F.isc;refine eU.mpr fun q=>?_;obtain rfl:C=tp:=cu.inj (beq_iff_eq.mp q);unfold clsIn at hc;split at hc
  ·rename_i ho
   have z:=(kin _ _ ho).symm.trans htp;cases z
  ·cases hc
 ca:=fun kin p k=>by obtain⟨o,od,J⟩:=p;exact zt kin J F k
theorem zu{P:Program}{w:World}{H:Hp}{h:Heap}(ok:HOk P w H h)(e:H a=some (B0 a (.ref C))):∃o od,InstAt h a o C od:=by
 obtain⟨⟨o,e1,e2,e3,e4⟩,_⟩:=ok a _ e;exact⟨o,none,e1,e2,e4,by rw[e3];exact True.intro⟩
end
section
variable {X:Cx}
theorem me:eK X (.builtin "isinstance") (fun xs H Q=>∃a C y cv b,xs=[.ref a,y]/\H a=some (B0 a (.ref C))/\jP X.K C=true/\((∃T,y=.ty T/\cv=m8 T)\/(∃D,y=.ref D/\cv=cu D))/\kitOne X.K (.ref C) cv=some b/\Q (.bl b) H):=by
 intro pins s σ H xs us Q I rv h;obtain⟨a,C,y,cv,b,rfl,ea,ok,hy,e,q⟩:=h;obtain⟨u,c,rfl,ru,rc⟩:=rv.two;obtain rfl:u=cu a:=ru;have hc:c=cv:=by
  rcases hy with⟨T,rfl,rfl⟩ |⟨D,rfl,rfl⟩
  ·cases rc;rfl
  ·cases rc;rfl
 subst hc;exact kia_one (BK (BY ok)) I.kIn (zu I.hok ea) e (fun z=>nomatch z) fun tk=>⟨.bl b,H,I.tok tk,rfl,q⟩
theorem exc_obj{K:aa}{h:Heap}{C:Addr}{bmB:List Value}{newId:String}(kin:K.In h)(q:excIn K C bmB newId=true):
  ∃nm qn N bs bm hd sn sub ab col dd k0 k1 k2 k3 k5 mN,h.get? C=some (excClassObj nm qn C N bs bm hd sn sub ab col dd k0 k1 k2 k3 k5 newId)/\h.Ns N mN/\mN "__init__"=none/\OwnTail h bmB bm:=by
 unfold excIn at q;split at q
 case h_2=>cases q
 rename_i od cd sl ho;split at q
 case h_2=>cases q
 rename_i C' bm j0 j1 j2 j3 n j5 hm hs;rw[aw,aw,aw,aw,aw,beq_iff_eq,beq_iff_eq,beq_iff_eq]at q;obtain⟨⟨⟨⟨⟨e1,e2⟩,e3⟩,e4⟩,e5⟩,e6⟩:=q;subst e1;subst e2;obtain⟨c1,c2,c3,c4,c5,c6,c7,c8,c9,c10,c11⟩:=cd;have e7:c3=.ref C'::bm:=hm;have e8:c11=false:=by simpa using e3
 have e9:sl= #[j0,j1,j2,j3,some (.builtin n),j5]:=by
  apply CY
  exact hs
 subst e7;subst e8;subst e9;exact⟨_,_,_,_,_,_,_,_,_,_,_,_,_,_,_,_,_,kin _ _ ho,.of_isNs (isNs_of_in kin e5),nsMap_none_of_in kin e5 e6,tail_of_in kin e4⟩
theorem A5{x:Str}{e:Expr}{es:List Expr}{t:TA}{C:Addr}{np cpos pos:Pos}{E:St->XK}(hg:Gl X x)(hm:X.mg x=some (.ref C))(hk:keepIn X.K (.ref C)=true)(hq:excIn X.K C bmV "ValueError.__new__"=true)(ha:PA X (e::es) t)(hc:X.calm=true)(hdb:(x==("__debug__":Str))=false)
  (hst:bB (e::es) X.env=(false,eval e X.env)::bB es X.env)(hpl:(backTo cpos (bB es X.env)).any (·.1)=false)
  (made:∀pins σ H s a c args h',Inv X pins σ H s->lJ s.heap h' a c args->E σ c none H->X.xe (.ref a) {s with heap:=h'}):
  PS X (.Raise (some (.Call (.Name x np) (e::es) [] cpos)) none pos) (fun D σ H=>t σ H fun vs H1=>vs.length<=sizeLine/\E σ (.ref C) none H1):=by
 intro pins s σ H D I h;obtain⟨nm,qn,N,bs,bm,hd,sn,sub,ab,col,dd,k0,k1,k2,k3,k5,mN,hC,hN,hni,T⟩:=exc_obj (bmB:=bmV) I.mod.kin hq;have hbase:bm.contains (.type "BaseException")=true:=T.hasType (by decide+kernel);rw[arm_exec_Raise];show wpAny _ _ (do standAt pos;raiseStmt X.env (some (do let v<-eval (.Call (.Name x np) (e::es) [] cpos) X.env;standAt pos;pure v)) none) _ _ s;refine af (pL (wpAny_raiseStmt_made_sub (C:=C) (nm:=nm) (q:=qn) (N:=N) (bs:=bs) (bm:=bm) (hdct:=hd) (sn:=sn) (sub:=sub) (ab:=ab) (col:=col) (dd:=dd) (k0:=k0) (k1:=k1) (k2:=k2) (k3:=k3) (k5:=k5) (newId:="ValueError.__new__") hbase (I.ok.hd hc) (af (dk (Q:=fun v s1=>∃a u,v=.ref a/\s1.heap.get? C=some (excClassObj nm qn C N bs bm hd sn sub ab col dd k0 k1 k2 k3 k5 "ValueError.__new__")/\s1.heap.get? a=some {cls:=.ref C,data:=.fields #[.ref u,.none,.none,.none,.bool false,.none]}/\X.xe (.ref a) s1) (E:=X.xe) ?_ (fun v s1 z=>af (pL (ak z))) fun _ _ z=>z))));refine eO (lY I hg hm ?_ hdb);refine zN (h₀:=X.base) I.ok.mod.kin hk (thn (ha cpos pins s σ H _ I h) fun us s1 ⟨vs,H1,I1,r,hlen,q⟩=>⟨I1.kIn,?_⟩) hst hpl;have hC1:=I1.bk _ _ hC;obtain⟨hh,gg,dr,tk,os⟩:=s1;refine wpAny_call_exc_subT (hrest:=by rw[rE,<-r.length];exact hlen) PySem.F.excBase_ValueError (T.keeps I1.bk) hC1 (hN.keeps I1.bk) hni fun h' a hmk=>?_;obtain⟨u,hu,_,_⟩:=hmk.there;exact⟨a,u,rfl,hmk.keeps _ _ hC1,hu,made pins σ H1 _ a _ _ h' I1 hmk q⟩
end
noncomputable def Cx.re(X:Cx)(A:Around)(calm:Bool)(pn:List (Addr×Obj))(xe:Value->Shared->Prop):Cx:={X with A:=A,calm:=calm,pn:=pn,xe:=xe}
section
variable {X:Cx}{pins:List (Addr×Obj)}{σ:St}{H:Hp}{s:Shared}
theorem Inv.re{A:Around}{calm:Bool}{pn pins':List (Addr×Obj)}{xe:Value->Shared->Prop}(I:Inv X pins σ H s)(hA:A.frames=X.A.frames)(hc:calm=true->A.handled=none)(hp:∀p∈pn++pins',p∈X.pn++pins):
  Inv (X.re A calm pn xe) pins' σ H s:=
 ⟨⟨I.ok.mod,I.ok.kind,I.ok.glob,I.ok.blt,I.ok.above,I.ok.inj,I.ok.has,I.ok.cab,hc,hA.trans I.ok.frames,I.ok.stk,I.ok.exf,I.ok.bs,I.ok.bsz,I.ok.noex,I.ok.exfs,I.ok.qc,I.ok.frf⟩,
  I.os,I.bare,I.base,I.loc,I.cell,I.free,I.freeC,fun p q=>I.pin p (hp p q),I.hok,I.len⟩
theorem Inv.Ac{A:Around}{calm:Bool}{pn pins':List (Addr×Obj)}{xe:Value->Shared->Prop}(ok:X.Ok)(I:Inv (X.re A calm pn xe) pins' σ H s)(hp:∀p∈X.pn++pins,p∈pn++pins'):Inv X pins σ H s:=
 ⟨ok,I.os,I.bare,I.base,I.loc,I.cell,I.free,I.freeC,fun p q=>I.pin p (hp p q),I.hok,I.len⟩
theorem j9{M:Model}{A:Around}{E:Value->Shared->Prop}{i:Nat}{n:Str}{pos:Pos}{Q:Unit->Shared->Prop}(I:Inv X pins σ H s)(hN:X.N.Nodup)(hi:X.N[i]? =some n)(hk:X.env.scope.names.lookup n=some .local)
  (h:∀s',Inv X pins (σ.set i none) H s'->Q () s'):wpAny M A (do bindName X.env n .none;unbindBehindTheSuite X.env n pos) Q E s:=by
 obtain⟨m,hn,hl⟩:=id I.loc;have hcls:(X.env.scope.kind== .class||(X.env.scope.kind== .module&&X.env.locals != X.env.globals))=false:=by rw[I.ok.kind];rfl
 obtain⟨oL,_,_,hoL,_⟩:=id hn;refine wpAny_nameGoes_keeps hk hn hcls fun h' v hn' hs=>h _ ?_;have up:∀b o,X.s₀.heap.get? b=some o->b≠X.env.locals:=fun b o e=>a0 (aS (ay e) I.ok.above);refine⟨I.ok,I.os,I.bare,⟨fun b o e n hb hx=>(hs.2 b (up b o e)).trans (I.base.keep b o e n hb hx),fun b o e n hb hx=>?_,I.base.free,fun b o e hx=>?_,I.base.tups,I.base.frzs,I.base.tbls⟩,⟨_,hn',fun j y v' e1 e2 e3=>?_⟩,fun y c e=>?_,I.free,I.freeC,fun p hp=>?_,fun b ob e=>?_,by simpa using I.len⟩
 ·obtain⟨sl,e1⟩:=I.base.slot b o e n hb hx
  exact⟨sl,(hs.2 b (up b o e)).trans e1⟩
 ·obtain⟨o',e1⟩:=I.base.there b o e hx
  exact⟨o',(hs.2 b (up b o e)).trans e1⟩
 ·by_cases hj:j=i
  ·subst hj
   rw[List.getElem?_set]at e2;split at e2
   ·split at e2<;>cases e2
   ·exact absurd rfl (by assumption)
  ·rw[lG (dD hj)]at e2
   obtain⟨u',r',q⟩:=hl j y v' e1 e2 e3;refine⟨u',r',?_⟩;rcases q with⟨k,e⟩ |⟨k,c,e,z⟩
   ·refine .inl ⟨k,?_⟩
    have :y≠n:=fun e=>hj (oW hN e1 (e▸hi));simp[this,e]
   ·exact .inr ⟨k,c,e,z.sameBut hs (I.cne y c e)⟩
 ·obtain⟨w',z⟩:=I.cell y c e
  exact⟨w',z.sameBut hs (I.cne y c e)⟩
 ·obtain⟨e,n,ne,nf,d⟩:=I.pin p hp
  exact⟨(hs.2 p.1 ne).trans e,n,ne,nf,d⟩
 ·refine(I.hok b ob e).oH (fun c w' hc q=>(hs.2 c ?_).trans q) (fun _ q=>q) fun _ _ q=>q
  have hf:=I.free;rintro rfl;rcases hc with z|z
  ·rw[<-z,hf]at e;cases e
  ·rw[hf]at z;cases z
theorem Inv.take{a:Addr}{c:Value}{d:Option Addr}(I:Inv X pins σ H s)(hx:X.ex=[])(F:Fly X.s₀.heap s.heap H (X.pn++pins) a c d):Inv X pins σ (upd H a (vc a c d)) s:=by
 obtain⟨⟨T,oe,vs,oT,ts,he,ec,ed,hd,_⟩,hna,hHa,hp⟩:=F;obtain⟨ra1,ra2⟩:=I.oP he hd;refine⟨I.ok,I.os,I.bare,⟨I.base.keep,I.base.slot,fun b o e n hb=>?_,I.base.there,fun b xs e=>?_,fun b o u e=>?_,fun b ps e=>?_⟩,I.loc,I.cell,?_,fun x c' e=>?_,fun p q=>?_,fun b u e=>?_,I.len⟩
 ·rw[bo (fun z=>by rw[z,hna]at e;cases e)]
  exact I.base.free b o e n hb
 ·have q:=I.base.tups b xs e
  rw[bo (bD q hHa)];exact q
 ·have q:=I.base.frzs b o u e
  rw[bo (bD q hHa)];exact q
 ·obtain⟨more,q⟩:=I.base.tbls b ps e
  exact⟨more,by rw[bo (bD q hHa)];exact q⟩
 ·rw[bo (dD ra1)]
  exact I.free
 ·rw[bo (ra2 x c' e)]
  exact I.freeC x c' e
 ·obtain⟨e,n,ne,nf,d⟩:=I.pin p q
  exact⟨e,by rw[bo (hp p q)];exact n,ne,nf,d⟩
 ·by_cases hb:b=a
  ·subst hb
   rw[aE]at e;cases e;refine⟨⟨oe,he,ec,ed,by unfold notCls;rw[hd]⟩,⟨oe,he⟩,fun h1 h2 p k=>?_⟩;obtain⟨o,e1,r⟩:=p;exact⟨o,k o e1,r⟩
  ·rw[bo hb]at e
   exact(I.hok b u e).oH (fun _ _ _ q=>q) (fun c' q=>by rw[bo (bD q hHa)];exact q) fun c' xs q=>by rw[bo (bD q hHa)];exact q
end
noncomputable def Ends.drop(D:Ends)(i:Nat):Ends:={nx:=fun σ H=>D.nx (σ.set i none) H,rt:=D.rt,bk:=fun σ H=>D.bk (σ.set i none) H,ct:=fun σ H=>D.ct (σ.set i none) H}
noncomputable def lu(K:aa)(C:Addr)(i:Nat)(ts:TS)(D:Ends):St->XK:=fun σ c d H=>
 c=c/\exmOne K c (.ref C)=some true/\∀a,H a=none->ts (D.drop i) (σ.set i (some (.ref a))) (upd H a (vc a c d))
noncomputable def gZ(X:Cx)(pins:List (Addr×Obj))(D:Ends)(hs:List ExceptHandler):Value->Shared->Prop:=fun e s1=>
 wpAny (model X.prog X.w) X.A (jm e X.env) (fun _ s2=>wpAny (model X.prog X.w) X.A (vv e none) (fun _ s3=>wpAny (model X.prog X.w) X.A (handleBy e X.env hs) (SP X pins D) X.xe s3) X.xe s2) X.xe s1
section
variable {X:Cx}{pins:List (Addr×Obj)}{σ:St}{H:Hp}{s:Shared}{x n:Str}{C:Addr}{i:Nat}{b₀:Stmt}{suite:List Stmt}{np hpos pos:Pos}{ts:TS}{D:Ends}
structure vo(X:Cx)(x n:Str)(C:Addr)(i:Nat)(suite:List Stmt)(ts:TS):Prop where
 nd:X.N.Nodup
 at_:X.N[i]? =some n
 loc:X.env.scope.names.lookup n=some .local
 gl:Gl X x
 mg:X.mg x=some (.ref C)
 db:(x==("__debug__":Str))=false
 stk:X.stack=X.env::X.outer
 fr:X.env.frame=some X.env.locals
 ex:X.ex=[]
 su:∀(pins:List (Addr×Obj))(a:Addr),PSs (X.re (X.A.mark (some (.ref a))) false (X.pn++pins) (fun _ _=>False)) suite ts
theorem m6{a:Addr}{c:Value}{d:Option Addr}(O:vo X x n C i (b₀::suite) ts)(I:Inv X pins σ H s)(F:Fly X.s₀.heap s.heap H (X.pn++pins) a c d)(h:lu X.K C i ts D σ c d H):
  wpAny (model X.prog X.w) X.A (handleBy (.ref a) X.env [.ExceptHandler (some (.Name x np)) (some n) (b₀::suite) hpos]) (SP X pins D) X.xe s:=by
 obtain⟨_,hm,hk⟩:=h;obtain⟨⟨T,oe,vs,oT,tv,he,ec,ed,hd,h1,hTa,hT,hdT,h3,hnT,hHT,hpT⟩,hna,hHa,hp⟩:=F;refine wpAny_handleBy_cons (codeAny_handlers_test ?_) (by intro q;cases q);have I0:Inv (X.re (X.A.mark (some (.ref a))) false (X.pn++pins) (fun _ _=>False)) [] σ H s:=I.re rfl (fun z=>nomatch z) fun p q=>by simpa using q
 refine lY I0 O.gl O.mg ?_ O.db;have LT:Looks (model X.prog X.w) s.heap (typeOf (.ref a)) c:=ec▸(Looks.ld he).andThen .now;refine(exm_one I.kIn LT hm).here (codeAny_handlers_suite_as ?_);refine wpAny_setFlight_none he hd h1 hT hdT (cI.mp h3).1 ?_;obtain⟨rt1,rt2⟩:=I.oP hT hdT;have I1:=I.nZ (t':=s.toks) (h':=s.heap.update T (dX (·.setIfInBounds 3 .none))) (fun b o hb e=>by rw[bb _ _ (dD hb)];exact e) hHT rt1 hnT rt2 hpT;have F1:Fly X.s₀.heap (s.heap.update T (dX (·.setIfInBounds 3 .none))) H (X.pn++pins) a c d:=by
  refine⟨⟨T,oe,vs,_,_,by rw[bb _ _ hTa];exact he,ec,ed,hd,h1,hTa,kX _ hT (lF (fQ hdT _)),fQ hdT _,?_,hnT,hHT,hpT⟩,hna,hHa,hp⟩;rw[kY (cI.mp h3).1]
 have I2:=I1.take O.ex F1;refine oG I2 O.nd O.at_ (.inl O.loc) (v:=.ref a) rfl (fun s3 I3=>?_) (.inr O.loc);have I4:Inv (X.re (X.A.mark (some (.ref a))) false (X.pn++pins) (fun _ _=>False)) [] (σ.set i (some (.ref a))) (upd H a (vc a c d)) s3:=I3.re rfl (fun z=>nomatch z) fun p q=>by simpa using q
 refine dk (O.su pins a [] s3 _ _ (D.drop i) I4 (hk a hHa)) (fun f s4 q=>?_) fun _ _ z=>z.elim;have back:∀{σ':St}{H':Hp},Inv (X.re (X.A.mark (some (.ref a))) false (X.pn++pins) (fun _ _=>False)) [] σ' H' s4->Inv X pins σ' H' s4:=fun{σ' H'} J=>J.Ac I.ok fun p q=>by simpa using q
 cases f with
 |next =>
  obtain⟨σ',H',J,q⟩:=q;exact j9 (back J) O.nd O.at_ O.loc fun s5 J5=>⟨_,_,J5,q⟩
 |brk=>
  obtain⟨σ',H',J,q⟩:=q;exact j9 (back J) O.nd O.at_ O.loc fun s5 J5=>⟨_,_,J5,q⟩
 |cont=>
  obtain⟨σ',H',J,q⟩:=q;exact j9 (back J) O.nd O.at_ O.loc fun s5 J5=>⟨_,_,J5,q⟩
 |ret u=>
  obtain⟨v,σ',H',J,rv,q⟩:=q;exact j9 (back J) O.nd O.at_ O.loc fun s5 J5=>⟨v,_,_,J5,rv,q⟩
theorem Af(O:vo X x n C i (b₀::suite) ts){pins':List (Addr×Obj)}{e:Value}{s':Shared}(ok:X.Ok)(hc:X.calm=true)
  (I:Inv (X.re X.A X.calm (X.pn++pins) (gZ X pins D [.ExceptHandler (some (.Name x np)) (some n) (b₀::suite) hpos])) pins' σ H s)(h:CXx X.prog X.w X.stack H s (lu X.K C i ts D σ) e s'):
  gZ X pins D [.ExceptHandler (some (.Name x np)) (some n) (b₀::suite) hpos] e s':=by
 obtain⟨a,c,d,H',rfl,ho,hg,u,hok,F,q⟩:=h;have J:Inv X pins σ H s:=I.Ac ok fun p z=>cV _ z;exact uA J O.stk O.fr O.ex ho hg u hok F fun s2 I2 F2=>m6 O I2 F2 q
theorem Ag(O:vo X x n C i (b₀::suite) ts){pins':List (Addr×Obj)}{a:Addr}{c:Value}{args:List Value}{h':Heap}(ok:X.Ok)
  (I:Inv (X.re X.A X.calm (X.pn++pins) (gZ X pins D [.ExceptHandler (some (.Name x np)) (some n) (b₀::suite) hpos])) pins' σ H s)(hm:lJ s.heap h' a c args)(h:lu X.K C i ts D σ c none H):
  gZ X pins D [.ExceptHandler (some (.Name x np)) (some n) (b₀::suite) hpos] (.ref a) {s with heap:=h'}:=by
 have J:Inv X pins σ H s:=I.Ac ok fun p z=>cV _ z;exact uz J O.stk O.fr O.ex hm fun s2 I2 F2=>m6 O I2 F2 h
theorem ps_try{body:List Stmt}{tb:Ends->TS}(hb:∀pins D,X.Ok->PSs (X.re X.A X.calm (X.pn++pins) (gZ X pins D [.ExceptHandler (some (.Name x np)) (some n) (b₀::suite) hpos])) body (tb D)):
  PS X (.Try body [.ExceptHandler (some (.Name x np)) (some n) (b₀::suite) hpos] [] [] pos) (fun D σ H=>tb D D σ H):=by
 intro pins s σ H D I h;have I0:Inv (X.re X.A X.calm (X.pn++pins) (gZ X pins D [.ExceptHandler (some (.Name x np)) (some n) (b₀::suite) hpos])) [] σ H s:=I.re rfl I.ok.hd fun p q=>by simpa using q
 refine wpAny_Try_except (dk (hb pins D I.ok [] s σ H D I0 h) (fun f s1 q=>?_) fun e s1 q=>q);have back:∀{σ':St}{H':Hp},Inv (X.re X.A X.calm (X.pn++pins) (gZ X pins D [.ExceptHandler (some (.Name x np)) (some n) (b₀::suite) hpos])) [] σ' H' s1->Inv X pins σ' H' s1:=fun{σ' H'} J=>J.Ac I.ok fun p q=>by simpa using q
 cases f with
 |next =>
  obtain⟨σ',H',J,q⟩:=q;exact se pins s1 σ' H' D (back J) q
 |brk=>
  obtain⟨σ',H',J,q⟩:=q;exact⟨_,_,back J,q⟩
 |cont=>
  obtain⟨σ',H',J,q⟩:=q;exact⟨_,_,back J,q⟩
 |ret u=>
  obtain⟨v,σ',H',J,rv,q⟩:=q;exact⟨v,_,_,back J,rv,q⟩
end
noncomputable abbrev XS:=St->XK
noncomputable abbrev N0:XS:=fun _=>E0
noncomputable def vp(CX:CXT)(X:Cx)(E:XS):Prop:=∀(pins:List (Addr×Obj))(σ:St)(H:Hp)(s:Shared)(e:Value)(s':Shared),Inv X pins σ H s->CX X.stack H s (E σ) e s'->X.xe e s'
noncomputable def MadeS(X:Cx)(E:XS):Prop:=∀(pins:List (Addr×Obj))(σ:St)(H:Hp)(s:Shared)(a:Addr)(c:Value)(args:List Value)(h':Heap),Inv X pins σ H s->lJ s.heap h' a c args->E σ c none H->X.xe (.ref a) {s with heap:=h'}
section
variable {X:Cx}{CX:CXT}{k:Nat}{f:Addr}{fd:eZ}{ps:List Str}{sp:Sp}{dvs:List V}{ds:List Value}{E:XS}{x:Str}{p pos:Pos}{e:Expr}{es:List Expr}{t:TA}
theorem xF{pins:List (Addr×Obj)}{σ:St}{H:Hp}{s:Shared}{Q:VK}{us:List Value}{vs:List V}(F:hV X.prog X.w X.K X.mg X.base CX k f fd ps sp)(hr:iM k X.A)(hb:Binds X.K fd ps ds)(hd:bU dvs ds)(hx:vp CX X E)
  (I:Inv X pins σ H s)(r:bU vs us)(h:sp (vs++dvs) H Q (E σ)):wpAny (model X.prog X.w) X.A (call (.ref f) us) (EP X pins σ Q) X.xe s:=by
 have r2:bU (vs++dvs) (us++ds):=r.append hd;have hl:(us++ds).length=ps.length:=r2.length.symm.trans (F.len _ _ _ _ h);refine qm (jg (F.run X.A X.stack s H ⟨us,[]⟩ (us++ds) (vs++dvs) Q (E σ) hr I.env0 (hb s us I.kIn hl) r2 h) fun r s' hq=>?_);cases r with
 |error e=>exact hx pins σ H s e s' I hq
 |ok fl=>cases fl<;>first |exact I.after hq|exact iS hq
theorem Bp(F:hV X.prog X.w X.K X.mg X.base CX k f fd ps sp)(hr:iM k X.A)(hg:Gl X x)(hm:X.mg x=some (.ref f))(hk:bJ X.K (.ref f)=true)(hb:Binds X.K fd ps ds)(hd:bU dvs ds)(hx:vp CX X E)
  (ha:PA X (e::es) t)(hdb:(x==("__debug__":Str))=false)(he:bB (e::es) X.env=(false,eval e X.env)::bB es X.env)(hpl:(backTo pos (bB es X.env)).any (·.1)=false):
  PE X (.Call (.Name x p) (e::es) [] pos) (fun σ H Q=>tY sp dvs (E σ) t σ H Q):=by
 intro pins s σ H Q I h;refine eO (lY I hg hm ?_ hdb);exact zN (h₀:=X.base) I.ok.mod.kin hk (thn (ha pos pins s σ H _ I h) fun us s1 ⟨vs,H1,I1,r,q⟩=>⟨I1.kIn,xF F hr hb hd hx I1 r q⟩) he hpl
theorem yX(F:hV X.prog X.w X.K X.mg X.base CX k f fd ps sp)(hr:iM k X.A)(hg:Gl X x)(hm:X.mg x=some (.ref f))(hk:bJ X.K (.ref f)=true)(hb:Binds X.K fd ps ds)(hd:bU dvs ds)(hx:vp CX X E)
  (hdb:(x==("__debug__":Str))=false):PE X (.Call (.Name x p) [] [] pos) (fun σ H Q=>tY sp dvs (E σ) tW σ H Q):=by
 intro pins s σ H Q I h;refine eO (lY I hg hm ?_ hdb);exact PySem.W.callWith_K0 I.kIn hk (xF (us:=[]) F hr hb hd hx I .nil h)
end
section
variable {P:Program}{w:World}{K:aa}{mg:Str->Option Value}{base:Heap}
theorem rk{N:List Str}{qual:Str}{scope:Scope}{f:Addr}{cd:Value}{A:Around}{outer:List Env}{s:Shared}{H:Hp}{E:XK}:
  vp (CXx P w) (qe (CXx P w) P w K mg base N qual scope f cd A outer s H E) (fun _=>E):=by
 intro pins σ H1 s1 e s' I h;obtain⟨a,c,d,H',rfl,ho,hg,u,hok,F,q⟩:=h;show wpAny _ _ (leaving _ _) _ _ _;unfold leaving;refine af (uA I rfl rfl rfl ho hg u hok F fun s2 I2 F2=>?_);obtain⟨⟨T,oe,vs,oT,ts,h1,h2,h3,h4,h5,h6,h7,h8,h9,h10,h11,_⟩,b1,b2,_⟩:=F2;exact⟨a,c,d,H',rfl,I2.os,I2.bare,I2.base,I2.hok,⟨⟨T,oe,vs,oT,ts,h1,h2,h3,h4,h5,h6,h7,h8,h9,h10,h11,fun _ z=>nomatch z⟩,b1,b2,fun _ z=>nomatch z⟩,q⟩
theorem rm{N:List Str}{qual:Str}{scope:Scope}{f:Addr}{cd:Value}{A:Around}{outer:List Env}{s:Shared}{H:Hp}{E:XK}:
  MadeS (qe (CXx P w) P w K mg base N qual scope f cd A outer s H E) (fun _=>E):=by
 intro pins σ H1 s1 a c args h' I hm q;show wpAny _ _ (leaving _ _) _ _ _;unfold leaving;refine af (uz I rfl rfl rfl hm fun s2 I2 F2=>?_);obtain⟨⟨T,oe,vs,oT,ts,h1,h2,h3,h4,h5,h6,h7,h8,h9,h10,h11,_⟩,b1,b2,_⟩:=F2;exact⟨a,c,none,H1,rfl,I2.os,I2.bare,I2.base,I2.hok,⟨⟨T,oe,vs,oT,ts,h1,h2,h3,h4,h5,h6,h7,h8,h9,h10,h11,fun _ z=>nomatch z⟩,b1,b2,fun _ z=>nomatch z⟩,q⟩
theorem zv{o:List Env}{H:Hp}{s:Shared}{e:Value}{s':Shared}(h:CXx P w o H s E0 e s'):False:=by
 obtain⟨_,_,_,_,_,_,_,_,_,_,q⟩:=h;exact q
theorem hV.calm{k:Nat}{f:Addr}{fd:eZ}{ps:List Str}{sp:Sp}(F:hV P w K mg base (CXx P w) k f fd ps sp):hV P w K mg base CX0 k f fd ps (fun vs H Q _=>sp vs H Q E0):=
 ⟨fun vs H Q E h=>F.len vs H Q E0 h,fun A outer s H args us vs Q E hr he hb hv hs=>jg (F.run A outer s H args us vs Q E0 hr he hb hv hs) fun r s' q=>by
  cases r with
  |error e=>exact zv q
  |ok fl=>cases fl<;>exact q⟩
end
end L2
namespace Q
open PySem PySem.Spec PySem.W PyProof.Rows L2
noncomputable def fI(lt:Nat->Nat->Bool)(vs:List Value):List Value:=if vs.length<2 then vs else(run lt (bw vs.length)).toList.map fun i=>vs.getD i .none
noncomputable def Asks(prog:Program)(w:World)(A:Around)(lt:Nat->Nat->Bool)(vs:List Value)(h0:Heap):Prop:=
 ∀s1:Shared,(∀b o,h0.get? b=some o->s1.heap.get? b=some o)->
  ∃κ,(∀(Q':eB->Shared->Prop)(E':Value->Shared->Prop),Q' κ s1->wpAny (model prog w) A (keyKind' vs.toArray) Q' E' s1)/\
   ∀i j (C:Bool->Shared->Prop),i<vs.length->j<vs.length->i≠j->C (lt i j) s1->kas_ask prog w A κ vs i j C s1
section
variable {prog:Program}{w:World}{A:Around}{E:Value->Shared->Prop}{s:Shared}{lt:Nat->Nat->Bool}{vs:List Value}
theorem i8{n:Nat}(h:n<64):n<=sizeLine:=by rw[vB];omega
theorem xD{n:Nat}(h:n<64):n<=sizeLine+1:=dQ (i8 h)
end
noncomputable def tlt(x y:Str):Bool:=decide (x.cps.toList<y.cps.toList)
noncomputable def jN(ks:List Str)(i j:Nat):Bool:=tlt (ks.getD i "") (ks.getD j "")
noncomputable def ord(ks:List Str):List Nat:=if ks.length<2 then aM ks.length else(run (jN ks) (bw ks.length)).toList
noncomputable def sortBy{α:Type}(d:α)(ks:List Str)(ys:List α):List α:=(ord ks).map fun i=>ys.getD i d
theorem str_ext{x y:Str}(h:x.cps.toList=y.cps.toList):x=y:=by
 obtain⟨a⟩:=x;obtain⟨b⟩:=y;have :a=b:=Array.toList_inj.mp h;rw[this]
theorem jY{x y z:Str}(a:tlt x y=true)(b:tlt y z=true):tlt x z=true:=by
 unfold tlt at *;rw[decide_eq_true_eq]at *;exact List.lt_trans a b
theorem rK{x y:Str}(h:x≠y):tlt x y= !tlt y x:=by
 unfold tlt;by_cases c:x.cps.toList<y.cps.toList
 ·have d:¬y.cps.toList<x.cps.toList:=fun z=>tJ _ (List.lt_trans c z)
  rw[decide_eq_true c,decide_eq_false d];rfl
 ·by_cases d:y.cps.toList<x.cps.toList
  ·rw[decide_eq_false c,decide_eq_true d];rfl
  ·exact absurd (str_ext (List.le_antisymm (List.not_lt.mp d) (List.not_lt.mp c))) h
theorem oz{ks:List Str}(nd:ks.Nodup):Tot (jN ks) ks.length where
 tri:=fun i j hi hj h=>rK fun e=>h (by
  rw[ah,ah,ae hi,ae hj]at e;exact(du nd).mp e)
 tr:=fun i j k _ _ _ a b=>jY a b
theorem ord_len(ks:List Str)(nd:ks.Nodup):(ord ks).length=ks.length:=by
 unfold ord;split
 ·simp
 ·rw[ax,(gm (oz nd) (by omega)).1.size]
theorem Bt{ks:List Str}{ys:List V}{vs:List Value}(nd:ks.Nodup)(hl:ks.length=ys.length)(r:bU ys vs):bU (sortBy .non ks ys) (fI (jN ks) vs):=by
 have hlen:=r.length;have e:vs.length=ks.length:=by omega
 unfold fI sortBy ord;rw[e];by_cases c:ks.length<2
 ·rw[if_pos c,if_pos c]
  have e2:(aM ks.length).map (fun i=>ys.getD i V.non)=ys:=by
   rw[hl];apply cR
   ·simp
   ·intro i h1 h2
    simp[h2]
  rw[e2];exact r
 ·rw[if_neg c,if_neg c]
  have P:=(gm (oz nd) (by omega)).1;have all:∀l:List Nat,(∀i∈l,i<ks.length)->bU (l.map fun i=>ys.getD i V.non) (l.map fun i=>vs.getD i ck):=by
   intro l
   induction l with
   |nil=>exact fun _=>.nil
   |cons i l ih=>
    intro h;have hi:i<ys.length:=by have :=h i (.head _);omega
    obtain⟨u,hu,ru⟩:=r.get (ae hi);refine .cons ?_ (ih fun j hj=>h j (.tail _ hj));show L2.RelV (ys.getD i V.non) (vs.getD i ck);rw[ah,ae hi,ah,hu];exact ru
  refine all _ fun i hi=>?_;have m:i∈(aM ks.length).toArray:=P.perm.mem_iff.mp (zU.mp hi);simpa using m
theorem Av{ks:List Str}{vs:List Value}(r:tj vs ks){i:Nat}(hi:i<ks.length):∃t,vs.getD i .none=.str (ks.getD i "") t:=by
 induction r generalizing i with
 |nil=>exact absurd hi (fN _)
 |cons y t h ih=>
  cases i with
  |zero=>exact⟨t,rfl⟩
  |succ i=>exact ih (by simpa using hi)
theorem oE{ks:List Str}{vs:List Value}(r:tj vs ks):vs.length=ks.length:=by
 induction r with
 |nil=>rfl
 |cons y t h ih=>simp[ih]
section
variable {prog:Program}{w:World}{A:Around}
theorem zI{ks:List Str}{vs:List Value}{h0:Heap}(r:tj vs ks)(h2:2<=vs.length):Asks prog w A (jN ks) vs h0:=by
 intro s1 _;refine⟨oneType',fun Q' E' q=>?_,fun i j C hi hj _ q=>?_⟩
 ·match vs,r,h2 with
  |v1::v2::rest,r,_=>
   rw[keyKind_strs r];exact ak q
 ·rw[oE r]at hi hj
  obtain⟨t,e1⟩:=Av r hi;obtain⟨u,e2⟩:=Av r hj;unfold kas_ask;rw[e1,e2,keyLt'_oneType];exact oneLt_str q
end
noncomputable def ki(H:Hp)(ys:List V)(ks:List Str):Prop:=Paired (fun v k=>∃a rest,v=V.ref a/\H a=some (.tup (V.str k::rest))) ys ks
noncomputable def rSort(K:aa):List V->Hp->VK->Prop:=fun xs H Q=>∃p ys ks,xs=[V.ref p]/\SqL K H p ys/\ks.length<64/\ks.Nodup/\(ys=ks.map V.str\/ki H ys ks)/\∀l,H l=none->Q (.ref l) (upd H l (.lst (sortBy .non ks ys)))
theorem nq{H:Hp}:∀{ys:List V}{ks:List Str},ki H ys ks->ks.length=ys.length
 |_,_,.nil=>rfl
 |_,_,.cons _ t=>by simp[nq t]
set_option maxHeartbeats 3200000
noncomputable def has(acc:List Key)(k:Key):Bool:=acc.any fun x=>decide (x=k)
theorem fY{acc:List Key}{k:Key}:has acc k=true↔k∈acc:=by
 unfold has;rw[gO];constructor
 ·rintro⟨x,h,e⟩
  rw[<-of_decide_eq_true e];exact h
 ·exact fun h=>⟨k,h,decide_eq_true rfl⟩
noncomputable def more(acc:List Key)(k:Key):List Key:=if has acc k=true then acc else acc++[k]
noncomputable def met(ks:List Key):List Key:=ks.foldl more []
theorem BB(ks:List Key)(k:Key):met (ks++[k])=more (met ks) k:=by unfold met;rw[List.foldl_append];rfl
theorem uF{acc:List Key}{k j:Key}:j∈more acc k↔j∈acc\/j=k:=by
 unfold more;split
 ·rename_i h
  constructor
  ·exact .inl
  ·rintro(z|rfl)
   ·exact z
   ·exact fY.mp h
 ·simp
theorem lV(acc:List Key)(k:Key):(more acc k).length=if has acc k=true then acc.length else acc.length+1:=by
 unfold more;split <;>simp
theorem met_le(ks:List Key):(met ks).length<=ks.length:=by
 unfold met;have g:∀(l acc:List Key),(l.foldl more acc).length<=acc.length+l.length:=by
  intro l
  induction l with
  |nil=>intro acc;simp
  |cons k l ih=>
   intro acc;have h1:=ih (more acc k);have h2:=lV acc k;rw[eF,a7];split at h2<;>omega
 simpa using g ks []
theorem oh{ks:List Key}{k:Key}:k∈met ks↔k∈ks:=by
 unfold met;have g:∀(l acc:List Key),k∈l.foldl more acc↔k∈acc\/k∈l:=by
  intro l
  induction l with
  |nil=>intro acc;simp
  |cons j l ih=>
   intro acc;rw[eF,ih,uF,aO,or_assoc]
 simpa using g ks []
theorem zf{ks:List Key}(h:ks.Nodup):met ks=ks:=by
 unfold met;have g:∀(l acc:List Key),(acc++l).Nodup->l.foldl more acc=acc++l:=by
  intro l
  induction l with
  |nil=>intro acc _;simp
  |cons k l ih=>
   intro acc hn;have hk:k∉acc:=fun z=>(gf.mp hn).2.2 k z k (.head _) rfl;have e:more acc k=acc++[k]:=if_neg fun z=>hk (fY.mp z);rw[eF,e,ih (acc++[k]) (by simpa using hn)];simp
 simpa using g ks [] (by simpa using h)
theorem zb(ks:List Key):(met ks).Nodup:=by
 unfold met;have g:∀(l acc:List Key),acc.Nodup->(l.foldl more acc).Nodup:=by
  intro l
  induction l with
  |nil=>intro acc h;exact h
  |cons k l ih=>
   intro acc h;rw[eF];refine ih _ ?_;unfold more;split
   ·exact h
   ·rename_i c
    refine gf.mpr ⟨h,by simp,fun a ha b hb e=>c ?_⟩;have e2:b=k:=by simpa using hb
    rw[<-e2,<-e];exact fY.mpr ha
 exact g ks [] List.nodup_nil
theorem sD{ks:List Key}(h:(met ks).length=ks.length):ks.Nodup:=by
 have up:∀(l acc:List Key),(l.foldl more acc).length<=acc.length+l.length:=by
  intro l
  induction l with
  |nil=>intro acc;simp
  |cons k l ih=>
   intro acc;have h1:=ih (more acc k);have h2:=lV acc k;rw[eF,a7];split at h2<;>omega
 have g:∀(l acc:List Key),acc.Nodup->(l.foldl more acc).length=acc.length+l.length->(acc++l).Nodup:=by
  intro l
  induction l with
  |nil=>intro acc h _;simpa using h
  |cons k l ih=>
   intro acc hn e;rw[eF,a7]at e;have h1:=up l (more acc k);have h2:=lV acc k;by_cases c:has acc k=true
   ·rw[if_pos c]at h2
    omega
   ·rw[if_neg c]at h2
    have em:more acc k=acc++[k]:=if_neg c;rw[em]at e;have hk:k∉acc:=fun z=>c (fY.mpr z);have hn2:(acc++[k]).Nodup:=gf.mpr ⟨hn,by simp,fun a ha b hb e=>hk (by
     have e2:b=k:=by simpa using hb
     rw[<-e2,<-e];exact ha)⟩
    have :=ih (acc++[k]) hn2 (by rw[ai,eL];omega)
    simpa using this
 simpa using g ks [] List.nodup_nil (by simpa[met]using h)
theorem met_one{ks:List Key}:(met ks).length<=1↔∀a∈ks,∀b∈ks,a=b:=by
 constructor
 ·intro h a ha b hb
  have ha':=oh.mpr ha;have hb':=oh.mpr hb
  match e:met ks,h with
  | [],_=>rw[e]at ha';cases ha'
  | [x],_=>
   rw[e]at ha' hb';rw[bG.mp ha',bG.mp hb']
 ·intro h
  match e:met ks with
  | []=>simp
  | [x]=>simp
  |x::y::r=>
   have n:=zb ks;rw[e]at n;have hx:x∈ks:=oh.mp (by rw[e];exact .head _);have hy:y∈ks:=oh.mp (by rw[e];exact .tail _ (.head _));have :=h x hx y hy;rw[this]at n;simp at n
noncomputable abbrev jt(led:Bool):Obj:={cls:=.type "set",dict:=none,data:=.set #[] 0 (.fresh 0 0 led)}
noncomputable def wm(a:Addr)(n:Nat):HO:=.ext fun h=>∃o es ep t,h.get? a=some o/\o.ExactSet/\o.data=.set es ep t/\es.size<gA/\t.fits es.size=true/\es.size=n
theorem ye:∀{ks:List Key}{us:List Value},bU (ks.map kV) us->∀(i:Nat)(v:Value),us[i]? =some v->∃k,ks[i]? =some k/\RelV (kV k) v
 | [],_,.nil,i,v,e=>by simp at e
 |k::ks,_,.cons r t,0,v,e=>by
  simp at e;subst e;exact⟨k,rfl,r⟩
 |k::ks,_,.cons r t,i+1,v,e=>ye t i v (by simpa using e)
noncomputable def rSet(K:aa):List V->Hp->VK->Prop:=fun xs H Q=>∃p ks,xs=[V.ref p]/\SqL K H p (ks.map kV)/\ks.length<4000/\∀a,H a=none->Q (.ref a) (upd H a (wm a (met ks).length))
theorem qi{X:Cx}:eK X (.builtin "len") (fun xs H Q=>∃a n,xs=[V.ref a]/\H a=some (wm a n)/\Q (.int n) H):=by
 intro pins s σ H xs us Q I r h;obtain⟨a,n,rfl,e,q⟩:=h;obtain⟨u,rfl,rx⟩:=vals1 r;cases rx;obtain⟨⟨o,es,ep,t,ho,hex,hd,hbb,hf,rfl⟩,_⟩:=I.hok a _ e;refine call_len_set ho hex hd hf (by have :es.size<4096:=hbb;omega) ?_;exact⟨.int es.size,H,I.tok _,⟨_,rfl⟩,q⟩
end Q
namespace L2
open PySem PySem.Spec PyProof.Rows
section
variable {X:Cx}
noncomputable def xN(K:aa):R2:=fun x y H Q=>∃a b ys,x=.ref a/\y=.ref b/\SqT K H a []/\SqT K H b ys/\Q (.ref b) H
theorem op_cat0:OpR X (dw .Add) (xN X.K):=by
 intro pins s σ H x y v u Q I rx ry h;obtain⟨a,b,ys,rfl,rfl,ha,hb,q⟩:=h;cases rx;cases ry;obtain⟨its,r1,p1,_⟩:=I.tuple ha;obtain⟨its2,r2,p2,_⟩:=I.tuple hb;cases r1;obtain⟨⟨cls,dd,data,sl⟩,ho,hc,n,hd⟩:=id p1;obtain⟨⟨cls2,dd2,data2,sl2⟩,ho2,hc2,n2,hd2⟩:=id p2;simp only at hc hd hc2 hd2;subst hc hd hc2 hd2;exact concat_meets ⟨_,ho,rfl⟩ ⟨_,ho2,rfl⟩ vx Cz jy jh (i5 _ _) (tuple_addW0 a b _ _ n n2 dd dd2 sl sl2 rfl) ⟨ho,ho2,.ref b,H,I,rfl,q⟩
noncomputable def rRepS:R2:=fun x y H Q=>∃(z:Str)(n:Int),x=.str z/\y=.int n/\2<=n/\n<=1000/\1<=z.length/\z.length<=1000/\Q (.str ⟨(gc n.toNat z.cps).foldl (·++·) #[]⟩) H
noncomputable def rJoin(K:aa):V->List V->Hp->VK->Prop:=fun x vs H Q=>∃(sep:Str)(p:Addr)(ys:List Str),x=.str sep/\vs=[.ref p]/\SqL K H p (ys.map V.str)/\sep.length<=16/\(ys.map (·.length)).sum+ys.length<=1048576/\Q (.str (Txt.join sep ys)) H
end
set_option maxHeartbeats 1000000
section
variable {X:Cx}
noncomputable def rIxD(K:aa):R2:=fun x y H Q=>∃a b kvs k v,x=.ref a/\y=.ref b/\H a=some (.dT kvs)/\SqT K H b (k.map kV)/\yG kvs k=some v/\Q v H
noncomputable def rSetdef:V->List V->Hp->VK->Prop:=fun x xs H Q=>∃a b kvs k v,x=.ref a/\xs=[.ref b,v]/\H a=some (.dT kvs)/\H b=some (.tup (k.map kV))/\kvs.length<sizeLine/\
 (∀z,yG kvs k=some z->Q z H)/\(yG kvs k=none->Q v (upd H a (.dT (putK kvs k v))))
end
section
variable {X:Cx}
noncomputable def isRef:V->Bool
 |.ref _=>true
 |_=>false
noncomputable def rInD(K:aa)(neg:Bool):R2:=fun x y H Q=>∃p xs ds d,y=.ref p/\SqL K H p xs/\xs.all isRef=true/\Rep K H d x/\gL K H ds xs/\fV ds<=30/\
 Q (.bl (if neg then !(ds.any fun d'=>eqD d' d)else ds.any fun d'=>eqD d' d)) H
open Classical in
open Classical in
end
section
variable {X:Cx}{e:Expr}{te:TE}{pos p2 p3 p4:Pos}{cd:Nat}
noncomputable def tRev(K:aa)(te:TE):TE:=fun σ H Q=>te σ H fun x H1=>∃a xs,x=.ref a/\SqL K H1 a xs/\∀p,H1 p=none->Q (.ref p) (upd H1 p (.lst xs.reverse))
end
end L2
namespace Q
open PySem PySem.Spec PySem.W PyProof.Rows L2
noncomputable def ltI(ns:List Int)(i j:Nat):Bool:=decide (ns.getD i 0<ns.getD j 0)
noncomputable def ordI(ns:List Int):List Nat:=if ns.length<2 then aM ns.length else(run (ltI ns) (bw ns.length)).toList
noncomputable def sortI(ns:List Int):List V:=(ordI ns).map fun i=>(ns.map V.int).getD i .non
noncomputable def rSortI(K:aa):List V->Hp->VK->Prop:=fun xs H Q=>∃p ns,xs=[V.ref p]/\SqL K H p (ns.map V.int)/\ns.length<64/\ns.Nodup/\∀l,H l=none->Q (.ref l) (upd H l (.lst (sortI ns)))
end Q
namespace L2
open PySem PySem.Spec PyProof.Rows
section
variable {X:Cx}
noncomputable def nats(n:Nat):List V:=(aM n).map fun i:Nat=>V.int (i:Int)
noncomputable def tLRng(ta:TA):TE:=fun σ H Q=>ta σ H fun vs H1=>∃n:Nat,vs=[.int n]/\n<=1000/\∀p,H1 p=none->Q (.ref p) (upd H1 p (.lst (nats n)))
end
section
variable {X:Cx}
noncomputable def leP(a b c d:Int):Bool:=decide (a<c\/a=c/\b<=d)
noncomputable def rLeP(K:aa):R2:=fun x y H Q=>∃p q a b c d,x=.ref p/\y=.ref q/\SqT K H p [.int a,.int b]/\SqT K H q [.int c,.int d]/\Q (.bl (leP a b c d)) H
noncomputable def rIndex:V->List V->Hp->VK->Prop:=fun x vs H Q=>∃(l:Addr)(ns:List Int)(k:Int),x=.ref l/\vs=[.int k]/\H l=some (.lst (ns.map V.int))/\k∈ns/\ns.length<=60/\Q (.int (ns.idxOf k:Nat)) H
end
end L2
namespace Q
open PySem PySem.Spec PySem.W PyProof.Rows L2
noncomputable def plt(x y:Int×Int):Bool:=decide (x.1<y.1\/x.1=y.1/\x.2<y.2)
noncomputable def ltP(ps:List (Int×Int))(i j:Nat):Bool:=plt (ps.getD i (0,0)) (ps.getD j (0,0))
noncomputable def ordP(ps:List (Int×Int)):List Nat:=if ps.length<2 then aM ps.length else(run (ltP ps) (bw ps.length)).toList
noncomputable def sortP{α:Type}(d:α)(ps:List (Int×Int))(ys:List α):List α:=(ordP ps).map fun i=>ys.getD i d
noncomputable def Cr(H:Hp)(ys:List V)(ps:List (Int×Int)):Prop:=Paired (fun v k=>∃a,v=V.ref a/\H a=some (.tup [.int k.1,.int k.2])) ys ps
noncomputable def rSortP(K:aa):List V->Hp->VK->Prop:=fun xs H Q=>∃p ys ps,xs=[V.ref p]/\SqL K H p ys/\ps.length<64/\ps.Nodup/\Cr H ys ps/\∀l,H l=none->Q (.ref l) (upd H l (.lst (sortP .non ps ys)))
end Q
namespace D8
open PySem PySem.Spec PySem.W PyProof.Rows L2
noncomputable abbrev four:List (Int×Int):=[(0,0),(0,1),(1,0),(1,1)]
noncomputable def Prs(H:Hp)(as:List Addr)(ps:List (Int×Int)):Prop:=as.length=ps.length/\∀(i:Nat) a q,as[i]? =some a->ps[i]? =some q->H a=some (.tup [.int q.1,.int q.2])
noncomputable def rSetP(K:aa):List V->Hp->VK->Prop:=fun xs H Q=>∃p as ps,xs=[V.ref p]/\SqL K H p (as.map V.ref)/\Prs H as ps/\(∀q∈ps,q∈four)/\∀a (ks:List (Int×Int)),H a=none->ks.Nodup->(∀r,r∈ks↔r∈ps)->Q (.ref a) (upd H a (_root_.Q.wm a ks.length))
end D8
namespace L2
open PySem PySem.Spec PyProof.Rows
section
variable {X:Cx}
noncomputable def CDivB(_ j:Int):Prop:=0<j/\j.natAbs.log2<9000
noncomputable def rDivB:R2:=rI CDivB fun i j=>.int (i/j)
theorem op_divb:OpR X (dw .FloorDiv) rDivB:=opI fun i j _ _ _ _ _ hc q=>by
 have h1:(0:Int)<j:=hc.1;exact floordiv_int (by omega) (by rw[i6 i (by omega)];exact q) (.inl (PyProof.noPylong_of_log2 hc.2))
noncomputable def rInsert:V->List V->Hp->VK->Prop:=fun x vs H Q=>∃l xs k y,x=.ref l/\vs=[.int k,y]/\H l=some (.lst xs)/\xs.length<sizeLine/\0<=k/\k<=xs.length/\Q .non (upd H l (.lst (xs.take k.toNat++y::xs.drop k.toNat)))
end
section
variable {X:Cx}
noncomputable def rSplit:V->List V->Hp->VK->Prop:=fun x vs H Q=>∃z y:Str,x=.str z/\vs=[.str y]/\(y.length==0)=false/\z.length+2<=sizeLine/\∀p,H p=none->Q (.ref p) (upd H p (.lst ((Txt.split z y).map V.str)))
end
noncomputable def Itz(K:aa)(a b:Addr):It:=
 ⟨fun i H=>∃xs ys x y,SqL K H a xs/\SqL K H b ys/\xs[i]? =some x/\ys[i]? =some y,
  fun i H v H'=>∃p x y,H p=none/\H'=upd H p (.tup [x,y])/\v=.ref p/\(∀xs,SqL K H a xs->xs[i]? =some x)/\∀ys,SqL K H b ys->ys[i]? =some y,
  fun i H=>∃xs ys,SqL K H a xs/\SqL K H b ys/\(xs.length<=i\/ys.length<=i)⟩
section
variable {X:Cx}{es:List Expr}{kk:Nat}{pp:Pos}
noncomputable def iZip(K:aa)(t:TA):TI:=fun σ H R=>t σ H fun vs H1=>∃a b,vs=[.ref a,.ref b]/\(∃xs,SqL K H1 a xs)/\(∃ys,SqL K H1 b ys)/\R (Itz K a b) H1
end
noncomputable def DkIn(P:Program)(w:World)(K:aa)(a:Addr)(kvs:List (Key×V)):Prop:=
 (a==zK)=false/\∃vs,KV kvs vs/\∀h,K.In h->h.DictOf (d4 P w) a vs
section
variable {X:Cx}{dic:Addr->Option (List (Key×V))}
noncomputable def rInG(dic:Addr->Option (List (Key×V))):R2:=fun x y H Q=>∃a kvs k,y=.ref a/\dic a=some kvs/\x=kV k/\Q (.bl (yG kvs k).isSome) H
noncomputable def rIxG(dic:Addr->Option (List (Key×V))):R2:=fun x y H Q=>∃a kvs k v,x=.ref a/\dic a=some kvs/\y=kV k/\yG kvs k=some v/\Q v H
end
noncomputable def fText(pre post:Str)(i:Int):Str:=Str.empty++pre++(toString i:Str)++post
noncomputable def tFst(pre post:Str)(t:TE):TE:=fun σ H Q=>(Str.empty++pre).length<=sizeLine/\t σ H fun x H1=>∃i,x=.int i/\i.natAbs.log2<1920/\(fText pre post i).length<=sizeLine/\Q (.str (fText pre post i)) H1
noncomputable def Itzt(K:aa)(a b:Addr):It:=
 ⟨fun i H=>∃xs ys x y,SqT K H a xs/\SqL K H b ys/\xs[i]? =some x/\ys[i]? =some y,
  fun i H v H'=>∃p x y,H p=none/\H'=upd H p (.tup [x,y])/\v=.ref p/\(∀xs,SqT K H a xs->xs[i]? =some x)/\∀ys,SqL K H b ys->ys[i]? =some y,
  fun i H=>∃xs,SqT K H a xs/\xs.length<=i⟩
section
variable {X:Cx}{es:List Expr}{kk:Nat}{pp:Pos}
noncomputable def iZipT(K:aa)(t:TA):TI:=fun σ H R=>t σ H fun vs H1=>∃a b,vs=[.ref a,.ref b]/\(∃xs,SqT K H1 a xs)/\(∃ys,SqL K H1 b ys)/\R (Itzt K a b) H1
end
end L2
namespace PySem
open Sem (wp)
local macro_rules | `(term| «the numeral») => return Lean.mkIdent (bE (bE (bE (Lean.Name.num (bE (bE (bE (bE (bE vK "_private") "PySem") "Builtin") "Int") "W0All") 0) "PySem") "Builtin") "readNumeral")
local macro_rules | `(term| «a value») => return Lean.mkIdent (bE (bE (bE (bE (Lean.Name.num (bE (bE (bE (bE (bE vK "_private") "PySem") "Builtin") "Int") "W0All") 0) "PySem") "Builtin") "Numeral") "value")
end PySem
namespace L2
open PySem PySem.Spec PyProof.Rows
inductive Fig:Str->Int->Prop
 |one {a:Nat} (h:a<10):Fig ⟨#[48+a]⟩ (a:Nat)
 |two {a b:Nat} (ha:a<10) (hb:b<10):Fig ⟨#[48+a,48+b]⟩ (10*a+b:Nat)
section
variable {X:Cx}{dic:Addr->Option (List (Key×V))}
noncomputable def upS(z:Str):Str:=⟨placed z fun _ c=>Unicode.upperOf c⟩
noncomputable def rUpper:V->List V->Hp->VK->Prop:=fun x vs H Q=>∃z:Str,x=.str z/\vs=[]/\(upS z).length<=100/\Q (.str (upS z)) H
noncomputable def rNiG(dic:Addr->Option (List (Key×V))):R2:=fun x y H Q=>∃a kvs k,y=.ref a/\dic a=some kvs/\x=kV k/\Q (.bl (!(yG kvs k).isSome)) H
end
end L2
namespace Q
open PySem PySem.Spec PySem.W PyProof.Rows L2
noncomputable def llt:List Int->List Int->Bool
 | [],[]=>false
 | [],_::_=>true
 |_::_,[]=>false
 |a::x,b::y=>decide (a<b)||(decide (a=b)&&llt x y)
noncomputable def ltL(ps:List (List Int))(i j:Nat):Bool:=llt (ps.getD i []) (ps.getD j [])
noncomputable def ordL(ps:List (List Int)):List Nat:=if ps.length<2 then aM ps.length else(run (ltL ps) (bw ps.length)).toList
noncomputable def AH{α:Type}(d:α)(ps:List (List Int))(ys:List α):List α:=(ordL ps).map fun i=>ys.getD i d
noncomputable def IntKeys(H:Hp)(ys:List V)(ps:List (List Int)):Prop:=Paired (fun v k=>∃a,v=V.ref a/\H a=some (.tup (k.map V.int))) ys ps
noncomputable def rSortL(K:aa):List V->Hp->VK->Prop:=fun xs H Q=>∃p ys ps m,xs=[V.ref p]/\SqL K H p ys/\ps.length<64/\ps.Nodup/\(∀k∈ps,k.length=m)/\IntKeys H ys ps/\∀l,H l=none->Q (.ref l) (upd H l (.lst (AH .non ps ys)))
noncomputable def rMinL(K:aa):List V->Hp->VK->Prop:=fun xs H Q=>∃(p q:Addr)(a b:List Int),xs=[V.ref p,V.ref q]/\SqT K H p (a.map V.int)/\SqT K H q (b.map V.int)/\a.length=b.length/\Q (if llt b a=true then .ref q else .ref p) H
noncomputable def rMaxL(K:aa):List V->Hp->VK->Prop:=fun xs H Q=>∃(p q:Addr)(a b:List Int),xs=[V.ref p,V.ref q]/\SqT K H p (a.map V.int)/\SqT K H q (b.map V.int)/\a.length=b.length/\Q (if llt a b=true then .ref q else .ref p) H
noncomputable def cat2(k:List Int×List Int):List Int:=k.1++k.2
noncomputable def Cq(H:Hp)(ys:List V)(ps:List (List Int×List Int)):Prop:=Paired (fun v k=>∃a x y rest,v=V.ref a/\H a=some (.tup (.ref x::.ref y::rest))/\H x=some (.tup (k.1.map V.int))/\H y=some (.tup (k.2.map V.int))) ys ps
noncomputable def rSortT(K:aa):List V->Hp->VK->Prop:=fun xs H Q=>∃(p:Addr)(ys:List V)(ps:List (List Int×List Int))(m:Nat),xs=[V.ref p]/\SqL K H p ys/\ps.length<64/\(ps.map cat2).Nodup/\(∀k∈ps,k.1.length=m/\k.2.length=m)/\Cq H ys ps/\∀l,H l=none->Q (.ref l) (upd H l (.lst (AH .non (ps.map cat2) ys)))
end Q
namespace L2
open PySem PySem.Spec PyProof.Rows
noncomputable def Itet(K:aa)(a:Addr):It:=
 ⟨fun i H=>∃xs x,SqT K H a xs/\xs[i]? =some x,fun i H v H'=>∃p x,H p=none/\H'=upd H p (.tup [.int i,x])/\v=.ref p/\∀xs,SqT K H a xs->xs[i]? =some x,fun i H=>∃xs,SqT K H a xs/\xs.length<=i⟩
section
variable {X:Cx}{es:List Expr}{kk:Nat}{pp:Pos}
noncomputable def iEnumT(K:aa)(t:TA):TI:=fun σ H R=>t σ H fun vs H1=>∃a,vs=[.ref a]/\(∃xs,SqT K H1 a xs)/\R (Itet K a) H1
end
end L2
namespace L2
open PySem PySem.Spec PySem.W PyProof.Rows
noncomputable def exO(e C:Addr)(d:Option Addr):HO:=.ext fun h=>∃x0,h.get? e=some {cls:=.ref C,dict:=d,data:=.fields #[.ref x0,.none,.none,.none,.bool false,.none]}
noncomputable def xdO(d:Addr)(fs:List (Str×V)):HO:=.ext fun h=>∃mA,h.Ns1 d mA/\(∀f,RelO (fs.lookup f) (mA f))/\xr mA (fs.map (·.1))
noncomputable def B1(K:aa)(C f:Addr)(bmB:List Value)(newId:String):Bool:=match K.lookup C with
 |some ⟨.type "type",_,.cls cd,sl⟩=>(match cd.mro,sl.toList with
  |.ref C'::bm,[_,_,_,_,some (.builtin n),_]=>C'==C&&n==newId&& !cd.hasDel&&tailIn K bmB bm&&nsOkIn K cd.ns&&nsIn K cd.ns "__init__"==some (some (.ref f))
  |_,_=>false)
 |_=>false
structure MkX(K:aa)(C f:Addr):Prop where
 ex:B1 K C f bmV "ValueError.__new__"=true
 fn:∃o,K.lookup f=some o/\o.cls=.type "function"
 kp:keepIn K (.ref C)=true
end L2
namespace L2
open PySem PySem.Spec PySem.W PyProof.Rows PySem.Builtin PySem.Builtin.ObjectAttr
noncomputable def overX:List Value->Bool
 |.ref _::r=>overX r
 |l=>l==bmV
section
variable {prog:Program}{w:World}{K:aa}{A:Around}{E:Value->Shared->Prop}{s:Shared}{e C:Addr}{name:Str}{v:Value}{vs:Array Value}{Q:Unit->Shared->Prop}
structure StX(K:aa)(C:Addr)(name:Str):Prop where
 hs:findIn K (.ref C) "__setattr__"=some (some (.builtin "object.__setattr__"))
 hp:(clsIn K C).any (fun cd=>overX cd.mro)=true
 ht:takerIn K C name=some none
 hd:(clsIn K C).any (·.hasDict)=true
noncomputable abbrev exObj(C:Addr)(d:Option Addr)(vs:Array Value):Obj:={cls:=.ref C,dict:=d,data:=.fields vs}
end
end L2
namespace L2
open PySem PySem.Spec PySem.W PyProof.Rows
noncomputable def sFldX(K:aa)(ta tv:TE)(f:Str):TS:=fun D σ H=>tv σ H fun y H1=>ta σ H1 fun x H2=>∃a C,x=.ref a/\StX K C f/\
 ((H2 a=some (exO a C none)/\∀dd,H2 dd=none->D.nx σ (upd (upd H2 dd (xdO dd [(f,y)])) a (exO a C (some dd))))\/
  ∃dd fs,H2 a=some (exO a C (some dd))/\H2 dd=some (xdO dd fs)/\fs.length<1000/\D.nx σ (upd H2 dd (xdO dd (putF f y fs))))
structure BsX(K:aa)(B:Addr):Prop where
 ga:specialIn K (.ref B) "__getattribute__"=some (some (.builtin "type.__getattribute__"))
 rd:readsIn K B (.type "type")=true
 fd:findCls K (.ref B) (.type "type") "__init__"=some (.val (.builtin "ValueError.__init__"))
noncomputable def tBase(K:aa)(B:Addr)(t:TA):TE:=fun σ H Q=>BsX K B/\t σ H fun vs H1=>∃a C f us,vs=.ref a::us/\H1 a=some (exO a C none)/\us.length<=sizeLine/\B1 K C f bmV "ValueError.__new__"=true/\Q .non H1
noncomputable def del(H:Hp)(a:Addr):Hp:=fun b=>if b=a then none else H b
section
variable {X:Cx}{pins:List (Addr×Obj)}{σ:St}{H:Hp}{s:Shared}
structure NewX(X:Cx)(pins:List (Addr×Obj))(H:Hp)(s:Shared)(a C:Addr)(d:Option Addr):Prop where
 at_:∃x0,s.heap.get? a=some (exObj C d #[.ref x0,.none,.none,.none,.bool false,.none])
 new:X.s₀.heap.get? a=none
 un:H a=none
 pins:∀p∈X.pn++pins,p.1≠a
theorem qF{M:Model}{E:Value->Shared->Prop}{Q:Unit->Shared->Prop}{a C:Addr}{d:Option Addr}(I:Inv X pins σ H s)(stk:X.stack=X.env::X.outer)(hf:X.env.frame=some X.env.locals)(n:NewX X pins H s a C d)
  (h:∀s2,Inv X pins σ H s2->Fly X.s₀.heap s2.heap H (X.pn++pins) a (.ref C) d->Q () s2):
  wpAny M X.A (jm (.ref a) X.env) (fun _ s'=>wpAny M X.A (vv (.ref a) none) Q E s') E s:=by
 obtain⟨x0,ht⟩:=n.at_;unfold jm;simp only[hf];refine af (iN (x:=.none) ht rfl (by rfl) ?_);rw[if_neg (show ¬(ck != ck)=true by simp)];exact enter I stk hf ht rfl (by simp) n.new n.un n.pins h
noncomputable def Ct(X:Cx)(E:XS):Prop:=∀(pins:List (Addr×Obj))(σ:St)(H:Hp)(s:Shared)(a C:Addr)(d:Option Addr),Inv X pins σ H s->NewX X pins H s a C d->E σ (.ref C) d H->X.xe (.ref a) s
theorem pE{P:Program}{w:World}{K:aa}{mg:Str->Option Value}{base:Heap}{N:List Str}{qual:Str}{scope:Scope}{f:Addr}{cd:Value}{A:Around}{outer:List Env}{s:Shared}{H:Hp}{E:XK}:
  Ct (qe (CXx P w) P w K mg base N qual scope f cd A outer s H E) (fun _=>E):=by
 intro pins σ H1 s1 a C d I n q;show wpAny _ _ (leaving _ _) _ _ _;unfold leaving;refine af (qF I rfl rfl n fun s2 I2 F2=>?_);obtain⟨⟨T,oe,vs,oT,ts,h1,h2,h3,h4,h5,h6,h7,h8,h9,h10,h11,_⟩,b1,b2,_⟩:=F2;exact⟨a,.ref C,d,H1,rfl,I2.os,I2.bare,I2.base,I2.hok,⟨⟨T,oe,vs,oT,ts,h1,h2,h3,h4,h5,h6,h7,h8,h9,h10,h11,fun _ z=>nomatch z⟩,b1,b2,fun _ z=>nomatch z⟩,q⟩
theorem yH{x n:Str}{C:Addr}{i:Nat}{b₀:Stmt}{suite:List Stmt}{np hpos:Pos}{ts:TS}{D:Ends}(O:vo X x n C i (b₀::suite) ts){pins':List (Addr×Obj)}{a Cx':Addr}{d:Option Addr}(ok:X.Ok)
  (I:Inv (X.re X.A X.calm (X.pn++pins) (gZ X pins D [.ExceptHandler (some (.Name x np)) (some n) (b₀::suite) hpos])) pins' σ H s)(m:NewX (X.re X.A X.calm (X.pn++pins) (gZ X pins D [.ExceptHandler (some (.Name x np)) (some n) (b₀::suite) hpos])) pins' H s a Cx' d)(h:lu X.K C i ts D σ (.ref Cx') d H):
  gZ X pins D [.ExceptHandler (some (.Name x np)) (some n) (b₀::suite) hpos] (.ref a) s:=by
 have J:Inv X pins σ H s:=I.Ac ok fun p z=>cV _ z;exact qF J O.stk O.fr ⟨m.at_,m.new,m.un,fun p hp=>m.pins p (cV _ hp)⟩ fun s2 I2 F2=>m6 O I2 F2 h
noncomputable def sRaisX(C:Addr)(sp:Sp)(dvs:List V)(E:XS)(t:TA):TS:=fun _ σ H=>t σ H fun vs H1=>vs.length<=sizeLine/\∀a,H1 a=none->
 sp (.ref a::(vs++dvs)) (upd H1 a (exO a C none)) (fun v H2=>v=.non/\∃d,H2 a=some (exO a C d)/\E σ (.ref C) d (del H2 a)) (E σ)
end
noncomputable def fldOk(K:aa)(C:Addr)(f:Str):Bool:=
 jP K C&&findIn K (.ref C) f==some none&&(match clsIn K C with |some cd=>cd.hasDict|none=>false)
noncomputable def rFld(K:aa)(f:Str):V->Hp->VK->Prop:=fun x H Q=>∃a C dd fs v,x=.ref a/\H a=some (vc a (.ref C) (some dd))/\H dd=some (xdO dd fs)/\fldOk K C f=true/\fs.lookup f=some v/\Q v H
noncomputable def tRepl(ta tb:TE)(i:Nat)(c d:Str)(tr:TA):TA:=fun σ H Q=>ta σ H fun x H1=>tb σ H1 fun y H2=>∃u v z:Str,x=.str u/\y=.str v/\(1<=u.length/\1<=v.length/\u.length+v.length<=sizeLine/\z.length<=1000)/\σ[i]? =some (some (.str z))/\
 tr σ H2 fun xs H3=>Q (.str (u++v)::.str (Txt.replace z c d)::xs) H3
section
variable {X:Cx}{a b:Expr}{es:List Expr}{ta tb:TE}{tr:TA}{i:Nat}{x c d:Str}{p1 np apos cpos p2 p3:Pos}{j1 j2:Nat}
noncomputable def tMkf(K:aa)(C:Addr)(sp:Sp)(dvs:List V)(E:XS)(fl:Str)(t:TA):TE:=fun σ H Q=>t σ H fun vs H1=>vs.length<=sizeLine/\∀a,H1 a=none->
 sp (.ref a::(vs++dvs)) (upd H1 a (exO a C none)) (fun v H2=>v=.non/\∃b dd fs w,V.ref a=.ref b/\H2 b=some (exO b C (some dd))/\H2 dd=some (xdO dd fs)/\fldOk K C fl=true/\fs.lookup fl=some w/\Q w H2) (E σ)
end
end L2
namespace HT
open PySem PyProof.Rows
section
variable {prog:Program}{w:World}{A:Around}{E:Value->Shared->Prop}{s:Shared}
theorem l5{t sl:Addr}{items:Array Value}{vl vu:Value}{lo hi:Option Int}{Q:Value->Shared->Prop}(ht:IsTup s.heap t items)(hs:s.heap.IsSliceOf sl vl vu .none)(pl:IsPart vl lo)(pu:IsPart vu hi)
  (h1:sIx items.size 0 lo=0)(h2:sIx items.size items.size hi=items.size)(h:Q (.ref t) s):wpAny (model prog w) A (tf (.ref t) (.ref sl)) Q E s:=by
 obtain⟨os,hos,hcs,hds⟩:=id hs;have hTs:s.TypeIs (.ref sl) "slice":=⟨os,hos,hcs⟩;unfold tf;try with_reducible refine cZ ?_
 first |refine af (ak ?_) |skip
 refine af (wpAny_sequenceKey ht.typeIs (by decide) ?_);refine af (wpAny_callSpecial?_slot (name:=aV "__getitem__") ht.typeIs b7
  (vt b7 ht.typeIs entry_tuple_getitem ?_ (args_tuple_getitem _ _)))
 show wpAny _ _ (ng (.ref t)>>=_) _ _ s;refine af (tupleItemsOf_ ht ?_);refine af (wpAny_typeOf hTs ?_);rw[if_pos (by decide)];refine af (iU hs pl pu ?_);show wpAny _ _ (if(((sIx items.size 0 lo:Nat):Int)==0&&(1:Int)==1&&(sIx items.size items.size hi-sIx items.size 0 lo)==items.size)=true then _ else _) _ _ s;rw[if_pos (by rw[h1,h2];simp)];refine af (m:=nh (.ref t)) ?_;unfold nh;refine af (wpAny_typeOf ht.typeIs (ak ?_));rw[if_pos (by decide)];exact af (ee (ak ⟨_,rfl,ak h⟩))
end
end HT
namespace L2
open PySem PySem.Spec PySem.W PyProof.Rows
noncomputable def rSlW(K:aa):V->Option Int->Option Int->Hp->VK->Prop:=fun x lo hi H Q=>∃a xs,x=.ref a/\SqT K H a xs/\HT.sIx xs.length 0 lo=0/\HT.sIx xs.length xs.length hi=xs.length/\Q (.ref a) H
theorem sl_tupW{X:Cx}:SlR X (rSlW X.K):=by
 intro pins s σ H x v vl vu lo hi sl Q I rx hs pl pu h;obtain⟨a,xs,rfl,hx,h1,h2,q⟩:=h;cases rx;obtain⟨its,r,ht,hz⟩:=I.tuple hx;have hlen:its.toArray.size=xs.length:=by rw[av];exact r.length.symm
 refine⟨"tuple",_,b7.lookup,ht.typeIs,?_⟩;exact HT.l5 ht hs pl pu (by rw[hlen];exact h1) (by rw[hlen];exact h2) ⟨.ref a,H,I,rfl,q⟩
noncomputable def tMakeS(C:Addr)(sp:Sp)(dvs:List V)(E:XS)(t:TA):TE:=fun σ H Q=>tMake C sp dvs (E σ) t σ H Q
noncomputable def tMethS(C:Addr)(m:Str)(sp:Sp)(dvs:List V)(E:XS)(ta:TE)(t:TA):TE:=fun σ H Q=>tMeth C m sp dvs (E σ) ta t σ H Q
end L2
namespace L2
open PySem PySem.Spec PyProof.Rows
section
variable {X:Cx}{pins:List (Addr×Obj)}{σ:St}{H N:Hp}{s:Shared}{h':Heap}
noncomputable def tLZip(K:aa)(t:TA):TE:=fun σ H Q=>t σ H fun vs H1=>∃a b xs ys,vs=[.ref a,.ref b]/\SqL K H1 a xs/\SqL K H1 b ys/\xs.length<=1000/\∀H' p ws,aN H1 H'->H1 p=none->H' p=some (.lst ws)->ws.length=min xs.length ys.length->
 (∀(j:Nat)(x y:V),xs[j]? =some x->ys[j]? =some y->∃q,ws[j]? =some (.ref q)/\H1 q=none/\H' q=some (.tup [x,y]))->Q (.ref p) H'
end
end L2
namespace Q
open PySem
noncomputable def pG(xs:Array Nat):Prop:=xs.toList.Pairwise (·<·)
structure Parts(xs:Array Nat)(j p:Nat):Prop where
 le:p<=xs.size
 lo:∀i x,i<p->xs[i]? =some x->x<j
 hi:∀i x,p<=i->xs[i]? =some x->j<=x
theorem rY{xs:Array Nat}(h:pG xs){i k x y:Nat}(hik:i<k)(hx:xs[i]? =some x)(hy:xs[k]? =some y):x<y:=by
 have hx':xs.toList[i]? =some x:=by simpa using hx
 have hy':xs.toList[k]? =some y:=by simpa using hy
 obtain⟨h1,e1⟩:=aU.mp hx';obtain⟨h2,e2⟩:=aU.mp hy';have :=aX.mp h i k h1 h2 hik;rw[e1,e2]at this;exact this
theorem pd{xs:Array Nat}(h:pG xs)(j:Nat):∀(fuel lo hi:Nat),hi-lo<=fuel->lo<=hi->hi<=xs.size->(∀i x,i<lo->xs[i]? =some x->x<j)->(∀i x,hi<=i->xs[i]? =some x->j<=x)->Parts xs j (tm xs j fuel lo hi)
 | 0,lo,hi,hf,hl,hs,a,b=>by
  have e:lo=hi:=by omega
  subst e;exact⟨hs,a,b⟩
 |fuel+1,lo,hi,hf,hl,hs,a,b=>by
  unfold tm;by_cases c:lo<hi
  ·rw[if_pos c]
   have hm:(lo+hi)/2<xs.size:=by omega
   have em:xs[(lo+hi)/2]? =some xs[(lo+hi)/2]:=by simp[hm]
   have eg:xs.getD ((lo+hi)/2) j=xs[(lo+hi)/2]:=by simp[Array.getD,hm]
   simp only[eg];by_cases d:xs[(lo+hi)/2]<j
   ·rw[if_pos d]
    refine pd h j fuel _ hi (by omega) (by omega) hs (fun i x hi' e=>?_) b;by_cases k:i=(lo+hi)/2
    ·subst k
     rw[em]at e;cases e;exact d
    ·exact iQ (rY h (by omega) e em) d
   ·rw[if_neg d]
    refine pd h j fuel lo _ (by omega) (by omega) (by omega) a fun i x hi' e=>?_;by_cases k:i=(lo+hi)/2
    ·subst k
     rw[em]at e;cases e;omega
    ·have :=rY h (by omega:(lo+hi)/2<i) em e
     omega
  ·rw[if_neg c]
   have e:lo=hi:=by omega
   subst e;exact⟨hs,a,b⟩
theorem nQ{xs:Array Nat}(h:pG xs)(j:Nat):Parts xs j (dh xs j):=
 pd h j xs.size 0 xs.size (by omega) (aW _) (aq _) (fun i x hi _=>absurd hi (fN _)) fun i x hi e=>by
  have :=(cI.mp e).1
  omega
theorem uR{α:Type}(xs:Array α)(p:Nat)(x:α):(mF xs p x).toList=xs.toList.take p++x::xs.toList.drop p:=by
 unfold mF;simp;exact cJ (by simp)
theorem ud{xs:Array Nat}{j:Nat}(h:pG xs)(hj:∀i:Nat,xs[i]? ≠some j):pG (mF xs (dh xs j) j):=by
 have P:=nQ h j;unfold pG;rw[uR];have sub:=h;unfold pG at sub;rw[bR];refine⟨sub.sublist (gb _ _),iT.mpr ⟨fun y hy=>?_,sub.sublist (List.drop_sublist _ _)⟩,fun x hx y hy=>?_⟩
 ·obtain⟨i,hi⟩:=cO.mp hy
  rw[dy]at hi;have e:xs[dh xs j+i]? =some y:=by simpa using hi
  have :=P.hi _ _ (Nat.le_add_right _ _) e
  have ne:y≠j:=fun z=>hj _ (z▸e);omega
 ·obtain⟨i,hi⟩:=cO.mp hx
  have hip:i<dh xs j:=by
   have :=(aU.mp hi).1
   rw[aA]at this;omega
  rw[vI hip]at hi;have e:xs[i]? =some x:=by simpa using hi
  have lx:=P.lo _ _ hip e;rcases aO.mp hy with rfl|hy
  ·exact lx
  ·obtain⟨k,hk⟩:=cO.mp hy
   rw[dy]at hk;have e2:xs[dh xs j+k]? =some y:=by simpa using hk
   have :=P.hi _ _ (Nat.le_add_right _ _) e2
   omega
theorem zE{xs:Array Nat}(h:pG xs){i x:Nat}(e:xs[i]? =some x):dh xs x=i:=by
 have P:=nQ h x;apply Nat.le_antisymm
 ·apply qt
  intro c;exact dq _ (P.lo i x c e)
 ·apply qt
  intro c;have hs:dh xs x<xs.size:=iQ c (cI.mp e).1;have e2:xs[dh xs x]? =some xs[dh xs x]:=by simp[hs]
  have a:=P.hi _ _ (aq _) e2;have b:=rY h c e2 e;omega
theorem wq(n:Nat):pG (Array.range n):=by
 unfold pG;rw[Array.toList_range];exact yB
structure jv(t:cC):Prop where
 up:pG t.place
 no:t.dummies= #[]
theorem slot_no{t:cC}(T:jv t)(j:Nat):t.slot j≠.dummy:=by
 unfold cC.slot;simp only[T.no];split
 ·simp
 ·split
  ·rename_i h
   exact absurd h (by simp[tF])
  ·simp
theorem yK{t:cC}(T:jv t){j:Nat}(h:t.slot j=.empty):∀i:Nat,t.place[i]? ≠some j:=fun i e=>by
 have :=zE T.up e
 unfold cC.slot at h;simp only[this,e,beq_self_eq_true,if_true]at h;cases h
theorem qj(t:cC)(p:cC.Probe):(t.advance p).dummy=p.dummy:=by
 unfold cC.advance;split <;>rfl
theorem oQ{t:cC}(T:jv t){f:Nat->Int}{h:Int}{j:Nat}{d:Option Nat}:∀(fuel:Nat)(p:cC.Probe),p.dummy=none->km t f h fuel p=some (.empty j d)->t.slot j=.empty/\d=none
 | 0,p,_,e=>by simp[km]at e
 |fuel+1,p,hp,e=>by
  unfold km at e;cases hs:t.slot p.j with
  |empty=>
   rw[hs]at e;simp only[hW,cC.Met.empty.injEq]at e;exact⟨by rw[<-e.1];exact hs,by rw[<-e.2];exact hp⟩
  |dummy=>exact absurd hs (slot_no T _)
  |live i=>
   rw[hs]at e;simp only at e;split at e
   ·cases e
   ·exact oQ T fuel _ (by rw[qj];exact hp) e
theorem qd{t:cC}(T:jv t){h:Int}{j:Nat}{b:Bool}(e:t.freeSlot h=some (j,b)):(∀i:Nat,t.place[i]? ≠some j)/\b=false:=by
 unfold cC.freeSlot at e;split at e
 ·rename_i j' d hm
  unfold cC.probe at hm;obtain⟨h1,h2⟩:=oQ T _ _ (by rfl) hm;subst h2;simp only[ou,Option.isSome_none,hW,tB]at e;obtain⟨rfl,rfl⟩:=e;exact⟨yK T h1,rfl⟩
 ·cases e
theorem gP(t:cC)(n:Nat):jv (t.standIn n):=⟨wq n,rfl⟩
theorem A1{t:cC}(T:jv t){j:Nat}(hj:∀i:Nat,t.place[i]? ≠some j):jv (t.put j).1:=by
 refine⟨ud T.up hj,?_⟩;show(if tF t.dummies j=true then _ else t.dummies)= #[];rw[T.no];simp[tF]
theorem oU{t:cC}(T:jv t)(n:Nat):jv (t.orStandIn n):=by
 unfold yy;split
 ·exact T
 ·exact gP t n
theorem uM{t:cC}(T:jv t)(es:Array (Int×Value))(h:Int)(x:Value):jv (layNew t es h x).2.1/\(layNew t es h x).2.2.1=false:=by
 unfold layNew;split
 ·rename_i j b e
  obtain⟨h1,h2⟩:=qd T e;subst h2;exact⟨oU (A1 T h1) _,rfl⟩
 ·exact⟨gP t _,rfl⟩
theorem qN{mask finger moves:Nat}{led plain:Bool}{hashes:Array Int}{t:cC}{order:Array Nat}(h:cC.laid mask finger moves led plain hashes=some (t,order)):jv t/\t.led=led/\t.plain=plain:=by
 unfold cC.laid at h;cases e:cC.layClean mask hashes with
 |none=>rw[e]at h;cases h
 |some owner=>
  rw[e]at h;have h':some (({mask,place:=(((aM (mask+1)).filterMap fun j=>(owner.getD j none).map (j,·)).map (·.1)).toArray,dummies:= #[],finger,led,moves,plain}:cC),(((aM (mask+1)).filterMap fun j=>(owner.getD j none).map (j,·)).map (·.2)).toArray)=some (t,order):=h;have h2:=(eQ (a9 h')).1;subst h2;refine⟨⟨?_,rfl⟩,rfl,rfl⟩;show((((aM (mask+1)).filterMap fun j=>(owner.getD j none).map (j,·)).map (·.1)).toArray).toList.Pairwise (·<·);rw[CM,dH,List.pairwise_filterMap];refine yB.imp fun{a b} hab x hx y hy=>?_;cases ha:owner.getD a none with
  |none=>rw[ha]at hx;cases hx
  |some u=>
   cases hb:owner.getD b none with
   |none=>rw[hb]at hy;cases hy
   |some v=>
    rw[ha]at hx;rw[hb]at hy;cases hx;cases hy;exact hab
theorem pY(t:cC)(es:Array (Int×Value))(wanted:Nat):jv (lD t es wanted).2.1:=by
 unfold lD;split
 ·rename_i t' order e
  simp only;split
  ·unfold CD at e
   exact(qN e).1
  ·exact gP t _
 ·exact gP t _
theorem put_led(t:cC)(j:Nat):(t.put j).1.led=t.led:=rfl
theorem qa(t:cC)(n:Nat):(t.orStandIn n).led=t.led:=by
 unfold yy;split <;>rfl
theorem wI(t:cC)(es:Array (Int×Value))(h:Int)(x:Value):(layNew t es h x).2.1.led=t.led:=by
 unfold layNew;split
 ·exact(qa _ _).trans (put_led _ _)
 ·rfl
theorem r9(t:cC)(es:Array (Int×Value))(wanted:Nat):(lD t es wanted).2.1.led=t.led:=by
 unfold lD;split
 ·rename_i t' order e
  simp only;split
  ·unfold CD at e
   exact(qN e).2.1
  ·rfl
 ·rfl
section
variable {prog:Program}{w:World}{K:Type}[DecidableEq K]{knd:KeyKind prog w K}{A:Around}{E:Value->Shared->Prop}{s:Shared}
noncomputable def m7(knd:KeyKind prog w K)(h:Heap)(a:Addr)(S:K->Bool)(n:Nat)(led:Bool):Prop:=
 ∃o es ep t,h.get? a=some o/\o.ExactSet/\o.data=.set es ep t/\ElemsOf knd es.toList/\(∀k,S k=true↔∃e∈es.toList,knd.is k e.2=true)/\es.size<gA/\t.fits es.size=true/\es.size=n/\jv t/\t.led=led
theorem m7.of{h:Heap}{a:Addr}{S:K->Bool}{n:Nat}{led:Bool}(x:m7 knd h a S n led):h.SetOf knd a S n:=by
 obtain⟨o,es,ep,t,e1,e2,e3,e4,e5,e6,e7,e8,_⟩:=x;exact⟨o,es,ep,t,e1,e2,e3,e4,e5,e6,e7,e8⟩
theorem oM{h:Heap}{a:Addr}{o:Obj}{es:Array (Int×Value)}{ep:Nat}{t:cC}(ho:h.get? a=some o)(hx:o.ExactSet)(hd:o.data=.set es ep t){es':Array (Int×Value)}{t':cC}{S':K->Bool}(hl:ElemsOf knd es'.toList)(hm:∀k,S' k=true↔∃e∈es'.toList,knd.is k e.2=true)(hb:es'.size<gA)(hf:t'.fits es'.size=true)(ht:jv t'):
  m7 knd (h.update a (Obj.putSet es' t')) a S' es'.size t'.led:=by
 have g:=(SetOf_store (knd:=knd) ho hx hd hl hm hb hf).1;exact⟨_,es',ep+1,t',g,hx,rfl,hl,hm,hb,hf,rfl,ht,rfl⟩
theorem vn{g:Bool->Sem Unit}(hg:∀(b:Bool)(s₁:Shared)(Q':Unit->Shared->Prop),Q' () s₁->wpAny (model prog w) A (g b) Q' E s₁){a:Addr}{o:Obj}{es:Array (Int×Value)}{ep:Nat}{t:cC}(ho:s.heap.get? a=some o)(hx:o.ExactSet)(hd:o.data=.set es ep t)
  {es1:Array (Int×Value)}{t2:cC}{S':K->Bool}(hl:ElemsOf knd es1.toList)(hm:∀k',S' k'=true↔∃e∈es1.toList,knd.is k' e.2=true)(hb:es1.size<gA)(hf:t2.fits es1.size=true)(ht:jv t2){wasDummy:Bool}{R:Option Bool->Shared->Prop}
  (h:∀h',kA a s.heap h'->m7 knd h' a S' es1.size t2.led->R (some true) {s with heap:=h'}):
  wpAny (model prog w) A (do
    storeSet a es1 t2
    if(!wasDummy&&t2.tooFull)=true then do
      g (lD t2 es1 (dS es1.size)).2.2
      storeSet a (lD t2 es1 (dS es1.size)).1 (lD t2 es1 (dS es1.size)).2.1
      pure (some true)
     else pure (some true)) R E s:=by
 refine af (wpAny_storeSet_of ho hd ?_ (fits_of_scanBound hb));have ho1:=(SetOf_store (knd:=knd) ho hx hd hl hm hb hf).1;have x1:=oM (knd:=knd) ho hx hd hl hm hb hf ht;have sb:=dE s.heap a (Obj.putSet es1 t2);split
 ·have hp:=relayAll_perm t2 es1 (dS es1.size)
  have hr:=relayAll_fits t2 es1 (dS es1.size);have hT:=pY t2 es1 (dS es1.size);have hL:=r9 t2 es1 (dS es1.size);generalize lD t2 es1 (dS es1.size)=Rl at hp hr hT hL⊢;obtain⟨es2,t3,gave⟩:=Rl;dsimp only at hp hr hT hL⊢;have hz:es2.size=es1.size:=by rw[<-ax,hp.length_eq,ax]
  refine af (hg _ _ _ (af (wpAny_storeSet_of ho1 rfl ?_ (fits_of_scanBound (by rw[hz];exact hb)))));have x2:=oM (knd:=knd) ho1 hx rfl (hl.perm hp) (fun k'=>(hm k').trans ⟨fun⟨e,he,q⟩=>⟨e,hp.mem_iff.mpr he,q⟩,fun⟨e,he,q⟩=>⟨e,hp.mem_iff.mp he,q⟩⟩) (by rw[hz];exact hb) hr hT;rw[hz,hL]at x2;exact ak (h _ (sb.trans (dE _ a _)) x2)
 ·exact ak (h _ sb x1)
theorem wy{t:cC}(T:jv t):jv {t with plain:=false}:=⟨T.up,T.no⟩
theorem addX{a:Addr}{S:K->Bool}{n:Nat}{led:Bool}{k:K}{x:Value}{Q:Bool->Shared->Prop}(hk:knd.is k x=true)(hsc:x.scannable=true)(hS:m7 knd s.heap a S n led)(hroom:n+1<gA)
  (h:∀h',kA a s.heap h'->m7 knd h' a (fun k'=>S k'||decide (k'=k)) (if S k then n else n+1) led->Q (!S k) {s with heap:=h'}):
  wpAny (model prog w) A (setAddHashed a x (knd.hash k)) Q E s:=by
 obtain⟨o,es,ep,t,ho,hx,hd,hl,hm,hb,hf,hn,ht,he⟩:=hS;have hb1:es.size+1<gA:=by rw[hn];exact hroom
 unfold setAddHashed setAddHashedIn;refine cZ (af (wpAny_setState_of ho hd hf ?_));dsimp only;rw[byScan_of hsc hb hl];simp only[↓reduceIte];unfold setAddByScan;refine af ?_;refine af (ee (af (wpAny_setScan_of hk ho hd hf hl ?_)));cases hr:List.findIdx? (fun e=>knd.is k e.2) es.toList with
 |some j=>
  dsimp only;obtain⟨hj,hp,_⟩:=List.findIdx?_eq_some_iff_getElem.mp hr;have hSk:S k=true:=(hm k).mpr ⟨es.toList[j],bp hj,hp⟩;refine ak (ak ?_);have :=h s.heap (kA.refl a s.heap) ⟨o,es,ep,t,ho,hx,hd,hl,fun k'=>by
   rw[bC,decide_eq_true_eq,<-hm k'];exact⟨fun q=>q.elim id (fun e=>e▸hSk),.inl⟩,hb,hf,by rw[hSk];exact hn,ht,he⟩
  rw[hSk]at this;exact this
 |none=>
  dsimp only;have hSk:S k=false:=by
   cases q:S k with
   |false=>rfl
   |true=>
    obtain⟨e,m1,m2⟩:=(hm k).mp q;have :=List.findIdx?_eq_none_iff.mp hr e m1;rw[m2]at this;cases this
  have hw:∀(b:Bool){s₁:Shared}{Q':Unit->Shared->Prop},Q' () s₁->wpAny (model prog w) A (match b with |true=>rule "set.scan.the-table-gave-way" |false=>pure ()) Q' E s₁:=fun b s₁ Q' q=>by cases b<;>first |exact ak q|exact ee q
  have hp:=layNew_perm t es (knd.hash k) x;have hfit:=layNew_fits t es (knd.hash k) x;have hT:=(uM ht es (knd.hash k) x).1;have hL:=wI t es (knd.hash k) x;generalize layNew t es (knd.hash k) x=L at hp hfit hT hL⊢;obtain⟨es1,t1,wd,gave⟩:=L;dsimp only at hp hfit hT hL⊢;rw[eM]at hp;have l1:ElemsOf knd es1.toList:=(hl.push hk hsc).perm hp;have m1:∀k',(S k'||decide (k'=k))=true↔∃e∈es1.toList,knd.is k' e.2=true:=mem_push_iff hk hm hp;have z1:es1.size=n+1:=by rw[<-ax,hp.length_eq,ai,ax,hn];rfl
  have b1:es1.size<gA:=by rw[z1];exact hroom
  refine af (hw _ ?_);have fin:∀h',kA a s.heap h'->m7 knd h' a (fun k'=>S k'||decide (k'=k)) es1.size led->Q true {s with heap:=h'}:=fun h' sb x=>by
   have :=h h' sb
   rw[hSk]at this;rw[z1]at x;exact this x
  split
  ·refine af ?_
   rw[hashByValue_scannable 8 hsc];refine ak (vn ?_ ho hx hd l1 m1 b1 ?_ ?_ ?_)
   ·intro b s₁ Q' q;cases b<;>first |exact ak q|exact ee q
   ·split
    ·exact hfit
    ·exact cC.fits_plain_off hfit
   ·split
    ·exact hT
    ·exact wy hT
   ·intro h' sb x
    refine ak (fin h' sb ?_);split at x
    ·rw[hL,he]at x;exact x
    ·have e2:({t1 with plain:=false}:cC).led=led:=hL.trans he
     rw[e2]at x;exact x
  ·refine af (ak ?_)
   simp only[↓reduceIte];refine vn ?_ ho hx hd l1 m1 b1 hfit hT ?_
   ·intro b s₁ Q' q;cases b<;>first |exact ak q|exact ee q
   ·intro h' sb x
    rw[hL,he]at x;exact ak (fin h' sb x)
end
end Q
set_option maxHeartbeats 3200000
namespace Q
open PySem PySem.Spec PySem.W PyProof.Rows L2
section
variable {prog:Program}{w:World}{A:Around}{R:Result->Shared->Prop}{I:Addr}{fp wr:List Addr}{G:Array zS->Array zS->Prop}{n:Nat}{P:Nat->Value->Prop}{St:Nat->Shared->Prop}
theorem qE{led:Bool}(W:WalksS prog w A.in1 I fp wr G n P St)(S:Addr)(hSf:S∉fp)(ks:List Key)(hn:ks.length=n)(hv:∀i v,P i v->∃k,ks[i]? =some k/\RelV (kV k) v)(hb:n+1<gA):
  ∀(m i:Nat)(s:Shared),n-i=m->i<=n->St i s->m7 (d4 prog w) s.heap S (has (met (ks.take i))) (met (ks.take i)).length led->
   (∀s',Moved (S::wr) G s s'->m7 (d4 prog w) s'.heap S (has (met ks)) (met ks).length led->R (.ok (.ret .none)) s')->
   mw (model prog w) A (.builtin "set.update.loop" ⟨[.ref S,.ref I],[]⟩) R s
 | 0,i,s,hm,hi,st,hS,hR=>by
  obtain rfl:i=n:=by omega
  rw[<-hn,d8]at hS;refine mD jn ?_;rw[kZ eD _];show wpAny _ A.in1 (pyNext (.ref I)>>=_) _ _ s;refine af (W.done s _ _ st fun s' mv=>?_);obtain⟨o,es,ep,t,ho,rest⟩:=hS;exact ak (hR s' (mv.mono fun b hb=>aJ _ hb) ⟨o,es,ep,t,mv.heap S _ (fun z=>hSf (W.sub _ z)) ho,rest⟩)
 |m+1,i,s,hm,hi,st,hS,hR=>by
  have hlt:i<n:=by omega
  refine mD jn ?_;rw[kZ eD _];show wpAny _ A.in1 (pyNext (.ref I)>>=_) _ _ s;refine af (W.item i s _ _ hlt st fun v s' hP st' mv=>?_);obtain⟨k,hk,rv⟩:=hv i v hP;have hS1:m7 (d4 prog w) s'.heap S (has (met (ks.take i))) (met (ks.take i)).length led:=by
   obtain⟨o,es,ep,t,ho,rest⟩:=hS;exact⟨o,es,ep,t,mv.heap S _ (fun z=>hSf (W.sub _ z)) ho,rest⟩
  have hsc:v.scannable=true:=by
   cases k with
   |inl j=>obtain⟨t,rfl⟩:=rv;rfl
   |inr x=>obtain⟨t,rfl⟩:=rv;rfl
  show wpAny _ A.in1 (holding [v] (setAdd S v)>>=_) _ _ s';refine af (cZ ?_);unfold setAdd;refine cZ (af ((d4 prog w).pyHash (k:=k) (kV_is rv) ?_));have hle:=met_le (ks.take i);rw[aA]at hle;refine addX (knd:=d4 prog w) (led:=led) (s:={s' with toks:=s'.toks+1}) (kV_is rv) hsc hS1 (by omega) fun h' hsb hS2=>?_;have et:ks.take (i+1)=ks.take i++[k]:=by rw[da,hk];rfl
  have hS3:m7 (d4 prog w) h' S (has (met (ks.take (i+1)))) (met (ks.take (i+1))).length led:=by
   rw[et,BB];obtain⟨o,es,ep,t,ho,hex,hd,hel,hmem,hbb,hf,hnn,htt⟩:=hS2;refine⟨o,es,ep,t,ho,hex,hd,hel,fun j=>?_,hbb,hf,by rw[lV];exact hnn,htt⟩;rw[<-hmem j,fY,uF,bC,fY,decide_eq_true_eq]
  refine ak ⟨plainId_quiet eD _,qE W S hSf ks hn hv hb m (i+1) _ (by omega) hlt (W.frame _ s' _ _ st' (jq _) fun b hq o e=>?_) hS3 fun s'' mv2 hS4=>?_⟩
  ·rw[hsb.2 b (fun z:b=S=>hSf (by rw[<-z];exact hq))]
   exact e
  ·refine hR s'' (Moved.trans W.gtrans ((mv.mono fun b hb=>aJ _ hb).then_heap (jq _) fun b o hq e=>?_) mv2) hS4
   rw[hsb.2 b (fun z:b=S=>hq (by rw[z];exact aH))];exact e
end
section
variable {prog:Program}{w:World}{A:Around}{E:Value->Shared->Prop}{s:Shared}
theorem zx(a:Value){Q₁:Value->Shared->Prop}(h:Q₁ (.ref s.heap.objs.size) {s with heap:=s.heap.push (jt (!w.params.followText "set-order"))}):mw (model prog w) A (.call (.builtin "set.__new__") ⟨[.type "set",a],[]⟩) (wants Q₁ E) s:=by
 refine codeAny_of_tree ?_;show wpAny _ A.in1 (do vy "set.__new__" ⟨[.type "set",a],[]⟩;again (.builtin "set.__new__" ⟨[.type "set",a],[]⟩)) _ _ s;refine af (wpAny_of_eq (F.newCall_set_1 a) (ak ⟨plainId_quiet F.plain_set_new _,mD F.entry_set_new ?_⟩));rw[kZ F.plain_set_new _];unfold Builtin.«set.__new__» Builtin.Frozenset.newClass;have hsub:=sub_set_self;obtain⟨hp,g,d,tk,os⟩:=s;dsimp only;wp_walk;refine wpAny_askSetting (ak ?_);dsimp only;simp only[newObj];exact af (wpAny_alloc (ak (ak h)))
theorem yO{l:Addr}{items:Array Value}{P:Bool->Heap->Prop}{Q:Value->Shared->Prop}(hl:s.heap.IsList l items)
  (hloop:∀(led:Bool)(R:Result->Shared->Prop),(∀s',Moved (s.heap.objs.size::[(s.heap.push (jt led)).objs.size]) (fun a b=>b=a) {s with heap:=(s.heap.push (jt led)).push {cls:=.type "list_iterator",data:=.fields #[.ref l,.int 0 0]}} s'->P led s'.heap->R (.ok (.ret .none)) s')->mw (model prog w) A.in1.in1 (.builtin "set.update.loop" ⟨[.ref s.heap.objs.size,.ref (s.heap.push (jt led)).objs.size],[]⟩) R {s with heap:=(s.heap.push (jt led)).push {cls:=.type "list_iterator",data:=.fields #[.ref l,.int 0 0]}})
  (h:∀(h':Heap)(tk:Nat),P (!w.params.followText "set-order") h'->(∀b o,b<s.heap.objs.size->s.heap.get? b=some o->h'.get? b=some o)->Q (.ref s.heap.objs.size) {s with heap:=h',toks:=tk}):
  wpAny (model prog w) A (call (.type "set") [.ref l]) Q E s:=by
 have c0:=F.called_set;obtain⟨c,tl,hmro⟩:=c0.mro;have f1:=c0.made;have f2:=c0.sub;have f3:=c0.notType;have f4:=c0.canCreate;have f5:=F.typeCall_set_1 (.ref l);refine qm (codeAny_of_tree ?_);show wpAny _ _ (callAny (.type "set") _) _ _ _;refine ak ⟨Code.quiet_builtin _ (by decide+kernel),mD F.entry_type_call ?_⟩;rw[Around.under_plain (weight_type_call_type "set" [.ref l] []) rfl];repeat(any_goals (first |assumption|wp_step))
 refine jg (zx (.ref l) (E:=E) (Q₁:=fun obj s1=>∃led:Bool,led=(!w.params.followText "set-order")/\obj=.ref s.heap.objs.size/\s1={s with heap:=s.heap.push (jt led)}) ⟨_,rfl,rfl,rfl⟩) fun r s1 hr=>?_;rcases r with e|fl
 ·exact hr
 rcases fl with _|_|_|obj
 ·exact hr.elim
 ·exact hr.elim
 ·exact hr.elim
 obtain⟨led,hled,rfl,rfl⟩:=hr;rw[<-hled]at h;have hS:(s.heap.push (jt led)).get? s.heap.objs.size=some (jt led):=aK _ rfl;have hT:Shared.TypeIs {s with heap:=s.heap.push (jt led)} (.ref s.heap.objs.size) "set":=⟨_,hS,rfl⟩;have f6:=c0.init.lookup;have f7:=c0.init.bind (.ref s.heap.objs.size);repeat(any_goals (first |assumption|wp_step))
 refine jg (codeAny_call_builtin (R:=wants (fun r s2=>r=.none/\∃h' tk,s2={s with heap:=h',toks:=tk}/\P led h'/\
  (∀b o,b<s.heap.objs.size->s.heap.get? b=some o->h'.get? b=some o)) E) c0.init.plain F.entry_set_init (check_set_init_1 hT ?_)) fun r2 s2 hr2=>?_
 ·obtain⟨ol,hol,hcl,nl,hdl⟩:=hl
  obtain⟨oc,od,odt,osl⟩:=ol;obtain rfl:oc=.type "list":=hcl;obtain rfl:odt=.seq items nl:=hdl;have hol':(s.heap.push (jt led)).get? l=some {cls:=.type "list",dict:=od,data:=.seq items nl,slots:=osl}:=ag _ hol;have g1:=F.sub_list_set;have g2:=F.sub_list_frozenset;have g3:(m8 "list"==m8 "dict")=false:=by decide
  have hl1:(s.heap.push (jt led)).IsList l items:=⟨_,hol',rfl,nl,rfl⟩;unfold Builtin.«set.__init__» noKeywords Builtin.Frozenset.updateFrom;generalize hPI:pyIter=PI
  wp_walk
  subst hPI;refine gS hl1 (af (wpAny_runValue ?_));have hlt:l<s.heap.objs.size:=ay hol;have hz:(s.heap.push (jt led)).objs.size=s.heap.objs.size+1:=gj _ _;refine hloop led _ fun s' mv hS'=>?_
  ·obtain⟨h',g',d',tk',os'⟩:=s'
   obtain rfl:g'=s.gens:=mv.gens;obtain rfl:d'=s.drawn:=mv.drawn;obtain rfl:os'=s.os:=mv.os;show wpAny _ _ _ _ _ _;refine ak ?_;show wpAny _ _ (ret ck) _ _ _;refine ak ⟨rfl,h',tk',rfl,hS',fun b o hq e=>mv.heap b o (fun z=>?_) (ag _ (ag _ e))⟩;rcases aO.mp z with z|z
   ·exact a0 hq z
   ·exact a0 (dP hq) ((bG.mp z).trans hz)
 ·rcases r2 with e|fl2
  ·exact hr2
  rcases fl2 with _|_|_|v
  ·exact hr2.elim
  ·exact hr2.elim
  ·exact hr2.elim
  obtain⟨rfl,h',tk,rfl,hS',hk'⟩:=hr2;repeat(any_goals (first |assumption|wp_step))
  exact h _ _ hS' hk'
theorem yN{l:Addr}{items:Array Value}{ks:List Key}{Q:Value->Shared->Prop}(hh:A.handled=none)(hl:s.heap.IsList l items)(hk:ks.length=items.size)
  (hv:∀(i:Nat)(v:Value),items[i]? =some v->∃k,ks[i]? =some k/\RelV (kV k) v)(hb:items.size+1<gA)
  (h:∀(h':Heap)(tk:Nat),m7 (d4 prog w) h' s.heap.objs.size (has (met ks)) (met ks).length (!w.params.followText "set-order")->(∀b o,b<s.heap.objs.size->s.heap.get? b=some o->h'.get? b=some o)->Q (.ref s.heap.objs.size) {s with heap:=h',toks:=tk}):
  wpAny (model prog w) A (call (.type "set") [.ref l]) Q E s:=by
 have hlt:l<s.heap.objs.size:=let⟨_,e,_⟩:=hl;ay e;refine yO (P:=fun led h=>m7 (d4 prog w) h s.heap.objs.size (has (met ks)) (met ks).length led) hl (fun led R hR=>?_) h;have h3:A.in1.in1.in1.handled=none:=by simp[hh]
 have hz:(s.heap.push (jt led)).objs.size=s.heap.objs.size+1:=gj _ _;have hne:l≠(s.heap.push (jt led)).objs.size:=by rw[hz];exact a0 (dP hlt)
 have hnf:s.heap.objs.size∉[(s.heap.push (jt led)).objs.size,l]:=by
  rw[hz];intro z;rcases aO.mp z with z|z
  ·exact a0 (qr _) z
  ·exact iP hlt (bG.mp z)
 have hS:(s.heap.push (jt led)).get? s.heap.objs.size=some (jt led):=aK _ rfl;refine qE (led:=led) ((CC h3 _ l hne items).toS) s.heap.objs.size hnf ks hk hv hb (items.size-0) 0 _ (by omega) (aW _) ⟨⟨_,aK _ rfl,rfl,rfl⟩,(hl.push _).push _⟩ ?_ hR;exact⟨jt led,#[],0,_,ag _ hS,⟨rfl,rfl,rfl⟩,rfl,fun e he=>by simp at he,fun k=>by simp[met,has],by decide,by rfl,rfl,⟨kF,rfl⟩,rfl⟩
end
theorem zA{X:Cx}(hc:X.calm=true):eK X (.type "set") (rSet X.K):=by
 intro pins s σ H xs us Q I r h;obtain⟨p,ks,rfl,hq,hz,q⟩:=h;obtain⟨u,rfl,rx⟩:=vals1 r;cases rx;obtain⟨its,r',pl,_⟩:=I.list hq;have hlen:=r'.length;rw[aC]at hlen;refine yN (ks:=ks) (I.ok.hd hc) pl.isList (by rw[av];exact hlen) (fun i v e=>ye r' i v (by simpa using e)) (by rw[av,<-hlen];unfold gA;omega) fun h' tk hS kp=>?_;refine⟨.ref s.heap.objs.size,_,I.laid (t':=tk) (fun b o e=>kp b o (ay e) e) (aq _) (show dN X.prog X.w _ _ _ (wm _ (met ks).length)from ?_),rfl,q _ (I.hok.fresh (aq _))⟩;obtain⟨o,es,ep,t,ho,hex,hd,hel,hmem,hbb,hf,hn⟩:=hS.of;refine⟨⟨o,es,ep,t,ho,hex,hd,hbb,hf,hn⟩,⟨o,ho⟩,fun h1 h2 z k=>?_⟩;obtain⟨o,es,ep,t,ho,rest⟩:=z;exact⟨o,es,ep,t,k o ho,rest⟩
end Q
set_option maxHeartbeats 1000000
set_option maxHeartbeats 3200000
namespace L2
open PySem PySem.Spec PyProof.Rows Q
section
variable {X:Cx}
noncomputable def tSortSet(K:aa)(ta:TA):TE:=fun σ H Q=>ta σ H fun vs H1=>∃(p:Addr)(ns:List Int),vs=[V.ref p]/\SqL K H1 p (ns.map V.int)/\ns.length<64/\
 ∀(ms:List Int) l,ms.Nodup->(∀x,x∈ms↔x∈ns)->H1 l=none->Q (.ref l) (upd H1 l (.lst (sortI ms)))
end
section
variable {X:Cx}
noncomputable def tSortSetL(K:aa)(ta:TA):TE:=fun σ H Q=>ta σ H fun vs H1=>∃(p:Addr)(ys:List V)(ps:List (List Int))(m:Nat),vs=[V.ref p]/\SqL K H1 p ys/\ps.length<=18/\(∀k∈ps,k.length=m)/\IntKeys H1 ys ps/\
 ∀(zs:List V)(qs:List (List Int)) l,qs.Nodup->(∀x,x∈qs↔x∈ps)->IntKeys H1 zs qs->H1 l=none->Q (.ref l) (upd H1 l (.lst (AH .non qs zs)))
end
end L2
set_option maxHeartbeats 1000000
namespace SR
open PySem PySem.W PyProof.Rows
noncomputable def gallop':Bool->Keyed->Array Keyed->Nat->Nat->Nat->StateT SortSt Sem (Option Nat):=sortPriv%PySem.Builtin.gallop
structure Od(M:Model)(A:Around)(E:Value->Shared->Prop)(s:Shared)(κ:eB)(S:Keyed->Prop)(R:Keyed->Keyed->Bool):Prop where
 irr:∀x,S x->R x x=false
 tri:∀x y,S x->S y->x≠y->R x y= !R y x
 tr:∀x y z,S x->S y->S z->R x y=true->R y z=true->R x z=true
 ask:∀x y (st:SortSt)(Q:Option Bool->SortSt->Prop),S x->S y->x≠y->kindOf st=κ->Q (some (R x y)) st->wpS M A E s (lt' x y) Q st
section
variable {M:Model}{A:Around}{E:Value->Shared->Prop}{s:Shared}{κ:eB}{S:Keyed->Prop}{R:Keyed->Keyed->Bool}
theorem cG{arr:Array Keyed}{i:Nat}{x:Keyed}{Q:Keyed->SortSt->Prop}{st:SortSt}(h:arr[i]? =some x)(q:Q x st):wpS M A E s (elem' arr i) Q st:=by
 rw[elem'_eq,h];exact az q
theorem Od.asym(o:Od M A E s κ S R){x y:Keyed}(hx:S x)(hy:S y)(h:R x y=true):R y x=false:=by
 by_cases e:x=y
 ·subst e
  rw[o.irr x hx]at h;cases h
 ·rw[o.tri x y hx hy e]at h
  simpa using h
noncomputable def at_(arr:Array Keyed)(i:Nat):Keyed:=arr.getD i (.none,.none)
theorem cz{arr:Array Keyed}{i:Nat}(h:i<arr.size):arr[i]? =some (at_ arr i):=by
 unfold at_;rw[tL h,bH,tL h];rfl
structure Seg(S:Keyed->Prop)(R:Keyed->Keyed->Bool)(arr:Array Keyed)(b n:Nat)(key:Keyed):Prop where
 sz:b+n<=arr.size
 inS:∀i,i<n->S (at_ arr (b+i))
 up:∀i j,i<j->j<n->R (at_ arr (b+i)) (at_ arr (b+j))=true
 ks:S key
 nk:∀i,i<n->at_ arr (b+i)≠key
noncomputable def bey(R:Keyed->Keyed->Bool)(arr:Array Keyed)(b:Nat)(key:Keyed)(i:Nat):Bool:=R (at_ arr (b+i)) key
variable {arr:Array Keyed}{b n hint:Nat}{key:Keyed}{st:SortSt}
theorem i3(o:Od M A E s κ S R)(g:Seg S R arr b n key){i j:Nat}(h:i<=j)(hj:j<n)(e:bey R arr b key j=true):bey R arr b key i=true:=by
 rcases iR i j with c|c
 ·exact o.tr _ _ _ (g.inS i (by omega)) (g.inS j hj) g.ks (g.up i j c hj) e
 ·obtain rfl:i=j:=by omega
  exact e
theorem mm(o:Od M A E s κ S R)(g:Seg S R arr b n key){left:Bool}{i:Nat}{Q:Option Bool->SortSt->Prop}(hi:i<n)(hk:kindOf st=κ)(q:Q (some (bey R arr b key i)) st):
  wpS M A E s (do
   let x<-elem' arr (b+i)
   if left=true then lt' x key else do
    let r<-lt' key x
    pure (r.map (!·))) Q st:=by
 refine aj (cG (cz (by have :=g.sz;omega)) ?_);cases left with
 |true=>
  rw[if_pos rfl];exact o.ask _ _ _ _ (g.inS i hi) g.ks (g.nk i hi) hk q
 |false=>
  rw[if_neg (by decide)];refine aj (o.ask _ _ _ _ g.ks (g.inS i hi) (fun e=>g.nk i hi e.symm) hk (az ?_));rw[o.tri _ _ g.ks (g.inS i hi) fun e=>g.nk i hi e.symm];simpa[bey]using q
theorem vh(o:Od M A E s κ S R)(g:Seg S R arr b n key){f:Nat->Option (Option Nat)×Nat×Nat->StateT SortSt Sem (ForInStep (Option (Option Nat)×Nat×Nat))}{Q:Option (Option Nat)×Nat×Nat->SortSt->Prop}{lo hi:Nat}
  (hf:∀x lo hi (Q':ForInStep (Option (Option Nat)×Nat×Nat)->SortSt->Prop),hi<=n->(lo≥ hi->Q' (.done (none,lo,hi)) st)->(∀m,m=lo+(hi-lo)/2->lo<hi->bey R arr b key m=true->Q' (.yield (none,m+1,hi)) st)->(∀m,m=lo+(hi-lo)/2->lo<hi->bey R arr b key m=false->Q' (.yield (none,lo,m)) st)->wpS M A E s (f x (none,lo,hi)) Q' st)
  (h1:lo<=hi)(h2:hi<=n)(h3:∀i,i<lo->bey R arr b key i=true)(h4:∀i,hi<=i->i<n->bey R arr b key i=false)(q:∀k,k<=n->(∀i,i<k->bey R arr b key i=true)->(∀i,k<=i->i<n->bey R arr b key i=false)->Q (none,k,k) st):wpS M A E s (forIn [:n] (none,lo,hi) f) Q st:=by
 refine cj (I:=fun x c st'=>st'=st/\∃lo hi,c=(none,lo,hi)/\lo<=hi/\hi<=n/\hi-lo+x<=n/\(∀i,i<lo->bey R arr b key i=true)/\(∀i,hi<=i->i<n->bey R arr b key i=false)) ?_ ?_ ⟨rfl,lo,hi,rfl,h1,h2,by omega,h3,h4⟩
 ·rintro x c st' _ hx ⟨rfl,lo,hi,rfl,a1,a2,a3,a4,a5⟩
  refine hf x lo hi _ a2 (fun c=>?_) (fun m hm c e=>?_) fun m hm c e=>?_
  ·obtain rfl:lo=hi:=by omega
   exact q lo a2 a4 a5
  ·exact⟨rfl,_,_,rfl,by omega,a2,by omega,fun i hi'=>i3 o g (by omega:i<=m) (by omega) e,a5⟩
  ·refine⟨rfl,_,_,rfl,by omega,by omega,by omega,a4,fun i h1 h2=>?_⟩
   rw[eU];intro z;rw[i3 o g h1 h2 z]at e;cases e
 ·rintro c st' ⟨rfl,lo,hi,rfl,a1,a2,a3,a4,a5⟩
  obtain rfl:lo=hi:=by omega
  exact q lo a2 a4 a5
theorem gX(o:Od M A E s κ S R)(g:Seg S R arr b n key){left:Bool}{Q:Option Nat->SortSt->Prop}(hh:hint<n)(hk:kindOf st=κ)(q:∀k,k<=n->(∀i,i<k->bey R arr b key i=true)->(∀i,k<=i->i<n->bey R arr b key i=false)->Q (some k) st):
  wpS M A E s (gallop' left key arr b n hint) Q st:=by
 refine aj (mm o g hh hk ?_);cases e:bey R arr b key hint with
 |true=>
  dsimp only;rw[if_pos rfl];refine aj (eA (cj (I:=fun x c st'=>st'=st/\∃la ofs,c=(none,la,ofs)/\la<ofs/\hint+la<n/\x+1<=ofs/\bey R arr b key (hint+la)=true)
   (Q:=fun c st'=>st'=st/\∃la ofs,c=(none,la,ofs)/\la<ofs/\hint+la<n/\bey R arr b key (hint+la)=true/\(ofs≥ n-hint\/(hint+ofs<n/\bey R arr b key (hint+ofs)=false))) ?_ ?_ ⟨rfl,0,1,rfl,by omega,by omega,by omega,e⟩) ?_)
  ·rintro x c st' _ hx ⟨rfl,la,ofs,rfl,a1,a2,a3,a4⟩
   dsimp only;by_cases c:ofs≥ n-hint
   ·rw[if_pos c]
    exact az ⟨rfl,_,_,rfl,a1,a2,a4,.inl c⟩
   ·rw[if_neg c]
    refine aj (mm o g (by omega) hk ?_);cases e2:bey R arr b key (hint+ofs)with
    |true=>
     dsimp only;rw[if_neg (by decide)];exact az ⟨rfl,_,_,rfl,by omega,by omega,by omega,e2⟩
    |false=>
     dsimp only;rw[if_pos (by decide)];exact az ⟨rfl,_,_,rfl,a1,a2,a4,.inr ⟨by omega,e2⟩⟩
  ·rintro c st' ⟨rfl,la,ofs,rfl,a1,a2,a3,a4⟩
   exact⟨rfl,_,_,rfl,a1,a2,a4,.inl (by omega)⟩
  ·rintro c st' ⟨rfl,la,ofs,rfl,a1,a2,a4,a5⟩
   refine aj (vh o g (fun x lo hi Q' hn f1 f2 f3=>?_) (lo:=hint+la+1) (hi:=hint+min ofs (n-hint)) (by omega) (by omega) ?_ ?_ fun k k1 k2 k3=>az (q k k1 k2 k3))
   ·dsimp only
    by_cases c:lo≥ hi
    ·rw[if_pos c]
     exact az (f1 c)
    ·rw[if_neg c]
     refine aj (mm o g (by omega) hk ?_);cases e3:bey R arr b key (lo+(hi-lo)/2)with
     |true=>exact az (f2 _ rfl (by omega) e3)
     |false=>exact az (f3 _ rfl (by omega) e3)
   ·exact fun i hi=>i3 o g (by omega) a2 a4
   ·intro i h1 h2
    rcases a5 with z|⟨z1,z2⟩
    ·omega
    ·rw[eU]
     intro y;rw[i3 o g (by omega:hint+ofs<=i) h2 y]at z2;cases z2
 |false=>
  dsimp only;rw[if_neg (by decide)];refine aj (eA (cj (I:=fun x c st'=>st'=st/\∃la ofs,c=(none,la,ofs)/\la<ofs/\la<=hint/\x+1<=ofs/\bey R arr b key (hint-la)=false)
   (Q:=fun c st'=>st'=st/\∃la ofs,c=(none,la,ofs)/\la<ofs/\la<=hint/\bey R arr b key (hint-la)=false/\(ofs≥ hint+1\/bey R arr b key (hint-ofs)=true)) ?_ ?_ ⟨rfl,0,1,rfl,by omega,by omega,by omega,e⟩) ?_)
  ·rintro x c st' _ hx ⟨rfl,la,ofs,rfl,a1,a2,a3,a4⟩
   dsimp only;by_cases c:ofs≥ hint+1
   ·rw[if_pos c]
    exact az ⟨rfl,_,_,rfl,a1,a2,a4,.inl c⟩
   ·rw[if_neg c]
    refine aj (mm o g (by omega) hk ?_);cases e2:bey R arr b key (hint-ofs)with
    |true=>
     dsimp only;rw[if_pos rfl];exact az ⟨rfl,_,_,rfl,a1,a2,a4,.inr e2⟩
    |false=>
     dsimp only;rw[if_neg (by decide)];exact az ⟨rfl,_,_,rfl,by omega,by omega,by omega,e2⟩
  ·rintro c st' ⟨rfl,la,ofs,rfl,a1,a2,a3,a4⟩
   exact⟨rfl,_,_,rfl,a1,a2,a4,.inl (by omega)⟩
  ·rintro c st' ⟨rfl,la,ofs,rfl,a1,a2,a4,a5⟩
   refine aj (vh o g (fun x lo hi Q' hn f1 f2 f3=>?_) (lo:=hint+1-min ofs (hint+1)) (hi:=hint-la) (by omega) (by omega) ?_ ?_ fun k k1 k2 k3=>az (q k k1 k2 k3))
   ·dsimp only
    by_cases c:lo≥ hi
    ·rw[if_pos c]
     exact az (f1 c)
    ·rw[if_neg c]
     refine aj (mm o g (by omega) hk ?_);cases e3:bey R arr b key (lo+(hi-lo)/2)with
     |true=>exact az (f2 _ rfl (by omega) e3)
     |false=>exact az (f3 _ rfl (by omega) e3)
   ·intro i hi
    rcases a5 with z|z
    ·omega
    ·exact i3 o g (by omega) (by omega) z
   ·intro i h1 h2
    rw[eU];intro y;rw[i3 o g h1 h2 y]at a4;cases a4
end
noncomputable def BC:Array Keyed->Array Keyed->StateT SortSt Sem (Array Keyed):=sortPriv%PySem.Builtin.mergeLo
noncomputable def BD:Array Keyed->Array Keyed->StateT SortSt Sem (Array Keyed):=sortPriv%PySem.Builtin.mergeHi
structure Mi(R:Keyed->Keyed->Bool)(tot o P T:List Keyed):Prop where
 pm:(o++P++T).Perm tot
 oo:o.Pairwise fun x y=>R x y=true
 pp:P.Pairwise fun x y=>R x y=true
 tt:T.Pairwise fun x y=>R x y=true
 lt:∀x∈o,∀y,y∈P\/y∈T->R x y=true
section
variable {R:Keyed->Keyed->Bool}{tot o P P1 P2 T T1 T2:List Keyed}
theorem Mi.swap(m:Mi R tot o P T):Mi R tot o T P:=
 ⟨by
  have h:=m.pm;rw[ba]at h⊢;exact(List.perm_append_comm.append_left o).trans h,m.oo,m.tt,m.pp,fun x hx y hy=>m.lt x hx y hy.symm⟩
theorem Mi.tT(m:Mi R tot o (P1++P2) T)(h:∀p∈P1,∀t∈T,R p t=true):Mi R tot (o++P1) P2 T:=by
 obtain⟨a1,a2,a3⟩:=bR.mp m.pp;refine⟨by rw[ba o];exact m.pm,bR.mpr ⟨m.oo,a1,fun x hx y hy=>m.lt x hx y (.inl (bN.mpr (.inl hy)))⟩,a2,m.tt,fun x hx y hy=>?_⟩;rcases bN.mp hx with c|c
 ·exact m.lt x c y (hy.imp (fun z=>bN.mpr (.inr z)) id)
 ·rcases hy with z|z
  ·exact a3 x c y z
  ·exact h x c y z
theorem Mi.xy(m:Mi R tot o P (T1++T2))(h:∀t∈T1,∀p∈P,R t p=true):Mi R tot (o++T1) P T2:=(m.swap.tT h).swap
theorem Mi.fin(m:Mi R tot o P T)(h:∀p∈P,∀t∈T,R p t=true):(o++P++T).Perm tot/\(o++P++T).Pairwise fun x y=>R x y=true:=by
 refine⟨m.pm,?_⟩;rw[ba];exact bR.mpr ⟨m.oo,bR.mpr ⟨m.pp,m.tt,h⟩,fun x hx y hy=>m.lt x hx y (bN.mp hy)⟩
end
theorem dg{a:Array Keyed}{i:Nat}(h:i<a.toList.length):a.toList[i]=at_ a i:=by
 have :=cz (arr:=a) (i:=i) (by simpa using h)
 rw[<-gC,ae h]at this;exact a9 this
theorem yo{a:Array Keyed}{i:Nat}(h:i<a.size):a.toList.drop i=at_ a i::a.toList.drop (i+1):=by
 rw[List.drop_eq_getElem_cons (by simpa using h),dg]
theorem take_at{a:Array Keyed}{i:Nat}(h:i<a.size):a.toList.take (i+1)=a.toList.take i++[at_ a i]:=by
 rw[da,ae (by simpa using h),dg];rfl
theorem hO{a:Array Keyed}{i:Nat}{x:Keyed}(h:x∈a.toList.drop i):∃j,i<=j/\j<a.size/\x=at_ a j:=by
 obtain⟨k,hk,rfl⟩:=aZ.mp h;rw[be]at hk;refine⟨i+k,by omega,by have :a.toList.length=a.size:=rfl;omega,?_⟩;rw[cK,dg]
theorem kg{a:Array Keyed}{i:Nat}:(a.extract i).toList=a.toList.drop i:=by
 rw[cD,bT,cJ];rw[be];exact aq _
theorem ph{a:Array Keyed}{i k:Nat}:(a.extract i (i+k)).toList=(a.toList.drop i).take k:=by
 rw[cD,bT,Nat.add_sub_cancel_left]
theorem xX{a:Array Keyed}{i:Nat}(h:i=a.size):a.toList.drop i=[]:=by
 rw[h];exact List.drop_length
structure Two(S:Keyed->Prop)(R:Keyed->Keyed->Bool)(a b:Array Keyed):Prop where
 sa:∀i,i<a.size->S (at_ a i)
 sb:∀i,i<b.size->S (at_ b i)
 ua:∀i j,i<j->j<a.size->R (at_ a i) (at_ a j)=true
 ub:∀i j,i<j->j<b.size->R (at_ b i) (at_ b j)=true
 dj:∀i j,i<a.size->j<b.size->at_ a i≠at_ b j
 la:∀j,j<b.size->R (at_ b j) (at_ a (a.size-1))=true
 fb:∀i,i<a.size->R (at_ b 0) (at_ a i)=true
 na:0<a.size
 nb:0<b.size
structure Ke(κ:eB)(st st':SortSt):Prop where
 kd:kindOf st'=κ
 ar:arrOf st'=arrOf st
 pe:bL st'=bL st
 fa:cB st'=cB st
section
variable {M:Model}{A:Around}{E:Value->Shared->Prop}{s:Shared}{κ:eB}{S:Keyed->Prop}{R:Keyed->Keyed->Bool}{a b:Array Keyed}{st:SortSt}{ia ib:Nat}{out:Array Keyed}
theorem oa{c:Array Keyed}(u:∀i j,i<j->j<c.size->R (at_ c i) (at_ c j)=true):c.toList.Pairwise fun x y=>R x y=true:=by
 refine aX.mpr fun i j hi hj hij=>?_;rw[dg,dg];exact u i j hij (by simpa using hj)
structure Lo(R:Keyed->Keyed->Bool)(a b:Array Keyed)(out:Array Keyed)(ia ib:Nat):Prop where
 ha:ia+1<a.size
 hb:ib<b.size
 mi:Mi R (a.toList++b.toList) out.toList (a.toList.drop ia) (b.toList.drop ib)
noncomputable def Good(R:Keyed->Keyed->Bool)(tot:List Keyed)(r:Array Keyed):Prop:=r.toList.Perm tot/\r.toList.Pairwise fun x y=>R x y=true
theorem sJ(m:Mi R (a.toList++b.toList) out.toList (a.toList.drop ia) (b.toList.drop ib))(h:ib=b.size):Good R (a.toList++b.toList) (out++a.extract ia++b.extract ib):=by
 have :=m.fin (fun p _ t ht=>by rw[xX h]at ht;cases ht)
 unfold Good;rw[bZ,bZ,kg,kg];exact this
theorem done_a(m:Mi R (a.toList++b.toList) out.toList (a.toList.drop ia) (b.toList.drop ib))(h:ia=a.size):Good R (a.toList++b.toList) (out++a.extract ia++b.extract ib):=by
 have :=m.fin (fun p hp=>by rw[xX h]at hp;cases hp)
 unfold Good;rw[bZ,bZ,kg,kg];exact this
theorem sF(w:Two S R a b)(m:Mi R (a.toList++b.toList) out.toList (a.toList.drop ia) (b.toList.drop ib))(h:ia+1=a.size):Good R (a.toList++b.toList) (out++b.extract ib++a.extract ia):=by
 have :=m.swap.fin fun t ht p hp=>by
  obtain⟨j,_,hj,rfl⟩:=hO ht;obtain⟨i,h1,h2,rfl⟩:=hO hp;obtain rfl:i=a.size-1:=by omega
  exact w.la j hj
 unfold Good;rw[bZ,bZ,kg,kg];exact this
theorem wt(o:Od M A E s κ S R)(w:Two S R a b)(m:Mi R (a.toList++b.toList) out.toList (a.toList.drop ia) (b.toList.drop ib))(hb:ib<b.size)(h:∀i,ia<=i->i<a.size->R (at_ b ib) (at_ a i)=true):Mi R (a.toList++b.toList) (out.push (at_ b ib)).toList (a.toList.drop ia) (b.toList.drop (ib+1)):=by
 rw[yo hb]at m;rw[eM];exact m.xy (T1:=[at_ b ib]) fun t ht p hp=>by
  obtain⟨i,h1,h2,rfl⟩:=hO hp;rw[bG.mp ht];exact h i h1 h2
theorem A2(o:Od M A E s κ S R)(w:Two S R a b)(m:Mi R (a.toList++b.toList) out.toList (a.toList.drop ia) (b.toList.drop ib))(ha:ia<a.size)(h:∀j,ib<=j->j<b.size->R (at_ a ia) (at_ b j)=true):Mi R (a.toList++b.toList) (out.push (at_ a ia)).toList (a.toList.drop (ia+1)) (b.toList.drop ib):=by
 rw[yo ha]at m;rw[eM];exact m.tT (P1:=[at_ a ia]) fun t ht p hp=>by
  obtain⟨i,h1,h2,rfl⟩:=hO hp;rw[bG.mp ht];exact h i h1 h2
theorem many_a(w:Two S R a b)(o:Od M A E s κ S R)(m:Mi R (a.toList++b.toList) out.toList (a.toList.drop ia) (b.toList.drop ib))(hb:ib<b.size){k:Nat}(hk:k<=a.size-ia)(h:∀i,i<k->bey R a ia (at_ b ib) i=true):Mi R (a.toList++b.toList) (out++a.extract ia (ia+k)).toList (a.toList.drop (ia+k)) (b.toList.drop ib):=by
 have e:a.toList.drop ia=(a.toList.drop ia).take k++a.toList.drop (ia+k):=by rw[<-List.drop_drop,bg]
 rw[e]at m;have :=m.tT fun p hp t ht=>by
  obtain⟨i,hi,rfl⟩:=aZ.mp hp;rw[aA,be]at hi;have hl:a.toList.length=a.size:=rfl;obtain⟨j,h1,h2,rfl⟩:=hO ht;rw[b8,cK,dg];have hi1:=h i (by omega);rcases iR ib j with c|c
  ·exact o.tr _ _ _ (w.sa _ (by omega)) (w.sb _ hb) (w.sb _ h2) hi1 (w.ub ib j c h2)
  ·obtain rfl:j=ib:=by omega
   exact hi1
 rw[bZ,ph];exact this
theorem many_b(w:Two S R a b)(o:Od M A E s κ S R)(m:Mi R (a.toList++b.toList) out.toList (a.toList.drop ia) (b.toList.drop ib))(ha:ia<a.size){k:Nat}(hk:k<=b.size-ib)(h:∀i,i<k->bey R b ib (at_ a ia) i=true):Mi R (a.toList++b.toList) (out++b.extract ib (ib+k)).toList (a.toList.drop ia) (b.toList.drop (ib+k)):=by
 have e:b.toList.drop ib=(b.toList.drop ib).take k++b.toList.drop (ib+k):=by rw[<-List.drop_drop,bg]
 rw[e]at m;have :=m.xy fun p hp t ht=>by
  obtain⟨i,hi,rfl⟩:=aZ.mp hp;rw[aA,be]at hi;have hl:b.toList.length=b.size:=rfl;obtain⟨j,h1,h2,rfl⟩:=hO ht;rw[b8,cK,dg];have hi1:=h i (by omega);rcases iR ia j with c|c
  ·exact o.tr _ _ _ (w.sb _ (by omega)) (w.sa _ ha) (w.sa _ h2) hi1 (w.ua ia j c h2)
  ·obtain rfl:j=ia:=by omega
   exact hi1
 rw[bZ,ph];exact this
end
section
variable {M:Model}{A:Around}{E:Value->Shared->Prop}{s:Shared}{κ:eB}{S:Keyed->Prop}{R:Keyed->Keyed->Bool}{a b:Array Keyed}{st st':SortSt}{ia ib:Nat}{out:Array Keyed}
theorem Lo.size(m:Lo R a b out ia ib):out.size+(a.size-ia)+(b.size-ib)=a.size+b.size:=by
 have :=m.mi.pm.length_eq
 simp only[ai,be,ax]at this;omega
theorem seg_a(w:Two S R a b)(hb:ib<b.size)(ha:ia<a.size):Seg S R a ia (a.size-ia) (at_ b ib):=
 ⟨by omega,fun i hi=>w.sa _ (by omega),fun i j h1 h2=>w.ua _ _ (by omega) (by omega),w.sb _ hb,fun i hi=>w.dj _ _ (by omega) hb⟩
theorem seg_b(w:Two S R a b)(hb:ib<b.size)(ha:ia<a.size):Seg S R b ib (b.size-ib) (at_ a ia):=
 ⟨by omega,fun i hi=>w.sb _ (by omega),fun i j h1 h2=>w.ub _ _ (by omega) (by omega),w.sa _ ha,fun i hi e=>w.dj _ _ ha (by omega) e.symm⟩
noncomputable def LoQ(κ:eB)(R:Keyed->Keyed->Bool)(a b:Array Keyed)(st:SortSt)(n:Nat)(r:Option (Array Keyed))(out:Array Keyed)(ia ib:Nat)(st':SortSt):Prop:=
 Ke κ st st'/\((∃x,r=some x/\Good R (a.toList++b.toList) x)\/(r=none/\Lo R a b out ia ib/\n<=out.size))
theorem xw(o:Od M A E s κ S R){c:Array Keyed}{i j:Nat}{x:Keyed}(sc:∀i,i<c.size->S (at_ c i))(u:∀i j,i<j->j<c.size->R (at_ c i) (at_ c j)=true)(sx:S x)(h:R x (at_ c i)=true)(hij:i<=j)(hj:j<c.size):R x (at_ c j)=true:=by
 rcases iR i j with z|z
 ·exact o.tr _ _ _ sx (sc _ (by omega)) (sc _ hj) h (u _ _ z hj)
 ·obtain rfl:j=i:=by omega
  exact h
theorem jC{α β:Type}{v:α}{f:α->StateT SortSt Sem β}{Q:β->SortSt->Prop}{st:SortSt}(h:wpS M A E s (f v) Q st):wpS M A E s (have x:=v;f x) Q st:=h
theorem Ke.g(k:Ke κ st st')(g:Nat):Ke κ st (eV (kindOf st') (arrOf st') (bL st') g (cB st')):=⟨k.kd,k.ar,k.pe,k.fa⟩
theorem oth(o:Od M A E s κ S R)(w:Two S R a b)(ha:ia<a.size){k:Nat}(h:∀i,k<=i->i<b.size-ib->bey R b ib (at_ a ia) i=false)(j:Nat)(z1:ib+k<=j)(z2:j<b.size):R (at_ a ia) (at_ b j)=true:=by
 have z:=h (j-ib) (by omega) (by omega);unfold bey at z;rw[show ib+(j-ib)=j by omega]at z;rw[o.tri _ _ (w.sa _ ha) (w.sb _ z2) (w.dj _ _ ha z2),z];rfl
theorem Bv{m n:Nat}(h:(m==n)=true):m=n:=by simpa using h
theorem Bx{m n:Nat}(h:¬(m==n)=true):m≠n:=fun e=>h (by rw[e];exact beq_self_eq_true _)
theorem rH{β:Type}{c:Prop}[Decidable c]{m n:StateT SortSt Sem β}{Q:β->SortSt->Prop}{st:SortSt}(h1:c->wpS M A E s m Q st)(h2:¬c->wpS M A E s n Q st):wpS M A E s (if c then m else n) Q st:=by
 by_cases h:c
 ·rw[if_pos h];exact h1 h
 ·rw[if_neg h];exact h2 h
theorem vM(o:Od M A E s κ S R)(w:Two S R a b)(hk:kindOf st=κ){Q:Array Keyed->SortSt->Prop}(q:∀r st',Ke κ st st'->Good R (a.toList++b.toList) r->Q r st'):wpS M A E s (BC a b) Q st:=by
 have k0:Ke κ st st:=⟨hk,rfl,rfl,rfl⟩;have m00:Mi R (a.toList++b.toList) (#[]:Array Keyed).toList (a.toList.drop 0) (b.toList.drop 0):=⟨by simp,.nil,oa w.ua,oa w.ub,(fun x hx=>nomatch hx)⟩;have m0:=wt o w m00 w.nb fun i _ hi=>w.fb i hi;rw[dm]at m0;refine aj (nX (ee ⟨rfl,?_⟩));refine jC (jC (jC ?_));refine aj (cG (cz w.nb) ?_);refine jC (jC (jC ?_));by_cases c1:1=b.size
 ·rw[if_pos (by simpa using c1)]
  exact az (q _ _ k0 (sJ m0 c1))
 rw[if_neg (by simpa using c1)];by_cases c2:0+1=a.size
 ·rw[if_pos (by simpa using c2)]
  exact az (q _ _ k0 (sF w m0 c2))
 rw[if_neg (by simpa using c2)];have na:=w.na;have nb:=w.nb;refine aj (jf (jC ?_));refine aj (eA (cj (I:=fun x c st'=>LoQ κ R a b st (x+1) c.1 c.2.1 c.2.2.1 c.2.2.2.1 st'/\c.1=none) (Q:=fun c st'=>Ke κ st st'/\∃r,c.1=some r/\Good R (a.toList++b.toList) r) ?_ ?_ ⟨⟨k0,.inr ⟨rfl,⟨by show 0+1<_;omega,by show 1<_;omega,m0⟩,by simp⟩⟩,rfl⟩) ?_)
 ·rintro x ⟨r,out,ia,ib,g⟩ st1 _ hx ⟨⟨k1,h1⟩,rfl⟩
  obtain⟨_,lo,sz⟩:=h1.resolve_left fun⟨_,e,_⟩=>nomatch e;dsimp only at sz lo
  iterate 9 refine jC ?_
  refine aj (eA (cj (I:=fun y c st'=>LoQ κ R a b st (x+1+y) c.1 c.2.1 c.2.2.1 c.2.2.2.1 st'/\c.1=none) (Q:=fun c st'=>LoQ κ R a b st (x+2) c.1 c.2.1 c.2.2.1 c.2.2.2.1 st') ?_ ?_ ⟨⟨k1,.inr ⟨rfl,lo,by simpa using sz⟩⟩,rfl⟩) ?_)
  ·rintro y ⟨r,out,ia,ib,ac,bc⟩ st2 _ hy ⟨⟨k2,h2⟩,rfl⟩
   obtain⟨_,lo,sz⟩:=h2.resolve_left fun⟨_,e,_⟩=>nomatch e;have l1:=lo.ha;have l2:=lo.hb;dsimp only at sz lo l1 l2⊢;refine aj (cG (cz lo.hb) (aj (cG (cz (by omega)) (aj (o.ask _ _ _ _ (w.sb _ lo.hb) (w.sa _ (by omega)) (fun e=>w.dj _ _ (by omega) lo.hb e.symm) k2.kd ?_)))));cases e:R (at_ b ib) (at_ a ia)with
   |true=>
    dsimp only;rw[if_pos rfl];refine aj (cG (cz lo.hb) ?_);have m:=wt o w lo.mi lo.hb fun i h1 h2=>xw o w.sa w.ua (w.sb _ lo.hb) e h1 h2;by_cases c:ib+1=b.size
    ·rw[if_pos (by simpa using c)]
     exact az ⟨k2,.inl ⟨_,rfl,sJ m c⟩⟩
    ·rw[if_neg (by simpa using c)]
     have lo':Lo R a b (out.push (at_ b ib)) ia (ib+1):=⟨lo.ha,by omega,m⟩;split
     ·exact az ⟨k2,.inr ⟨rfl,lo',by rw[bV];omega⟩⟩
     ·exact az ⟨⟨k2,.inr ⟨rfl,lo',by rw[bV];omega⟩⟩,rfl⟩
   |false=>
    dsimp only;rw[if_neg (by decide)];refine aj (cG (cz (by omega)) ?_);have e':R (at_ a ia) (at_ b ib)=true:=by
     rw[o.tri _ _ (w.sa _ (by omega)) (w.sb _ lo.hb) (w.dj _ _ (by omega) lo.hb),e];rfl
    have m:=A2 o w lo.mi (by omega) fun i h1 h2=>xw o w.sb w.ub (w.sa _ (by omega)) e' h1 h2;by_cases c:ia+1+1=a.size
    ·rw[if_pos (by simpa using c)]
     exact az ⟨k2,.inl ⟨_,rfl,sF w m c⟩⟩
    ·rw[if_neg (by simpa using c)]
     have lo':Lo R a b (out.push (at_ a ia)) (ia+1) ib:=⟨by omega,by omega,m⟩;split
     ·exact az ⟨k2,.inr ⟨rfl,lo',by rw[bV];omega⟩⟩
     ·exact az ⟨⟨k2,.inr ⟨rfl,lo',by rw[bV];omega⟩⟩,rfl⟩
  ·rintro⟨r,out,ia,ib,ac,bc⟩ st2 ⟨⟨k2,h2⟩,e⟩
   obtain⟨_,lo,sz⟩:=h2.resolve_left fun⟨_,e',_⟩=>by rw[e]at e';cases e'
   exact⟨k2,.inr ⟨e,lo,by dsimp only at sz⊢;omega⟩⟩
  ·rintro⟨r,out,ia,ib,ac,bc⟩ st2 ⟨k2,h2⟩
   dsimp only at h2
   iterate 10 refine jC ?_
   rcases h2 with⟨z,rfl,gz⟩ |⟨rfl,lo,sz⟩
   ·exact az ⟨k2,z,rfl,gz⟩
   refine aj (nX (ee ⟨rfl,?_⟩));refine jC ?_;refine aj (eA (cj (I:=fun y c st'=>LoQ κ R a b st (x+2) c.1 c.2.1 c.2.2.1 c.2.2.2.1 st'/\c.1=none) (Q:=fun c st'=>LoQ κ R a b st (x+2) c.1 c.2.1 c.2.2.1 c.2.2.2.1 st') ?_ (fun c st' h=>h.1) ⟨⟨k2,.inr ⟨rfl,lo,sz⟩⟩,rfl⟩) ?_)
   ·rintro y ⟨r,out,ia,ib,g,ac,bc⟩ st3 _ hy ⟨⟨k3,h3⟩,rfl⟩
    obtain⟨_,lo,sz⟩:=h3.resolve_left fun⟨_,e,_⟩=>nomatch e;have l1:=lo.ha;have l2:=lo.hb;dsimp only at sz lo l1 l2;dsimp only;have go:∀g',Ke κ st (eV (kindOf st3) (arrOf st3) (bL st3) g' (cB st3)):=k3.g;by_cases cg:g>1
    case' pos=>
     rw[if_pos cg];have ke:=go (g-1)
    case' neg=>
     rw[if_neg cg];have ke:=go g
    all_goals
     refine aj (eN (aj (cG (cz l2) (aj (gX o (seg_a w l2 (by omega)) (by omega) k3.kd fun k h1 h2 h3=>?_)))));have more:∀i,ia+k<=i->i<a.size->R (at_ b ib) (at_ a i)=true:=fun i z1 z2=>by
      have z:=h3 (i-ia) (by omega) (by omega);unfold bey at z;rw[show ia+(i-ia)=i by omega]at z;rw[o.tri _ _ (w.sb _ l2) (w.sa _ z2) fun e=>w.dj _ _ z2 l2 e.symm,z];rfl
     dsimp only;by_cases c:k>0
     case' pos=>
      rw[if_pos c];have m:=many_a w o lo.mi l2 h1 h2;by_cases c1:ia+k+1=a.size
      ·rw[if_pos (by simpa using c1)]
       exact az ⟨ke,.inl ⟨_,rfl,sF w m c1⟩⟩
      rw[if_neg (by simpa using c1)];by_cases c2:ia+k=a.size
      ·rw[if_pos (by simpa using c2)]
       exact az ⟨ke,.inl ⟨_,rfl,done_a m c2⟩⟩
      rw[if_neg (by simpa using c2)];have f2:x+2<=(out++a.extract ia (ia+k)).size:=by rw[dG];omega
      have f1:ia+k+1<a.size:=by omega
     case' neg=>
      rw[if_neg c];obtain rfl:k=0:=by omega
      have m:=lo.mi;have f2:=sz;have f1:ia+1<a.size:=l1
     all_goals
      have m2:=wt o w m l2 more;refine aj (cG (cz l2) ?_);by_cases c:ib+1=b.size
      ·rw[if_pos (by simpa using c)]
       exact az ⟨ke,.inl ⟨_,rfl,sJ m2 c⟩⟩
      rw[if_neg (by simpa using c)];refine aj (cG (cz (eW f1)) (aj (gX o (seg_b w (by omega:ib+1<b.size) (eW f1)) (by omega) ke.kd fun k' h1' h2' h3'=>?_)));have more':=oth o w (eW f1) h3';dsimp only;by_cases c:k'>0
      case' pos=>
       rw[if_pos c];have m3:=many_b w o m2 (eW f1) h1' h2';by_cases c1:ib+1+k'=b.size
       ·rw[if_pos (by simpa using c1)]
        exact az ⟨ke,.inl ⟨_,rfl,sJ m3 c1⟩⟩
       rw[if_neg (by simpa using c1)];have g1:ib+1+k'<b.size:=by omega
      case' neg=>
       rw[if_neg c];obtain rfl:k'=0:=by omega
       have m3:=m2;have g1:ib+1<b.size:=by omega
      all_goals
       refine aj (cG (cz (eW f1)) ?_);have m4:=A2 o w m3 (eW f1) more';refine rH (fun c=>az ⟨ke,.inl ⟨_,rfl,sF w m4 (Bv c)⟩⟩) fun c=>?_
       ·have c:=Bx c
        have lo':Lo R a b _ _ _:=⟨by omega,g1,m4⟩;split
        ·exact az ⟨ke,.inr ⟨rfl,lo',by simp only[bV,dG]at f2⊢;omega⟩⟩
        ·exact az ⟨⟨ke,.inr ⟨rfl,lo',by simp only[bV,dG]at f2⊢;omega⟩⟩,rfl⟩
   ·rintro⟨r,out,ia,ib,g,ac,bc⟩ st3 ⟨k3,h3⟩
    dsimp only at h3
    iterate 11 refine jC ?_
    rcases h3 with⟨z,rfl,gz⟩ |⟨rfl,lo,sz⟩
    ·exact az ⟨k3,z,rfl,gz⟩
    exact aj (eN (az ⟨⟨k3.g _,.inr ⟨rfl,lo,sz⟩⟩,rfl⟩))
 ·rintro⟨r,out,ia,ib,g⟩ st1 ⟨⟨k1,h1⟩,e⟩
  obtain⟨_,lo,sz⟩:=h1.resolve_left fun⟨_,e',_⟩=>by rw[e]at e';cases e'
  have :=lo.size
  have l1:=lo.ha;have l2:=lo.hb;dsimp only at sz this l1 l2;omega
 ·rintro⟨r,out,ia,ib,g⟩ st1 ⟨k1,z,e,gz⟩
  dsimp only at e⊢;subst e;exact az (q _ _ k1 gz)
end
section
variable {M:Model}{A:Around}{E:Value->Shared->Prop}{s:Shared}{κ:eB}{S:Keyed->Prop}{R:Keyed->Keyed->Bool}{a b:Array Keyed}{st st':SortSt}{na nb:Nat}{out:Array Keyed}
noncomputable def rv(R:Keyed->Keyed->Bool)(x y:Keyed):Bool:=R y x
theorem iV{a:Array Keyed}{i:Nat}{x:Keyed}(h:x∈(a.toList.take i).reverse):∃j,j<i/\j<a.size/\x=at_ a j:=by
 obtain⟨k,hk,rfl⟩:=aZ.mp (List.mem_reverse.mp h);rw[aA]at hk;refine⟨k,by omega,by have :a.toList.length=a.size:=rfl;omega,?_⟩;rw[b8,dg]
theorem AW{a:Array Keyed}{i:Nat}(h:i<a.size):(a.toList.take (i+1)).reverse=at_ a i::(a.toList.take i).reverse:=by rw[take_at h,CQ];rfl
theorem ue{a:Array Keyed}{i n:Nat}(h:i<=n):(a.toList.take n).reverse=(a.extract i n).reverse.toList++(a.toList.take i).reverse:=by
 rw[zT,cD,bT,<-CQ,<-List.drop_take]
 conv =>lhs;rw[<-bg i (a.toList.take n)]
 rw[List.take_take,kU h]
noncomputable abbrev Mh(R:Keyed->Keyed->Bool)(a b:Array Keyed)(out:Array Keyed)(na nb:Nat):Prop:=Mi (rv R) (a.toList++b.toList) out.toList (a.toList.take na).reverse (b.toList.take nb).reverse
structure Hi(R:Keyed->Keyed->Bool)(a b:Array Keyed)(out:Array Keyed)(na nb:Nat):Prop where
 ha:0<na
 hb:1<nb
 la:na<=a.size
 lb:nb<=b.size
 mi:Mh R a b out na nb
theorem Hi.size(m:Hi R a b out na nb):out.size+na+nb=a.size+b.size:=by
 have h1:=m.mi.pm.length_eq;have h2:=m.la;have h3:=m.lb;simp only[ai,List.length_reverse,aA,ax]at h1;omega
theorem pb{l:List Keyed}{r:Array Keyed}{tot:List Keyed}(h:l.Perm tot/\l.Pairwise fun x y=>rv R x y=true)(e:r.toList=l.reverse):Good R tot r:=by
 refine⟨by rw[e];exact(ov l).trans h.1,?_⟩;rw[e,kW];exact h.2
theorem oi(m:Mh R a b out na nb)(h:na=0):Good R (a.toList++b.toList) (a.extract 0 na++b.extract 0 nb++out.reverse):=
 pb (m.swap.fin fun t _ p hp=>by subst h;cases hp) (by simp[cD,bT])
theorem hdone_b(m:Mh R a b out na nb)(h:nb=0):Good R (a.toList++b.toList) (a.extract 0 na++b.extract 0 nb++out.reverse):=
 pb (m.swap.fin fun t ht=>by subst h;cases ht) (by simp[cD,bT])
theorem oj(w:Two S R a b)(m:Mh R a b out na nb)(h:nb=1):Good R (a.toList++b.toList) (b.extract 0 nb++a.extract 0 na++out.reverse):=
 pb (m.fin fun p hp t ht=>by
  obtain⟨i,_,hi,rfl⟩:=iV hp;obtain⟨j,hj,_,rfl⟩:=iV ht;obtain rfl:j=0:=by omega
  exact w.fb i hi) (by simp[cD,bT])
theorem yh(m:Mh R a b out (na+1) nb)(ha:na<a.size)(h:∀j,j<nb->j<b.size->R (at_ b j) (at_ a na)=true):Mh R a b (out.push (at_ a na)) na nb:=by
 unfold Mh at m⊢;rw[AW ha]at m;rw[eM];exact m.tT (P1:=[at_ a na]) fun p hp t ht=>by
  obtain⟨j,h1,h2,rfl⟩:=iV ht;rw[bG.mp hp];exact h j h1 h2
theorem hpush_b(m:Mh R a b out na (nb+1))(hb:nb<b.size)(h:∀i,i<na->i<a.size->R (at_ a i) (at_ b nb)=true):Mh R a b (out.push (at_ b nb)) na nb:=by
 unfold Mh at m⊢;rw[AW hb]at m;rw[eM];exact m.xy (T1:=[at_ b nb]) fun p hp t ht=>by
  obtain⟨j,h1,h2,rfl⟩:=iV ht;rw[bG.mp hp];exact h j h1 h2
theorem hpa(m:Mh R a b out na nb)(h0:0<na)(la:na<=a.size)(h:∀j,j<nb->j<b.size->R (at_ b j) (at_ a (na-1))=true):Mh R a b (out.push (at_ a (na-1))) (na-1) nb:=yh (by rwa [show na-1+1=na by omega]) (by omega) h
theorem hpb(m:Mh R a b out na nb)(h0:0<nb)(lb:nb<=b.size)(h:∀i,i<na->i<a.size->R (at_ a i) (at_ b (nb-1))=true):Mh R a b (out.push (at_ b (nb-1))) na (nb-1):=hpush_b (by rwa [show nb-1+1=nb by omega]) (by omega) h
theorem BN{c:Array Keyed}{k n:Nat}{x:Keyed}(hn:n<=c.size)(h:x∈(c.extract k n).reverse.toList):∃i,k<=i/\i<n/\x=at_ c i:=by
 rw[zT,List.mem_reverse,cD,bT]at h;obtain⟨j,h1,h2,rfl⟩:=hO (cE h);obtain⟨i,hi,e⟩:=aZ.mp h;rw[aA,be,ax]at hi;refine⟨k+i,by omega,by omega,?_⟩;rw[<-e,b8,cK,dg]
theorem hmany_a(m:Mh R a b out na nb)(la:na<=a.size){k:Nat}(hk:k<=na)(h:∀i,k<=i->i<na->∀j,j<nb->j<b.size->R (at_ b j) (at_ a i)=true):Mh R a b (out++(a.extract k na).reverse) k nb:=by
 unfold Mh at m⊢;rw[ue hk]at m;rw[bZ];exact m.tT fun p hp t ht=>by
  obtain⟨i,h1,h2,rfl⟩:=BN la hp;obtain⟨j,h3,h4,rfl⟩:=iV ht;exact h i h1 h2 j h3 h4
theorem hmany_b(m:Mh R a b out na nb)(lb:nb<=b.size){k:Nat}(hk:k<=nb)(h:∀i,k<=i->i<nb->∀j,j<na->j<a.size->R (at_ a j) (at_ b i)=true):Mh R a b (out++(b.extract k nb).reverse) na k:=by
 unfold Mh at m⊢;rw[ue hk]at m;rw[bZ];exact m.xy fun p hp t ht=>by
  obtain⟨i,h1,h2,rfl⟩:=BN lb hp;obtain⟨j,h3,h4,rfl⟩:=iV ht;exact h i h1 h2 j h3 h4
theorem hseg_a(w:Two S R a b)(la:na<=a.size)(hb:nb<b.size):Seg S R a 0 na (at_ b nb):=
 ⟨by omega,fun i hi=>w.sa _ (by omega),fun i j h1 h2=>w.ua _ _ (by omega) (by omega),w.sb _ hb,fun i hi=>w.dj _ _ (by omega) hb⟩
theorem hseg_b(w:Two S R a b)(lb:nb<=b.size)(ha:na<a.size):Seg S R b 0 nb (at_ a na):=
 ⟨by omega,fun i hi=>w.sb _ (by omega),fun i j h1 h2=>w.ub _ _ (by omega) (by omega),w.sa _ ha,fun i hi e=>w.dj _ _ ha (by omega) e.symm⟩
theorem oq(o:Od M A E s κ S R){c:Array Keyed}{i j:Nat}{x:Keyed}(sc:∀i,i<c.size->S (at_ c i))(u:∀i j,i<j->j<c.size->R (at_ c i) (at_ c j)=true)(sx:S x)(h:R (at_ c i) x=true)(hij:j<=i)(hj:i<c.size):R (at_ c j) x=true:=by
 rcases iR j i with z|z
 ·exact o.tr _ _ _ (sc _ (by omega)) (sc _ hj) sx (u _ _ z hj) h
 ·obtain rfl:j=i:=by omega
  exact h
noncomputable def HiQ(κ:eB)(R:Keyed->Keyed->Bool)(a b:Array Keyed)(st:SortSt)(n:Nat)(r:Option (Array Keyed))(na nb:Nat)(out:Array Keyed)(st':SortSt):Prop:=
 Ke κ st st'/\((∃x,r=some x/\Good R (a.toList++b.toList) x)\/(r=none/\Hi R a b out na nb/\n<=out.size))
theorem hoth_a(o:Od M A E s κ S R)(w:Two S R a b)(hb:nb<b.size)(la:na<=a.size){k:Nat}(h:∀i,k<=i->i<na->bey R a 0 (at_ b nb) i=false)(i:Nat)(z1:k<=i)(z2:i<na)(j:Nat)(z3:j<=nb)(z4:j<b.size):R (at_ b j) (at_ a i)=true:=by
 have z:=h i z1 z2;unfold bey at z;rw[dm]at z;refine oq o w.sb w.ub (w.sa _ (by omega)) ?_ z3 hb;rw[o.tri _ _ (w.sb _ hb) (w.sa _ (by omega)) fun e=>w.dj _ _ (by omega) hb e.symm,z];rfl
theorem hoth_b(o:Od M A E s κ S R)(w:Two S R a b)(ha:na<a.size)(lb:nb<=b.size){k:Nat}(h:∀i,k<=i->i<nb->bey R b 0 (at_ a na) i=false)(i:Nat)(z1:k<=i)(z2:i<nb)(j:Nat)(z3:j<=na)(z4:j<a.size):R (at_ a j) (at_ b i)=true:=by
 have z:=h i z1 z2;unfold bey at z;rw[dm]at z;refine oq o w.sa w.ua (w.sb _ (by omega)) ?_ z3 ha;rw[o.tri _ _ (w.sa _ ha) (w.sb _ (by omega)) (w.dj _ _ ha (by omega)),z];rfl
theorem vN(o:Od M A E s κ S R)(w:Two S R a b)(hk:kindOf st=κ){Q:Array Keyed->SortSt->Prop}(q:∀r st',Ke κ st st'->Good R (a.toList++b.toList) r->Q r st'):wpS M A E s (BD a b) Q st:=by
 have k0:Ke κ st st:=⟨hk,rfl,rfl,rfl⟩;have na:=w.na;have nb:=w.nb;have m00:Mh R a b #[] (a.size-1+1) b.size:=by
  refine⟨?_,.nil,kW.mpr ((oa w.ua).sublist (gb _ _)),kW.mpr ((oa w.ub).sublist (gb _ _)),(fun x hx=>nomatch hx)⟩;rw[cJ (by rw[ax];omega),cJ (by rw[ax];omega)];exact(ov _).append (ov _)
 have m0:=yh m00 (by omega) fun j _ hj=>w.la j hj;refine aj (nX (ee ⟨rfl,?_⟩));refine aj (cG (cz (by omega)) ?_);dsimp only;by_cases c1:a.size-1=0
 ·rw[if_pos (by simpa using c1)]
  exact az (q _ _ k0 (oi m0 c1))
 rw[if_neg (by simpa using c1)];by_cases c2:b.size=1
 ·rw[if_pos (by simpa using c2)]
  exact az (q _ _ k0 (oj w m0 c2))
 rw[if_neg (by simpa using c2)];refine aj (jf ?_);refine aj (eA (cj (I:=fun x c st'=>HiQ κ R a b st (x+1) c.1 c.2.1 c.2.2.1 c.2.2.2.1 st'/\c.1=none) (Q:=fun c st'=>Ke κ st st'/\∃r,c.1=some r/\Good R (a.toList++b.toList) r) ?_ ?_ ⟨⟨k0,.inr ⟨rfl,⟨by show 0<a.size-1;omega,by show 1<b.size;omega,Nat.sub_le _ _,aq _,m0⟩,by simp⟩⟩,rfl⟩) ?_)
 ·rintro x ⟨r,na,nb,out,g⟩ st1 _ hx ⟨⟨k1,h1⟩,rfl⟩
  obtain⟨_,hi,sz⟩:=h1.resolve_left fun⟨_,e,_⟩=>nomatch e;dsimp only at sz hi⊢;refine aj (eA (cj (I:=fun y c st'=>HiQ κ R a b st (x+1+y) c.1 c.2.1 c.2.2.1 c.2.2.2.1 st'/\c.1=none) (Q:=fun c st'=>HiQ κ R a b st (x+2) c.1 c.2.1 c.2.2.1 c.2.2.2.1 st') ?_ ?_ ⟨⟨k1,.inr ⟨rfl,hi,by simpa using sz⟩⟩,rfl⟩) ?_)
  ·rintro y ⟨r,na,nb,out,ac,bc⟩ st2 _ hy ⟨⟨k2,h2⟩,rfl⟩
   obtain⟨_,hi,sz⟩:=h2.resolve_left fun⟨_,e,_⟩=>nomatch e;have l1:=hi.ha;have l2:=hi.hb;have l3:=hi.la;have l4:=hi.lb;dsimp only at sz hi l1 l2 l3 l4⊢;refine aj (cG (cz (by omega)) (aj (cG (cz (by omega)) (aj (o.ask _ _ _ _ (w.sb _ (by omega)) (w.sa _ (by omega)) (fun e=>w.dj _ _ (by omega) (by omega) e.symm) k2.kd ?_)))));cases e:R (at_ b (nb-1)) (at_ a (na-1))with
   |true=>
    dsimp only;rw[if_pos rfl];refine aj (cG (cz (by omega)) ?_);have m:=hpa hi.mi l1 l3 fun j h1 h2=>oq o w.sb w.ub (w.sa _ (by omega)) e (by omega) (by omega);by_cases c:na-1=0
    ·rw[if_pos (by simpa using c)]
     exact az ⟨k2,.inl ⟨_,rfl,oi m c⟩⟩
    ·rw[if_neg (by simpa using c)]
     have hi':Hi R a b (out.push (at_ a (na-1))) (na-1) nb:=⟨by omega,l2,by omega,l4,m⟩;split
     ·exact az ⟨k2,.inr ⟨rfl,hi',by rw[bV];omega⟩⟩
     ·exact az ⟨⟨k2,.inr ⟨rfl,hi',by rw[bV];omega⟩⟩,rfl⟩
   |false=>
    dsimp only;rw[if_neg (by decide)];refine aj (cG (cz (by omega)) ?_);have e':R (at_ a (na-1)) (at_ b (nb-1))=true:=by
     rw[o.tri _ _ (w.sa _ (by omega)) (w.sb _ (by omega)) (w.dj _ _ (by omega) (by omega)),e];rfl
    have m:=hpb hi.mi (by omega) l4 fun i h1 h2=>oq o w.sa w.ua (w.sb _ (by omega)) e' (by omega) (by omega);by_cases c:nb-1=1
    ·rw[if_pos (by simpa using c)]
     exact az ⟨k2,.inl ⟨_,rfl,oj w m c⟩⟩
    ·rw[if_neg (by simpa using c)]
     have hi':Hi R a b (out.push (at_ b (nb-1))) na (nb-1):=⟨l1,by omega,l3,by omega,m⟩;split
     ·exact az ⟨k2,.inr ⟨rfl,hi',by rw[bV];omega⟩⟩
     ·exact az ⟨⟨k2,.inr ⟨rfl,hi',by rw[bV];omega⟩⟩,rfl⟩
  ·rintro⟨r,na,nb,out,ac,bc⟩ st2 ⟨⟨k2,h2⟩,e⟩
   obtain⟨_,hi,sz⟩:=h2.resolve_left fun⟨_,e',_⟩=>by rw[e]at e';cases e'
   exact⟨k2,.inr ⟨e,hi,by dsimp only at sz⊢;omega⟩⟩
  ·rintro⟨r,na,nb,out,ac,bc⟩ st2 ⟨k2,h2⟩
   dsimp only at h2⊢;rcases h2 with⟨z,rfl,gz⟩ |⟨rfl,hi,sz⟩
   ·exact az ⟨k2,z,rfl,gz⟩
   dsimp only;refine aj (nX (ee ⟨rfl,?_⟩));refine aj (eA (cj (I:=fun y c st'=>HiQ κ R a b st (x+2) c.1 c.2.1 c.2.2.1 c.2.2.2.1 st'/\c.1=none) (Q:=fun c st'=>HiQ κ R a b st (x+2) c.1 c.2.1 c.2.2.1 c.2.2.2.1 st') ?_ (fun c st' h=>h.1) ⟨⟨k2,.inr ⟨rfl,hi,sz⟩⟩,rfl⟩) ?_)
   ·rintro y ⟨r,na,nb,out,g,ac,bc⟩ st3 _ hy ⟨⟨k3,h3⟩,rfl⟩
    obtain⟨_,hi,sz⟩:=h3.resolve_left fun⟨_,e,_⟩=>nomatch e;have l1:=hi.ha;have l2:=hi.hb;have l3:=hi.la;have l4:=hi.lb;dsimp only at sz hi l1 l2 l3 l4⊢;by_cases cg:g>1
    case' pos=>
     rw[if_pos cg];have ke:=k3.g (g-1)
    case' neg=>
     rw[if_neg cg];have ke:=k3.g g
    all_goals
     refine aj (eN (aj (cG (cz (by omega)) (aj (gX o (hseg_a w l3 (by omega:nb-1<b.size)) (by omega) k3.kd fun k h1 h2 h3=>?_)))));have up:=hoth_a o w (by omega:nb-1<b.size) l3 h3;have dn:∀i,i<k->i<a.size->R (at_ a i) (at_ b (nb-1))=true:=fun i z _=>by
      have :=h2 i z
      unfold bey at this
      rwa [dm]at this
     dsimp only;by_cases c:na-k>0
     case' pos=>
      rw[if_pos c];have m:=hmany_a hi.mi l3 h1 fun i z1 z2 j z3 z4=>up i z1 z2 j (by omega) z4;by_cases c1:k=0
      ·rw[if_pos (by simpa using c1)]
       exact az ⟨ke,.inl ⟨_,rfl,oi m c1⟩⟩
      rw[if_neg (by simpa using c1)];have f1:0<k:=by omega
      have f2:x+2<=(out++(a.extract k na).reverse).size:=by rw[dG];omega
     case' neg=>
      rw[if_neg c];obtain rfl:k=na:=by omega
      have m:=hi.mi;have f1:=l1;have f2:=sz
     all_goals
      have m2:=hpb m (by omega) l4 dn;refine aj (cG (cz (by omega)) ?_);by_cases c:nb-1=1
      ·rw[if_pos (by simpa using c)]
       exact az ⟨ke,.inl ⟨_,rfl,oj w m2 c⟩⟩
      rw[if_neg (by simpa using c)];refine aj (cG (cz (by omega)) (aj (gX o (hseg_b w (by omega:nb-1<=b.size) (by omega:k-1<a.size)) (by omega) ke.kd fun k' h1' h2' h3'=>?_)));have up':=hoth_b o w (by omega:k-1<a.size) (by omega:nb-1<=b.size) h3';have dn':∀i,i<k'->i<b.size->R (at_ b i) (at_ a (k-1))=true:=fun i z _=>by
       have :=h2' i z
       unfold bey at this
       rwa [dm]at this
      dsimp only;by_cases c:nb-1-k'>0
      case' pos=>
       rw[if_pos c];have m3:=hmany_b m2 (by omega) h1' fun i z1 z2 j z3 z4=>up' i z1 z2 j (by omega) z4;by_cases c1:k'=1
       ·rw[if_pos (by simpa using c1)]
        exact az ⟨ke,.inl ⟨_,rfl,oj w m3 c1⟩⟩
       rw[if_neg (by simpa using c1)];by_cases c2:k'=0
       ·rw[if_pos (by simpa using c2)]
        exact az ⟨ke,.inl ⟨_,rfl,hdone_b m3 c2⟩⟩
       rw[if_neg (by simpa using c2)];have g1:1<k':=by omega
      case' neg=>
       rw[if_neg c];obtain rfl:k'=nb-1:=by omega
       have m3:=m2;have g1:1<nb-1:=by omega
      all_goals
       refine aj (cG (cz (by omega)) ?_);have m4:=hpa m3 f1 (by omega) dn';refine rH (fun c=>az ⟨ke,.inl ⟨_,rfl,oi m4 (Bv c)⟩⟩) fun c=>?_
       ·have c:=Bx c
        have hi':Hi R a b _ _ _:=⟨by omega,g1,by omega,by omega,m4⟩;split
        ·exact az ⟨ke,.inr ⟨rfl,hi',by simp only[bV,dG]at f2⊢;omega⟩⟩
        ·exact az ⟨⟨ke,.inr ⟨rfl,hi',by simp only[bV,dG]at f2⊢;omega⟩⟩,rfl⟩
   ·rintro⟨r,na,nb,out,g,ac,bc⟩ st3 ⟨k3,h3⟩
    dsimp only at h3⊢;rcases h3 with⟨z,rfl,gz⟩ |⟨rfl,hi,sz⟩
    ·exact az ⟨k3,z,rfl,gz⟩
    exact aj (eN (az ⟨⟨k3.g _,.inr ⟨rfl,hi,sz⟩⟩,rfl⟩))
 ·rintro⟨r,na,nb,out,g⟩ st1 ⟨⟨k1,h1⟩,e⟩
  obtain⟨_,hi,sz⟩:=h1.resolve_left fun⟨_,e',_⟩=>by rw[e]at e';cases e'
  have :=hi.size
  have l1:=hi.ha;have l2:=hi.hb;dsimp only at sz this l1 l2;omega
 ·rintro⟨r,na,nb,out,g⟩ st1 ⟨k1,z,e,gz⟩
  dsimp only at e⊢;subst e;exact az (q _ _ k1 gz)
end
noncomputable abbrev Rs(R:Keyed->Keyed->Bool)(l:List Keyed):Prop:=l.Pairwise fun x y=>R x y=true
section
variable {M:Model}{A:Around}{E:Value->Shared->Prop}{s:Shared}{κ:eB}{S:Keyed->Prop}{R:Keyed->Keyed->Bool}
theorem wpS_set{x:SortSt}{Q:PUnit->SortSt->Prop}{st:SortSt}(h:Q ⟨⟩ x):wpS M A E s (set x:StateT SortSt Sem PUnit) Q st:=by
 unfold wpS;rw[StateT.run_set];exact ak ⟨rfl,h⟩
theorem sV{arr:Array Keyed}{U W:List Keyed}(h:arr.toList=U++W){i:Nat}(hi:i<W.length):at_ arr (U.length+i)=W[i]:=by
 have h1:U.length+i<arr.toList.length:=by rw[h,ai];omega
 rw[<-dg h1];simp only[h];rw[List.getElem_append_right (by omega)];simp
theorem ui{o:Nat}:∀(l:List Keyed)(n:Nat)(arr:Array Keyed)(P L T:List Keyed),arr.toList=P++(L++T)->P.length=o+n->L.length=l.length->((l.zipIdx n).foldl (fun a x=>a.setIfInBounds (o+x.2) x.1) arr).toList=P++(l++T)
 | [],n,arr,P,L,T,h,h1,h2=>by
  obtain rfl:L=[]:=bO.mp h2;exact h
 |p::l,n,arr,P,[],T,h,h1,h2=>nomatch h2
 |p::l,n,arr,P,y::L,T,h,h1,h2=>by
  rw[List.zipIdx_cons,eF];have e:(arr.setIfInBounds (o+n) p).toList=(P++[p])++(L++T):=by
   rw[tE,h,<-h1,List.set_append_right _ _ (aq _),Nat.sub_self];simp
  have :=ui l (n+1) (arr.setIfInBounds (o+n) p) (P++[p]) L T e (by rw[ai,eL,h1];rfl) (mG h2)
  rw[this];simp
theorem t8{arr:Array Keyed}{U W V:List Keyed}{key:Keyed}(h:arr.toList=U++(W++V))(u:Rs R W)(hs:∀x∈W,S x)(hk:S key)(nk:key∉W):Seg S R arr U.length W.length key:=by
 have a:∀i (hi:i<W.length),at_ arr (U.length+i)=W[i]:=fun i hi=>by
  rw[sV h (by rw[ai];omega),jr hi]
 refine⟨?_,fun i hi=>?_,fun i j h1 h2=>?_,hk,fun i hi e=>?_⟩
 ·have :arr.toList.length=arr.size:=rfl
  rw[<-this,h,ai,ai];omega
 ·rw[a i hi]
  exact hs _ (bp hi)
 ·rw[a i (by omega),a j h2]
  exact aX.mp u i j (by omega) h2 h1
 ·rw[a i hi]at e
  exact nk (e▸bp hi)
theorem lB{x:Array Keyed}{i:Nat}(h:i<x.size):at_ x i∈x.toList:=by rw[<-dg (by simpa using h)];exact bp _
theorem Ad{x y:Array Keyed}{z:Keyed}(ux:Rs R x.toList)(uy:Rs R y.toList)(sx:∀p∈x.toList,S p)(sy:∀p∈y.toList,S p)(dj:∀p∈x.toList,∀t∈y.toList,p≠t)(hf:∀t∈x.toList,R (at_ y 0) t=true)(hl:∀t∈y.toList,R t (at_ x (x.size-1))=true)(nx:0<x.size)(ny:0<y.size):Two S R x y where
 sa:=fun i hi=>sx _ (lB hi)
 sb:=fun i hi=>sy _ (lB hi)
 ua:=fun i j h1 h2=>by
  have :=aX.mp ux i j (by rw[ax];omega) (by rw[ax];exact h2) h1
  rwa [dg,dg]at this
 ub:=fun i j h1 h2=>by
  have :=aX.mp uy i j (by rw[ax];omega) (by rw[ax];exact h2) h1
  rwa [dg,dg]at this
 dj:=fun i j h1 h2=>dj _ (lB h1) _ (lB h2)
 la:=fun j hj=>hl _ (lB hj)
 fb:=fun i hi=>hf _ (lB hi)
 na:=nx
 nb:=ny
theorem vO(o:Od M A E s κ S R){st:SortSt}{i:Nat}{U P T V:List Keyed}{pw pw':Nat}{Q:Bool->SortSt->Prop}(hk:kindOf st=κ)(hf:cB st=none)(h:(arrOf st).toList=U++(P++(T++V)))
  (p1:(bL st)[i]? =some (U.length,P.length,pw))(p2:(bL st)[i+1]? =some (U.length+P.length,T.length,pw'))(uP:Rs R P)(uT:Rs R T)(nP:P≠[])(nT:T≠[])(hs:∀x∈(arrOf st).toList,S x)(nd:(arrOf st).toList.Nodup)
  (q:∀(st':SortSt) C,kindOf st'=κ->cB st'=none->(arrOf st').toList=U++(C++V)->C.Perm (P++T)->Rs R C->bL st'=((bL st).setIfInBounds i (U.length,P.length+T.length,pw)).eraseIdxIfInBounds (i+1)->Q true st'):
  wpS M A E s (mergeAt' i) Q st:=by
 have sP:∀x∈P,S x:=fun x hx=>hs x (by rw[h];simp[hx]);have sT:∀x∈T,S x:=fun x hx=>hs x (by rw[h];simp[hx]);rw[h]at nd;obtain⟨_,nd1,_⟩:=gf.mp nd;obtain⟨_,nd2,dj⟩:=gf.mp nd1;have dj:∀p∈P,∀t∈T,p≠t:=fun p hp t ht=>dj p hp t (bN.mpr (.inl ht));have lP:0<P.length:=mH.mpr nP;have lT:0<T.length:=mH.mpr nT;have h2:(arrOf st).toList=(U++P)++(T++V):=by rw[h];simp
 have aP:∀i (hi:i<P.length),at_ (arrOf st) (U.length+i)=P[i]:=fun i hi=>by rw[sV h (by rw[ai];omega),jr hi]
 have aT:∀i (hi:i<T.length),at_ (arrOf st) (U.length+P.length+i)=T[i]:=fun i hi=>by
  have :=sV h2 (i:=i) (by rw[ai];omega)
  rw[ai]at this;rw[this,jr hi]
 have sz:(arrOf st).size=U.length+(P.length+(T.length+V.length)):=by
  have :(arrOf st).toList.length=(arrOf st).size:=rfl;rw[<-this,h];simp
 have t0:at_ (arrOf st) (U.length+P.length)=T[0]:=aT 0 lT;refine aj (jf ?_);rw[p1,p2];dsimp only;refine aj (wpS_set ?_);obtain⟨st1,hst⟩:∃x,x=eV (kindOf st) (arrOf st) (((bL st).setIfInBounds i (U.length,P.length+T.length,pw)).eraseIdxIfInBounds (i+1)) (zL st) (cB st):=⟨_,rfl⟩;change wpS M A E s _ Q (eV (kindOf st) (arrOf st) (((bL st).setIfInBounds i (U.length,P.length+T.length,pw)).eraseIdxIfInBounds (i+1)) (zL st) (cB st));rw[<-hst];have k1:kindOf st1=κ:=by rw[hst];exact hk
 have f1:cB st1=none:=by rw[hst];exact hf
 have a1:arrOf st1=arrOf st:=by rw[hst]
 have e1:bL st1=((bL st).setIfInBounds i (U.length,P.length+T.length,pw)).eraseIdxIfInBounds (i+1):=by rw[hst]
 have mT0:T[0]∈T:=bp lT;refine aj (cG (cz (show U.length+P.length<(arrOf st).size by omega)) ?_);rw[t0];refine aj (gX o (t8 h uP sP (sT _ mT0) fun z=>dj _ z _ mT0 rfl) (by omega) k1 fun k b1 b2 b3=>?_);have lo1:∀i (hi:i<P.length),i<k->R P[i] T[0]=true:=fun i hi hik=>by
  have :=b2 i hik
  unfold bey at this
  rwa [aP i hi]at this
 have hi1:∀i (hi:i<P.length),k<=i->R T[0] P[i]=true:=fun i hi hik=>by
  have :=b3 i hik hi
  unfold bey at this;rw[aP i hi]at this;rw[o.tri _ _ (sT _ mT0) (sP _ (bp hi)) fun e=>dj _ (bp hi) _ mT0 e.symm,this];rfl
 have T0le:∀x y,S x->R x T[0]=true->y∈T->R x y=true:=fun x y sx hx hy=>by
  obtain⟨j,hj,rfl⟩:=aZ.mp hy;rcases Nat.eq_zero_or_pos j with rfl|c
  ·exact hx
  ·exact o.tr _ _ _ sx (sT _ mT0) (sT _ hy) hx (aX.mp uT 0 j lT hj c)
 dsimp only;by_cases c0:P.length-k=0
 ·rw[if_pos (by simpa using c0)]
  refine az (q st1 (P++T) k1 f1 (by rw[a1,h];simp) (CV _) (bR.mpr ⟨uP,uT,fun x hx y hy=>?_⟩) e1);obtain⟨j,hj,rfl⟩:=aZ.mp hx;exact T0le _ _ (sP _ hx) (lo1 j hj (by omega)) hy
 rw[if_neg (by simpa using c0)];have lst:at_ (arrOf st) (U.length+k+(P.length-k)-1)=P[P.length-1]'(by omega):=by
  rw[show U.length+k+(P.length-k)-1=U.length+(P.length-1) by omega];exact aP _ (by omega)
 have mL:P[P.length-1]'(by omega)∈P:=bp _;refine aj (cG (cz (show U.length+k+(P.length-k)-1<(arrOf st).size by omega)) ?_);rw[lst];have sg:=t8 h2 uT sT (sP _ mL) fun z=>dj _ mL _ z rfl;rw[ai]at sg;refine aj (gX o sg (by omega) k1 fun m d1 d2 d3=>?_);have lo2:∀i (hi:i<T.length),i<m->R T[i] (P[P.length-1]'(by omega))=true:=fun i hi hik=>by
  have :=d2 i hik
  unfold bey at this
  rwa [aT i hi]at this
 have hi2:∀i (hi:i<T.length),m<=i->R (P[P.length-1]'(by omega)) T[i]=true:=fun i hi hik=>by
  have :=d3 i hik hi
  unfold bey at this;rw[aT i hi]at this;rw[o.tri _ _ (sP _ mL) (sT _ (bp hi)) (dj _ mL _ (bp hi)),this];rfl
 dsimp only;by_cases c1:m=0
 ·have z1:=hi1 (P.length-1) (by omega) (by omega)
  have z2:=hi2 0 lT (by omega);rw[o.asym (sT _ mT0) (sP _ mL) z1]at z2;cases z2
 rw[if_neg (by simpa using c1)];have eP:P=P.take k++P.drop k:=(bg k P).symm;have eT:T=T.take m++T.drop m:=(bg m T).symm;have ex:((arrOf st).extract (U.length+k) (U.length+P.length)).toList=P.drop k:=by
  have hh:(arrOf st).toList=(U++P.take k)++(P.drop k++(T++V)):=by
   rw[h,ba,<-ba (P.take k),bg]
  rw[cD,bT,hh,show U.length+k=(U++P.take k).length by rw[ai,aA];omega,List.drop_left,ai,aA,show U.length+P.length-(U.length+min k P.length)=(P.drop k).length by rw[be];omega,tI]
 have ey:((arrOf st).extract (U.length+P.length) (U.length+P.length+m)).toList=T.take m:=by
  rw[ph,h2,show U.length+P.length=(U++P).length by rw[ai],List.drop_left,List.take_append_of_le_length (by omega)]
 have mx:∀{x},x∈P.drop k->x∈P:=fun hx=>dI hx;have my:∀{x},x∈T.take m->x∈T:=fun hx=>cE hx;have dR:∀{x},x∈P.drop k->R T[0] x=true:=fun{x} hx=>by
  obtain⟨j,hj,rfl⟩:=aZ.mp hx;rw[be]at hj;rw[cK];exact hi1 _ _ (by omega)
 have dL:∀{x},x∈T.take m->R x (P[P.length-1]'(by omega))=true:=fun{x} hx=>by
  obtain⟨j,hj,rfl⟩:=aZ.mp hx;rw[aA]at hj;rw[b8];exact lo2 _ _ (by omega)
 generalize hx:(arrOf st).extract (U.length+k) (U.length+P.length)=x at ex;generalize hy:(arrOf st).extract (U.length+P.length) (U.length+P.length+m)=y at ey;have xs:x.size=P.length-k:=by rw[<-ax,ex,be]
 have ys:y.size=m:=by rw[<-ax,ey,aA];omega
 have y0:at_ y 0=T[0]:=by
  rw[<-dg (by rw[ax,ys];omega)];simp only[ey];rw[b8]
 have xl:at_ x (x.size-1)=P[P.length-1]'(by omega):=by
  rw[<-dg (by rw[ax];omega)];simp only[ex,xs];rw[cK];congr 1;omega
 have tw:Two S R x y:=Ad (z:=T[0]) (by rw[ex];exact uP.sublist (List.drop_sublist _ _)) (by rw[ey];exact uT.sublist (gb _ _)) (fun p hp=>sP _ (mx (by rwa [ex]at hp))) (fun p hp=>sT _ (my (by rwa [ey]at hp))) (fun p hp t ht=>dj _ (mx (by rwa [ex]at hp)) _ (my (by rwa [ey]at ht)))
  (fun t ht=>by rw[y0];exact dR (by rwa [ex]at ht)) (fun t ht=>by rw[xl];exact dL (by rwa [ey]at ht)) (by omega) (by omega)
 have fin:∀(r:Array Keyed)(st2:SortSt),Ke κ st1 st2->Good R (x.toList++y.toList) r->Q (cB (eV (kindOf st2) (r.toList.zipIdx.foldl (fun a z=>a.setIfInBounds (U.length+k+z.2) z.1) (arrOf st2)) (bL st2) (zL st2) (cB st2))).isNone (eV (kindOf st2) (r.toList.zipIdx.foldl (fun a z=>a.setIfInBounds (U.length+k+z.2) z.1) (arrOf st2)) (bL st2) (zL st2) (cB st2)):=fun r st2 ke gd=>by
  obtain⟨g1,g2⟩:=gd;rw[ex,ey]at g1;have hfl:cB st2=none:=ke.fa.trans f1;have e2:(cB (eV (kindOf st2) (r.toList.zipIdx.foldl (fun a z=>a.setIfInBounds (U.length+k+z.2) z.1) (arrOf st2)) (bL st2) (zL st2) (cB st2))).isNone=true:=by
   show(cB st2).isNone=true;rw[hfl];rfl
  rw[e2];have hh:(arrOf st2).toList=(U++P.take k)++((P.drop k++T.take m)++(T.drop m++V)):=by
   simp only[ba];rw[ke.ar,a1,h,<-ba (P.take k),bg,<-ba (T.take m),bg]
  have pl:=ui (o:=U.length+k) r.toList 0 (arrOf st2) _ _ _ hh (by rw[ai,aA];omega) g1.length_eq.symm;refine q _ (P.take k++(r.toList++T.drop m)) ke.kd hfl ?_ ?_ ?_ (ke.pe.trans e1)
  ·show((r.toList.zipIdx.foldl (fun a z=>a.setIfInBounds (U.length+k+z.2) z.1) (arrOf st2))).toList=_
   rw[pl];simp
  ·have pm:=(g1.append_right (T.drop m)).append_left (P.take k)
   have e:P.take k++(P.drop k++T.take m++T.drop m)=P++T:=by rw[ba (P.drop k),<-ba (P.take k),bg,bg]
   rwa [e]at pm
  ·have mr:∀{z},z∈r.toList->z∈P.drop k\/z∈T.take m:=fun hz=>bN.mp (g1.mem_iff.mp hz)
   have uP':Rs R (P.take k++P.drop k):=by rw[<-eP];exact uP
   have uT':Rs R (T.take m++T.drop m):=by rw[<-eT];exact uT
   obtain⟨v1,v2,v3⟩:=bR.mp uP';obtain⟨v4,v5,v6⟩:=bR.mp uT';have low:∀{p},p∈P.take k->R p T[0]=true:=fun{p} hp=>by
    obtain⟨j,hj,rfl⟩:=aZ.mp hp;rw[aA]at hj;rw[b8];exact lo1 _ _ (by omega)
   refine bR.mpr ⟨v1,bR.mpr ⟨g2,v5,fun p hp t ht=>?_⟩,fun p hp t ht=>?_⟩
   ·rcases mr hp with z|z
    ·have tt:R (P[P.length-1]'(by omega)) t=true:=by
      obtain⟨j,hj,rfl⟩:=aZ.mp ht;rw[be]at hj;rw[cK];exact hi2 _ _ (by omega)
     obtain⟨j,hj,rfl⟩:=aZ.mp (mx z);rcases iR j (P.length-1)with c|c
     ·exact o.tr _ _ _ (sP _ (mx z)) (sP _ mL) (sT _ (dI ht)) (aX.mp uP j _ hj (by omega) c) tt
     ·have :j=P.length-1:=by omega
      subst this;exact tt
    ·exact v6 p z t ht
   ·rcases bN.mp ht with z|z
    ·rcases mr z with y|y
     ·exact v3 p hp t y
     ·exact T0le _ _ (sP _ (cE hp)) (low hp) (my y)
    ·exact T0le _ _ (sP _ (cE hp)) (low hp) (dI z)
 refine rH (fun _=>aj ?_) fun _=>aj ?_
 ·exact vM o tw k1 fun r st2 ke gd=>aj (eN (aj (jf (az (fin r st2 ke gd)))))
 ·exact vN o tw k1 fun r st2 ke gd=>aj (eN (aj (jf (az (fin r st2 ke gd)))))
end
noncomputable def Up(R:Keyed->Keyed->Bool)(arr:Array Keyed)(lo n:Nat):Prop:=∀i j,i<j->j<n->R (at_ arr (lo+i)) (at_ arr (lo+j))=true
noncomputable def Dn(R:Keyed->Keyed->Bool)(arr:Array Keyed)(lo n:Nat):Prop:=∀i j,i<j->j<n->R (at_ arr (lo+j)) (at_ arr (lo+i))=true
section
variable {M:Model}{A:Around}{E:Value->Shared->Prop}{s:Shared}{κ:eB}{S:Keyed->Prop}{R:Keyed->Keyed->Bool}{arr:Array Keyed}{lo nrem n:Nat}{st:SortSt}
structure Al(S:Keyed->Prop)(arr:Array Keyed):Prop where
 hs:∀x∈arr.toList,S x
 nd:arr.toList.Nodup
theorem Al.inS(h:Al S arr){i:Nat}(hi:i<arr.size):S (at_ arr i):=h.hs _ (lB hi)
theorem Al.ne(h:Al S arr){i j:Nat}(hi:i<arr.size)(hj:j<arr.size)(n:i≠j):at_ arr i≠at_ arr j:=fun e=>by
 rw[<-dg (by simpa using hi),<-dg (by simpa using hj)]at e;exact n ((du h.nd).mp e)
theorem Al.perm{arr':Array Keyed}(h:Al S arr)(p:arr'.Perm arr):Al S arr':=by
 have q:=cn.mp p;exact⟨fun x hx=>h.hs x (q.mem_iff.mp hx),q.nodup_iff.mpr h.nd⟩
theorem flip(o:Od M A E s κ S R)(h:Al S arr){i j:Nat}(hi:i<arr.size)(hj:j<arr.size)(n:i≠j)(e:R (at_ arr i) (at_ arr j)=false):R (at_ arr j) (at_ arr i)=true:=by
 rw[o.tri _ _ (h.inS hj) (h.inS hi) (h.ne hj hi fun z=>n z.symm),e];rfl
theorem qM(o:Od M A E s κ S R)(hk:kindOf st=κ)(h:Al S (arrOf st)){i j:Nat}{Q:Option Bool->SortSt->Prop}(hi:i<(arrOf st).size)(hj:j<(arrOf st).size)(n:i≠j)(q:Q (some (R (at_ (arrOf st) i) (at_ (arrOf st) j))) st):wpS M A E s (ltAt' i j) Q st:=
 aj (jf (aj (cG (cz hi) (aj (cG (cz hj) (o.ask _ _ _ _ (h.inS hi) (h.inS hj) (h.ne hi hj n) hk q))))))
theorem Up.succ(o:Od M A E s κ S R)(h:Al S arr)(hn:lo+n<arr.size)(h1:1<=n)(u:Up R arr lo n)(e:R (at_ arr (lo+n-1)) (at_ arr (lo+n))=true):Up R arr lo (n+1):=fun i j hij hj=>by
 by_cases c:j=n
 ·subst c
  by_cases c2:i=j-1
  ·subst c2
   rwa [show lo+j-1=lo+(j-1) by omega]at e
  ·have :=u i (j-1) (by omega) (by omega)
   rw[show lo+j-1=lo+(j-1) by omega]at e;exact o.tr _ _ _ (h.inS (by omega)) (h.inS (by omega)) (h.inS hn) this e
 ·exact u i j hij (by omega)
theorem Dn.succ(o:Od M A E s κ S R)(h:Al S arr)(hn:lo+n<arr.size)(h1:1<=n)(u:Dn R arr lo n)(e:R (at_ arr (lo+n)) (at_ arr (lo+n-1))=true):Dn R arr lo (n+1):=fun i j hij hj=>by
 by_cases c:j=n
 ·subst c
  by_cases c2:i=j-1
  ·subst c2
   rwa [show lo+j-1=lo+(j-1) by omega]at e
  ·have :=u i (j-1) (by omega) (by omega)
   rw[show lo+j-1=lo+(j-1) by omega]at e;exact o.tr _ _ _ (h.inS hn) (h.inS (by omega)) (h.inS (by omega)) e this
 ·exact u i j hij (by omega)
theorem vj(o:Od M A E s κ S R)(h:Al S arr){f:Nat->Option (Option Nat)×Nat->StateT SortSt Sem (ForInStep (Option (Option Nat)×Nat))}{Q:Option (Option Nat)×Nat->SortSt->Prop}{n0:Nat}(hz:lo+nrem<=arr.size)
  (hf:∀x n (Q':ForInStep (Option (Option Nat)×Nat)->SortSt->Prop),1<=n->n<nrem->(R (at_ arr (lo+n)) (at_ arr (lo+n-1))=true->Q' (.done (none,n)) st)->(R (at_ arr (lo+n)) (at_ arr (lo+n-1))=false->Q' (.yield (none,n+1)) st)->wpS M A E s (f x (none,n)) Q' st)
  (h1:1<=n0)(h2:n0<=nrem)(u:Up R arr lo n0)(q:∀n,n0<=n->n<=nrem->Up R arr lo n->(n=nrem\/R (at_ arr (lo+n)) (at_ arr (lo+n-1))=true)->Q (none,n) st):wpS M A E s (forIn [n0:nrem] (none,n0) f) Q st:=by
 refine cj (I:=fun x c st'=>st'=st/\c=(none,x)/\n0<=x/\x<=nrem/\Up R arr lo x) ?_ ?_ ⟨rfl,rfl,aq _,h2,u⟩
 ·rintro x c st' _ hx ⟨rfl,rfl,a1,a2,a3⟩
  refine hf _ _ _ (by omega) hx (fun e=>q x a1 a2 a3 (.inr e)) fun e=>⟨rfl,rfl,by omega,hx,a3.succ o h (by omega) (by omega) (flip o h (by omega) (by omega) (by omega) e)⟩
 ·rintro c st' ⟨rfl,rfl,a1,a2,a3⟩
  rw[Nat.max_eq_right h2]at a3⊢;exact q nrem h2 (aq _) a3 (.inl rfl)
theorem zF{n:Nat}(hn:lo+n<=arr.size)(k:Nat):at_ (mirror arr lo (lo+n) ((lo+n-lo)/2)) k=if lo<=k/\k<lo+n then at_ arr (lo+(lo+n)-1-k)else at_ arr k:=by
 unfold at_;rw[bH,getElem?_mirror_all hn];split <;>rw[bH]
theorem tQ(o:Od M A E s κ S R)(hk:kindOf st=κ)(h:Al S (arrOf st)){Q:Option Nat->SortSt->Prop}(h1:1<=nrem)(hz:lo+nrem<=(arrOf st).size)
  (q:∀n arr',1<=n->n<=nrem->arr'.Perm (arrOf st)->(∀k,k<lo->at_ arr' k=at_ (arrOf st) k)->Up R arr' lo n->Q (some n) (setArr st arr')):wpS M A E s (countRun' lo nrem) Q st:=by
 refine aj (vj o h hz (fun x n Q' z1 z2 f1 f2=>?_) (aq _) h1 (fun i j _ _=>by omega) fun n a1 a2 a3 a4=>?_)
 ·dsimp only
  refine aj (qM o hk h (by omega) (by omega) (by omega) ?_);cases e:R (at_ (arrOf st) (lo+n)) (at_ (arrOf st) (lo+n-1))with
  |true=>exact az (f1 e)
  |false=>exact az (f2 e)
 dsimp only;by_cases c:n=nrem
 ·rw[if_pos (by simpa using c)]
  exact az (q n (arrOf st) a1 a2 (gD _) (fun _ _=>rfl) a3)
 rw[if_neg (by simpa using c)];by_cases d:n>1
 ·rw[if_pos d]
  refine aj (qM o hk h (by omega) (by omega) (by omega) ?_);have e:=a3 0 (n-1) (by omega) (by omega);rw[Nat.add_zero,show lo+(n-1)=lo+n-1 by omega]at e;rw[e];exact az (q n (arrOf st) a1 a2 (gD _) (fun _ _=>rfl) a3)
 rw[if_neg d];obtain rfl:n=1:=by omega
 have e1:=a4.resolve_left c;refine aj (nX (ee ⟨rfl,?_⟩));refine aj (eA (cj (I:=fun x c st'=>st'=st/\c=(none,x,0)/\2<=x/\x<=nrem/\Dn R (arrOf st) lo x) (Q:=fun c st'=>st'=st/\∃x,c=(none,x,0)/\2<=x/\x<=nrem/\Dn R (arrOf st) lo x) ?_ ?_ ⟨rfl,rfl,by omega,by omega,fun i j hij hj=>?_⟩) ?_)
 ·rintro x c st' _ hx ⟨rfl,rfl,b1,b2,b3⟩
  dsimp only;refine aj (qM o hk h (by omega) (by omega) (by omega) ?_);cases e:R (at_ (arrOf st') (lo+x)) (at_ (arrOf st') (lo+x-1))with
  |true=>
   dsimp only;rw[if_pos rfl,if_neg (by omega)];exact az ⟨rfl,rfl,by omega,hx,b3.succ o h (by omega) (by omega) e⟩
  |false=>
   dsimp only;rw[if_neg (by decide)];refine aj (qM o hk h (by omega) (by omega) (by omega) ?_);rw[flip o h (by omega) (by omega) (by omega) e];exact az ⟨rfl,x,rfl,b1,b2,b3⟩
 ·rintro c st' ⟨rfl,rfl,b1,b2,b3⟩
  exact⟨rfl,_,rfl,b1,b2,b3⟩
 ·obtain rfl:j=1:=by omega
  obtain rfl:i=0:=by omega
  exact e1
 ·rintro c st' ⟨rfl,x,rfl,b1,b2,b3⟩
  dsimp only;rw[if_neg (by omega)];refine aj (eN ?_);have pm:(mirror (arrOf st') lo (lo+x) ((lo+x-lo)/2)).Perm (arrOf st'):=mirror_perm _ _ _ _;have h':=h.perm pm;have sz':(mirror (arrOf st') lo (lo+x) ((lo+x-lo)/2)).size=(arrOf st').size:=pm.size_eq;have am:=zF (arr:=arrOf st') (lo:=lo) (n:=x) (by omega);have ar:arrOf (setArr st' (mirror (arrOf st') lo (lo+x) ((lo+x-lo)/2)))=mirror (arrOf st') lo (lo+x) ((lo+x-lo)/2):=rfl;change wpS M A E s _ Q (setArr st' (mirror (arrOf st') lo (lo+x) ((lo+x-lo)/2)));generalize mirror (arrOf st') lo (lo+x) ((lo+x-lo)/2)=ar' at pm h' sz' am ar;refine aj (vj o h' (by rw[sz'];exact hz) (fun x n Q' z1 z2 f1 f2=>?_) (by omega) b2 (fun i j hij hj=>?_) fun n a1 a2 a3 a4=>?_)
  ·dsimp only
   refine aj (qM (st:=setArr st' ar') o hk h' (by rw[ar,sz'];omega) (by rw[ar,sz'];omega) (by omega) ?_);rw[ar];cases e:R (at_ ar' (lo+n)) (at_ ar' (lo+n-1))with
   |true=>exact az (f1 e)
   |false=>exact az (f2 e)
  ·rw[am,am,if_pos (by omega),if_pos (by omega),show lo+(lo+x)-1-(lo+i)=lo+(x-1-i) by omega,show lo+(lo+x)-1-(lo+j)=lo+(x-1-j) by omega]
   exact b3 _ _ (by omega) (by omega)
  ·exact az (q n ar' (by omega) a2 pm (fun k hk=>by rw[am,if_neg (by omega)]) a3)
theorem zG{src d:Nat}(hs:src<arr.size)(hd:d<=src)(k:Nat):at_ (bubble arr src d) k=if k=src-d then at_ arr src else if src-d<k/\k<=src then at_ arr (k-1)else at_ arr k:=by
 unfold at_;rw[bH,getElem?_bubble hs d hd,bH,bH,bH];split
 ·rfl
 ·split <;>rfl
theorem pV(o:Od M A E s κ S R)(hk:kindOf st=κ)(h:Al S (arrOf st)){Q:Bool->SortSt->Prop}{ok:Nat}(h1:1<=ok)(h2:ok<=n)(hz:lo+n<=(arrOf st).size)(u:Up R (arrOf st) lo ok)
  (q:∀arr',arr'.Perm (arrOf st)->(∀k,k<lo->at_ arr' k=at_ (arrOf st) k)->Up R arr' lo n->Q true (setArr st arr')):wpS M A E s (binarySort' lo n ok) Q st:=by
 refine aj (eA (cj (I:=fun x c st'=>c=(none,())/\∃ar,st'=setArr st ar/\ar.Perm (arrOf st)/\(∀k,k<lo->at_ ar k=at_ (arrOf st) k)/\ok<=x/\Up R ar lo x) (Q:=fun c st'=>c=(none,())/\∃ar,st'=setArr st ar/\ar.Perm (arrOf st)/\(∀k,k<lo->at_ ar k=at_ (arrOf st) k)/\Up R ar lo n) ?_ ?_ ⟨rfl,arrOf st,rfl,gD _,fun _ _=>rfl,by omega,by rw[Nat.max_eq_left h1];exact u⟩) ?_)
 ·rintro k c st' hk1 hk2 ⟨rfl,ar,rfl,pm,below,ok1,u⟩
  have h':=h.perm pm;have sz':ar.size=(arrOf st).size:=pm.size_eq;have ea:arrOf (setArr st ar)=ar:=rfl;dsimp only;refine aj (eA (cj (I:=fun x c st'=>st'=setArr st ar/\∃l r,c=(none,l,r)/\l<=r/\r<=k/\r-l+x<=k/\(∀i,i<l->R (at_ ar (lo+i)) (at_ ar (lo+k))=true)/\(∀i,r<=i->i<k->R (at_ ar (lo+k)) (at_ ar (lo+i))=true))
   (Q:=fun c st'=>st'=setArr st ar/\∃l,c=(none,l,l)/\l<=k/\(∀i,i<l->R (at_ ar (lo+i)) (at_ ar (lo+k))=true)/\(∀i,l<=i->i<k->R (at_ ar (lo+k)) (at_ ar (lo+i))=true)) ?_ ?_ ⟨rfl,0,k,rfl,aW _,aq _,by omega,(fun i hi=>absurd hi (fN _)),fun i z1 z2=>by omega⟩) ?_)
  ·rintro x c st2 _ hx ⟨rfl,l,r,rfl,a1,a2,a3,a4,a5⟩
   dsimp only;by_cases c:l≥ r
   ·rw[if_pos c]
    obtain rfl:l=r:=by omega
    exact az ⟨rfl,l,rfl,a2,a4,a5⟩
   ·rw[if_neg c]
    refine aj (qM (st:=setArr st ar) o hk h' (by rw[ea,sz'];omega) (by rw[ea,sz'];omega) (by omega) ?_);rw[ea];cases e:R (at_ ar (lo+k)) (at_ ar (lo+(l+r)/2))with
    |true=>
     refine az ⟨rfl,_,_,rfl,by omega,by omega,by omega,a4,fun i z1 z2=>?_⟩;by_cases z:i=(l+r)/2
     ·rw[z];exact e
     ·exact o.tr _ _ _ (h'.inS (by omega)) (h'.inS (by omega)) (h'.inS (by omega)) e (u _ _ (by omega) (by omega))
    |false=>
     have e':=flip o h' (by omega) (by omega) (by omega) e;refine az ⟨rfl,_,_,rfl,by omega,a2,by omega,fun i z1=>?_,a5⟩;by_cases z:i=(l+r)/2
     ·rw[z];exact e'
     ·exact o.tr _ _ _ (h'.inS (by omega)) (h'.inS (by omega)) (h'.inS (by omega)) (u _ _ (by omega) (by omega)) e'
  ·rintro c st2 ⟨rfl,l,r,rfl,a1,a2,a3,a4,a5⟩
   obtain rfl:l=r:=by omega
   exact⟨rfl,l,rfl,a2,a4,a5⟩
  ·rintro c st2 ⟨rfl,l,rfl,a2,a4,a5⟩
   dsimp only;refine aj (eN (az ?_));have ab:=zG (arr:=ar) (src:=lo+k) (d:=k-l) (by omega) (by omega);rw[show lo+k-(k-l)=lo+l by omega]at ab;refine⟨rfl,bubble ar (lo+k) (lo+k-(lo+l)),rfl,(bubble_perm _ _ _).trans pm,?_⟩;rw[show lo+k-(lo+l)=k-l by omega];refine⟨fun i hi=>by rw[ab,if_neg (by omega),if_neg (by omega)];exact below i hi,by omega,fun i j hij hj=>?_⟩;have v1:at_ (bubble ar (lo+k) (k-l)) (lo+l)=at_ ar (lo+k):=by rw[ab,if_pos rfl]
   have v2:∀i,i<l->at_ (bubble ar (lo+k) (k-l)) (lo+i)=at_ ar (lo+i):=fun i z=>by rw[ab,if_neg (by omega),if_neg (by omega)]
   have v3:∀i,l<i->i<=k->at_ (bubble ar (lo+k) (k-l)) (lo+i)=at_ ar (lo+(i-1)):=fun i z1 z2=>by rw[ab,if_neg (by omega),if_pos (by omega),show lo+i-1=lo+(i-1) by omega]
   rcases Nat.lt_trichotomy i l with c|c|c
   ·rw[v2 i c]
    rcases Nat.lt_trichotomy j l with d|d|d
    ·rw[v2 j d]
     exact u _ _ hij (by omega)
    ·rw[d,v1]
     exact a4 i c
    ·rw[v3 j d (by omega)]
     exact u _ _ (by omega) (by omega)
   ·rw[c,v1,v3 j (by omega) (by omega)]
    exact a5 _ (by omega) (by omega)
   ·rw[v3 i c (by omega),v3 j (by omega) (by omega)]
    exact u _ _ (by omega) (by omega)
 ·rintro c st' ⟨rfl,ar,rfl,pm,below,_,u⟩
  rw[show max (max ok 1) n=n by omega]at u;exact⟨rfl,ar,rfl,pm,below,u⟩
 ·rintro c st' ⟨rfl,ar,rfl,pm,below,u⟩
  exact az (q ar pm below u)
end
noncomputable def Pn:Nat->List (Nat×Nat×Nat)->List (List Keyed)->Prop
 |_,[],[]=>True
 |o,p::ps,G::gs=>p.1=o/\p.2.1=G.length/\Pn (o+G.length) ps gs
 |_,_,_=>False
theorem Pn.len:∀{o:Nat}{ps:List (Nat×Nat×Nat)}{gs:List (List Keyed)},Pn o ps gs->ps.length=gs.length
 |_,[],[],_=>rfl
 |_,[],_::_,h=>h.elim
 |_,_::_,[],h=>h.elim
 |_,_::ps,_::gs,h=>by rw[a7,a7,Pn.len h.2.2]
theorem Pn.snoc:∀{o:Nat}{ps:List (Nat×Nat×Nat)}{gs:List (List Keyed)}{G:List Keyed}{w:Nat},Pn o ps gs->Pn o (ps++[(o+gs.flatten.length,G.length,w)]) (gs++[G])
 |o,[],[],G,w,_=>⟨rfl,rfl,trivial⟩
 |_,[],_::_,_,_,h=>h.elim
 |_,_::_,[],_,_,h=>h.elim
 |o,p::ps,F::gs,G,w,h=>by
  refine⟨h.1,h.2.1,?_⟩;have :=Pn.snoc (G:=G) (w:=w) h.2.2
  rwa [gh,ai,<-jz]
theorem Pn.at:∀{o:Nat}{ps:List (Nat×Nat×Nat)}{g1 g2:List (List Keyed)}{P T:List Keyed},Pn o ps (g1++P::T::g2)->∃w w',ps[g1.length]? =some (o+g1.flatten.length,P.length,w)/\ps[g1.length+1]? =some (o+g1.flatten.length+P.length,T.length,w')
 |_,[],[],_,_,_,h=>h.elim
 |_,[_],[],_,_,_,h=>h.2.2.elim
 |o,(a,b,w)::(a',b',w')::ps,[],_,P,T,h=>by
  obtain⟨h1,h2,h3,h4,_⟩:=h;dsimp only at h1 h2 h3 h4;subst h1 h2 h3 h4;exact⟨w,w',rfl,rfl⟩
 |_,[],_::_,_,_,_,h=>h.elim
 |o,p::ps,F::g1,g2,P,T,h=>by
  obtain⟨w,w',e1,e2⟩:=Pn.at (g1:=g1) h.2.2;refine⟨w,w',?_,?_⟩
  ·rw[a7,jB,e1,gh,ai,<-jz]
  ·rw[a7,jB,e2,gh,ai,<-jz]
theorem Pn.merge:∀{o:Nat}{ps:List (Nat×Nat×Nat)}{g1 g2:List (List Keyed)}{P T C:List Keyed}{w:Nat},Pn o ps (g1++P::T::g2)->C.length=P.length+T.length->Pn o ((ps.set g1.length (o+g1.flatten.length,P.length+T.length,w)).eraseIdx (g1.length+1)) (g1++C::g2)
 |_,[],[],_,_,_,_,_,h,_=>h.elim
 |_,[_],[],_,_,_,_,_,h,_=>h.2.2.elim
 |o,p::p'::ps,[],g2,P,T,C,w,h,hc=>by
  refine⟨rfl,hc.symm,?_⟩;have :=h.2.2.2.2
  rwa [jz,<-hc]at this
 |_,[],_::_,_,_,_,_,_,h,_=>h.elim
 |o,p::ps,F::g1,g2,P,T,C,w,h,hc=>by
  refine⟨h.1,h.2.1,?_⟩;have :=Pn.merge (g1:=g1) (w:=w) h.2.2 hc
  rwa [gh,ai,<-jz]
theorem Pn.mod:∀{o:Nat}{ps:List (Nat×Nat×Nat)}{gs:List (List Keyed)}{f:Nat×Nat×Nat->Nat×Nat×Nat}(i:Nat),(∀x,(f x).1=x.1/\(f x).2.1=x.2.1)->Pn o ps gs->Pn o (ps.modify i f) gs
 |_,[],[],_,_,_,_=>by rw[List.modify_nil];trivial
 |_,[],_::_,_,_,_,h=>h.elim
 |_,_::_,[],_,_,_,h=>h.elim
 |o,p::ps,G::gs,f,0,hf,h=>⟨(hf p).1.trans h.1,(hf p).2.trans h.2.1,h.2.2⟩
 |o,p::ps,G::gs,f,i+1,hf,h=>⟨h.1,h.2.1,Pn.mod i hf h.2.2⟩
section
variable {M:Model}{A:Around}{E:Value->Shared->Prop}{s:Shared}{κ:eB}{S:Keyed->Prop}{R:Keyed->Keyed->Bool}{a₀:Array Keyed}{st:SortSt}{gs:List (List Keyed)}{rest:List Keyed}
structure Ri(κ:eB)(R:Keyed->Keyed->Bool)(a₀:Array Keyed)(st:SortSt)(gs:List (List Keyed))(rest:List Keyed):Prop where
 kd:kindOf st=κ
 fa:cB st=none
 ar:(arrOf st).toList=gs.flatten++rest
 pe:Pn 0 (bL st).toList gs
 up:∀G∈gs,Rs R G/\G≠[]
 pm:(arrOf st).Perm a₀
theorem Ri.al(r:Ri κ R a₀ st gs rest)(h:Al S a₀):Al S (arrOf st):=h.perm r.pm
theorem Ri.sz(r:Ri κ R a₀ st gs rest):gs.flatten.length+rest.length=a₀.size:=by
 rw[<-r.pm.size_eq,<-ax,r.ar,ai]
theorem Ri.psz(r:Ri κ R a₀ st gs rest):(bL st).size=gs.length:=by rw[<-r.pe.len,ax]
theorem tN(o:Od M A E s κ S R)(h0:Al S a₀){g1 g2:List (List Keyed)}{P T:List Keyed}{Q:Bool->SortSt->Prop}(r:Ri κ R a₀ st (g1++P::T::g2) rest)
  (q:∀st' C,C.length=P.length+T.length->Ri κ R a₀ st' (g1++C::g2) rest->Q true st'):wpS M A E s (mergeAt' g1.length) Q st:=by
 have al:=r.al h0;obtain⟨w,w',e1,e2⟩:=r.pe.at;rw[dm]at e1 e2;have uP:=r.up P (by simp);have uT:=r.up T (by simp);have ar:(arrOf st).toList=g1.flatten++(P++(T++(g2.flatten++rest))):=by rw[r.ar];simp
 refine vO o r.kd r.fa ar (by rw[<-gC];exact e1) (by rw[<-gC];exact e2) uP.1 uT.1 uP.2 uT.2 al.hs al.nd fun st' C k1 k2 k3 k4 k5 k6=>?_;have cl:C.length=P.length+T.length:=by rw[k4.length_eq,ai]
 refine q st' C cl ⟨k1,k2,by rw[k3];simp,?_,fun G hG=>?_,?_⟩
 ·have :=r.pe.merge (w:=w) cl
  rw[dm]at this;rw[k6,Array.toList_eraseIdxIfInBounds,tE];exact this
 ·rcases bN.mp hG with z|z
  ·exact r.up G (bN.mpr (.inl z))
  ·rcases aO.mp z with rfl|z
   ·refine⟨k5,fun e=>?_⟩
    rw[e]at cl;exact uP.2 (bO.mp (by rw[fL]at cl;omega))
   ·exact r.up G (by simp[z])
 ·refine .trans ?_ r.pm
  rw[cn,k3,ar];have :=k4.append_right (g2.flatten++rest);rw[ba P]at this;exact this.append_left _
theorem Ri.grow(r:Ri κ R a₀ st gs rest){arr':Array Keyed}(pm:arr'.Perm (arrOf st))(below:∀k,k<gs.flatten.length->at_ arr' k=at_ (arrOf st) k):Ri κ R a₀ (setArr st arr') gs (arr'.toList.drop gs.flatten.length):=by
 have e:arr'.toList.take gs.flatten.length=gs.flatten:=by
  have hl:arr'.toList.length=(arrOf st).toList.length:=by rw[ax,ax,pm.size_eq]
  have h2:gs.flatten=(arrOf st).toList.take gs.flatten.length:=by rw[r.ar,tI]
  have h3:(arrOf st).toList.length=gs.flatten.length+rest.length:=by rw[r.ar,ai]
  conv =>rhs;rw[h2]
  apply cR
  ·rw[aA,aA,hl]
  ·intro i h4 h5
   rw[aA]at h4;rw[b8,b8,dg,dg];exact below i (by omega)
 refine⟨r.kd,r.fa,?_,r.pe,r.up,pm.trans r.pm⟩;show arr'.toList=_
 conv =>lhs;rw[<-bg gs.flatten.length arr'.toList]
 rw[e]
theorem xv{arr:Array Keyed}{lo n:Nat}(u:Up R arr lo n)(h:lo+n<=arr.size):Rs R ((arr.toList.drop lo).take n):=by
 refine aX.mpr fun i j hi hj hij=>?_;rw[aA,be,ax]at hi hj;rw[b8,b8,cK,cK,dg,dg];exact u i j hij (by omega)
theorem Ri.push(r:Ri κ R a₀ st gs rest){n:Nat}(h1:1<=n)(h2:n<=rest.length)(u:Rs R (rest.take n)){ps:Array (Nat×Nat×Nat)}(hp:Pn 0 ps.toList gs):Ri κ R a₀ (setPending st (ps.push (gs.flatten.length,n,0))) (gs++[rest.take n]) (rest.drop n) where
 kd:=r.kd
 fa:=r.fa
 ar:=by
  show(arrOf st).toList=_;rw[r.ar,CU,ku,ba,bg]
 pe:=by
  show Pn 0 (ps.push _).toList _;have :=hp.snoc (G:=rest.take n) (w:=0);rw[dm,aA,kU h2]at this;rw[eM];exact this
 up:=fun G hG=>by
  rcases bN.mp hG with z|z
  ·exact r.up G z
  ·rw[bG.mp z]
   exact⟨u,fun e=>by have :=congrArg cF e;rw[aA,fL]at this;omega⟩
 pm:=r.pm
theorem uN{α:Type}:∀(l:List α),1<l.length->∃l' a b,l=l'++[a,b]
 | [],h=>by simp at h
 | [_],h=>by simp at h
 | [a,b],_=>⟨[],a,b,rfl⟩
 |a::b::c::l,_=>by
  obtain⟨l',x,y,e⟩:=uN (b::c::l) (by simp);exact⟨a::l',x,y,by rw[e];rfl⟩
theorem t5{α:Type}:∀(l:List α)(i:Nat),i+1<l.length->∃l1 a b l2,l=l1++a::b::l2/\l1.length=i
 | [],_,h=>by simp at h
 | [_],_,h=>by simp at h
 |a::b::l,0,_=>⟨[],a,b,l,rfl,rfl⟩
 |a::b::l,i+1,h=>by
  obtain⟨l1,x,y,l2,e,hl⟩:=t5 (b::l) i (by simp at h⊢;omega);exact⟨a::l1,x,y,l2,by rw[e];rfl,by rw[a7,hl]⟩
theorem yl{R:Keyed->Keyed->Bool}:∀{gs:List (List Keyed)},(∀G∈gs,Rs R G/\G≠[])->gs.length<=gs.flatten.length
 | [],_=>aW _
 |G::gs,h=>by
  have :=yl (gs:=gs) fun F hF=>h F (aJ _ hF)
  have :=mH.mpr (h G aH).2
  rw[a7,gh,ai];omega
theorem kc{gs:List (List Keyed)}{l:List Keyed}{m:Nat}(h:m<=l.length):(gs++[l.take m]).flatten.length=gs.flatten.length+m:=by
 rw[CU,ku,ai,aA,kU h]
theorem tM(o:Od M A E s κ S R)(h0:Al S a₀){Q:Unit->SortSt->Prop}(r0:Ri κ R a₀ st [] (arrOf st).toList)(q:∀st',cB st'=none->(arrOf st').Perm a₀->Rs R (arrOf st').toList->Q () st'):wpS M A E s sortRuns' Q st:=by
 have hN:(arrOf st).size=a₀.size:=r0.pm.size_eq;refine aj (jf ?_);dsimp only;rw[show(sortPriv%PySem.Builtin.SortState.a) st=arrOf st from rfl,hN];generalize(sortPriv%PySem.Builtin.minRun) a₀.size a₀.size 0=mr;refine aj (eA (cj (I:=fun x c st'=>∃gs rest,c=(none,gs.flatten.length)/\Ri κ R a₀ st' gs rest/\min x a₀.size<=gs.flatten.length) (Q:=fun c st'=>c.1=none/\∃gs,Ri κ R a₀ st' gs []) ?_ ?_ ⟨[],_,rfl,r0,aW _⟩) ?_)
 ·rintro x c st1 _ hx ⟨gs,rest,rfl,r,pr⟩
  have rz:=r.sz;dsimp only;by_cases c:gs.flatten.length≥ a₀.size
  ·rw[if_pos c]
   obtain rfl:rest=[]:=bO.mp (by omega);exact az ⟨rfl,gs,r⟩
  rw[if_neg c];have al:=r.al h0;have sz1:(arrOf st1).size=a₀.size:=r.pm.size_eq;refine aj (tQ o r.kd al (by omega) (by omega) fun n ar' n1 n2 pm bl u=>?_);have rg:=r.grow pm bl;have sz2:ar'.size=a₀.size:=by rw[pm.size_eq,sz1]
  have rl:(ar'.toList.drop gs.flatten.length).length=rest.length:=by rw[be,ax,sz2];omega
  dsimp only;by_cases cm:n<mr
  case' pos=>
   rw[if_pos cm];refine aj (nX (ee ⟨rfl,?_⟩));refine aj (pV (st:=setArr st1 ar') o rg.kd (rg.al h0) n1 (by omega) (show gs.flatten.length+min (a₀.size-gs.flatten.length) mr<=ar'.size by omega) u fun ar2 pm2 bl2 u2=>?_);rw[if_neg (by decide)];have r2:=rg.grow pm2 bl2;have sz3:ar2.size=a₀.size:=by rw[pm2.size_eq];exact sz2
   have m1:1<=min (a₀.size-gs.flatten.length) mr:=by omega
   have m2:min (a₀.size-gs.flatten.length) mr<=(ar2.toList.drop gs.flatten.length).length:=by
    have :ar2.toList.length=ar2.size:=rfl;rw[be];omega
   have u3:=xv u2 (by omega);have pr2:min (x+1) a₀.size<=gs.flatten.length+min (a₀.size-gs.flatten.length) mr:=by omega
   generalize min (a₀.size-gs.flatten.length) mr=m at m1 m2 u3 pr2;generalize ar2.toList.drop gs.flatten.length=rest2 at r2 m2 u3;generalize hst2:setArr (setArr st1 ar') ar2=st2 at r2
  case' neg=>
   rw[if_neg cm];have r2:=rg;have m1:=n1;have m2:n<=(ar'.toList.drop gs.flatten.length).length:=by omega
   have u3:=xv u (by omega);have pr2:min (x+1) a₀.size<=gs.flatten.length+n:=by omega
   generalize n=m at m1 m2 u3 pr2;generalize ar'.toList.drop gs.flatten.length=rest2 at r2 m2 u3;generalize hst2:setArr st1 ar'=st2 at r2
  all_goals
   refine aj (jf ?_);rw[show(sortPriv%PySem.Builtin.SortState.pending) st2=bL st2 from rfl];cases hb:(bL st2).back? with
   |none=>
    dsimp only;exact aj (eN (az ⟨_,_,by rw[kc m2],r2.push m1 m2 u3 r2.pe,by rw[kc m2];exact pr2⟩))
   |some v=>
    obtain⟨s1,n1,w⟩:=v;dsimp only;generalize(sortPriv%PySem.Builtin.power) a₀.size (2*s1+n1) (2*s1+n1+n1+m) a₀.size=pw;refine aj (eA (cj (I:=fun y c st'=>c=(none,())/\∃gs',Ri κ R a₀ st' gs' rest2/\gs'.flatten.length=gs.flatten.length) (Q:=fun c st'=>c=(none,())/\∃gs',Ri κ R a₀ st' gs' rest2/\gs'.flatten.length=gs.flatten.length) ?_ (fun c st' h=>h) ⟨rfl,gs,r2,rfl⟩) ?_)
    ·rintro y c st3 _ hy ⟨rfl,gs',r3,fl⟩
     have hp:=r3.psz;refine aj (jf ?_);rw[show(sortPriv%PySem.Builtin.SortState.pending) st3=bL st3 from rfl];by_cases c2:(bL st3).size>1
     ·rw[if_pos c2]
      obtain⟨g1,P,T,rfl⟩:=uN gs' (by omega);obtain⟨w,w',e1,_⟩:=r3.pe.at (g2:=[]);rw[show(bL st3).size-2=g1.length by rw[hp,ai];rfl,<-gC,e1];dsimp only;refine rH (fun _=>az ⟨rfl,_,r3,fl⟩) fun _=>aj (tN o h0 r3 fun st4 C cl r4=>?_);rw[if_neg (by decide)];exact az ⟨rfl,_,r4,by rw[<-fl];simp[cl]⟩
     ·rw[if_neg c2]
      exact az ⟨rfl,gs',r3,fl⟩
    ·rintro c st3 ⟨rfl,gs',r3,fl⟩
     dsimp only;refine aj (eN (aj (eN (az ?_))));have pp:=r3.pe.mod (f:=fun x=>(x.1,x.2.1,pw)) ((bL st3).size-1) fun x=>⟨rfl,rfl⟩;have r5:=r3.push m1 m2 u3 (ps:=(bL st3).modify ((bL st3).size-1) fun x=>(x.1,x.2.1,pw)) (by rw[Array.toList_modify];exact pp);rw[fl]at r5;exact⟨_,_,by rw[kc m2,fl],r5,by rw[kc m2,fl];exact pr2⟩
 ·rintro c st1 ⟨gs,rest,rfl,r,pr⟩
  have :=r.sz
  rw[Nat.max_eq_right (aW _),pJ]at pr;obtain rfl:rest=[]:=bO.mp (by omega);exact⟨rfl,gs,r⟩
 ·rintro⟨c,l⟩ st1 ⟨rfl,gs,r⟩
  dsimp only;have rz:=r.sz;refine aj (eA (cj (I:=fun x c st'=>c=(none,())/\∃gs,Ri κ R a₀ st' gs []/\gs.length+x<=a₀.size+1) (Q:=fun c st'=>c=(none,())/\∃gs,Ri κ R a₀ st' gs []/\gs.length<=1) ?_ ?_ ⟨rfl,gs,r,by have :=yl r.up;rw[fL]at rz;omega⟩) ?_)
  ·rintro x c st2 _ hx ⟨rfl,gs,r,pr⟩
   have hp:=r.psz;refine aj (jf ?_);rw[show(sortPriv%PySem.Builtin.SortState.pending) st2=bL st2 from rfl,hp];by_cases c:gs.length<=1
   ·rw[if_pos c]
    exact az ⟨rfl,gs,r,c⟩
   rw[if_neg c];have key:∀i,i+1<gs.length->wpS M A E s (mergeAt' i) (fun b st'=>b=true/\∃gs,Ri κ R a₀ st' gs []/\gs.length+(x+1)<=a₀.size+1) st2:=fun i hi=>by
    obtain⟨g1,P,T,g2,rfl,rfl⟩:=t5 gs i hi;refine tN o h0 r fun st3 C cl r3=>⟨rfl,_,r3,?_⟩;rw[ai,a7,a7]at pr;rw[ai,a7];omega
   refine aj (eA (?_:wpS M A E s _ (fun b st'=>b=true/\∃gs,Ri κ R a₀ st' gs []/\gs.length+(x+1)<=a₀.size+1) st2) ?_)
   ·have two:∀(c:Prop)[Decidable c],wpS M A E s (mergeAt' (if c then gs.length-2-1 else gs.length-2)) (fun b st'=>b=true/\∃gs,Ri κ R a₀ st' gs []/\gs.length+(x+1)<=a₀.size+1) st2:=fun c _=>by
     split
     ·exact key _ (by omega)
     ·exact key _ (by omega)
    exact two _
   ·rintro b st3 ⟨rfl,gs',r3,pr3⟩
    rw[if_neg (by decide)];exact az ⟨rfl,gs',r3,pr3⟩
  ·rintro c st2 ⟨rfl,gs,r,pr⟩
   exact⟨rfl,gs,r,by omega⟩
  ·rintro c st2 ⟨rfl,gs,r,gl⟩
   refine az (q st2 r.fa r.pm ?_);rw[r.ar,cM]
   match gs,gl,r.up with
   | [],_,_=>exact .nil
   | [G],_,h=>rw[ku];exact(h G aH).1
end
end SR
namespace Q
open PySem PySem.Spec PySem.W PyProof.Rows L2
theorem jG{α:Type}{r:α->α->Bool}:∀{l m:List α},(∀x∈l,∀y∈l,r x y=true->r y x=false)->l.Perm m->l.Pairwise (fun a b=>r a b=true)->m.Pairwise (fun a b=>r a b=true)->l=m
 | [],m,_,p,_,_=>(vH.mp p).symm
 |x::l,[],_,p,_,_=>nomatch List.perm_nil.mp p
 |x::l,y::m,as,p,h1,h2=>by
  obtain⟨a1,a2⟩:=iT.mp h1;obtain⟨b1,b2⟩:=iT.mp h2;have e:x=y:=by
   apply pR
   intro ne;have hy:y∈l:=(aO.mp (p.mem_iff.mpr aH)).resolve_left fun z=>ne z.symm;have hx:x∈m:=(aO.mp (p.mem_iff.mp aH)).resolve_left ne;have z:=as x aH y (aJ _ hy) (a1 y hy);rw[b1 x hx]at z;cases z
  subst e;rw[jG (fun u hu v hv=>as u (aJ _ hu) v (aJ _ hv)) ((List.perm_cons x).mp p) a2 b2]
section
variable {prog:Program}{w:World}{A:Around}{E:Value->Shared->Prop}{s:Shared}{lt:Nat->Nat->Bool}{vs:List Value}
noncomputable abbrev itm(vs:List Value)(i:Nat):Keyed:=(vs.getD i .none,vs.getD i .none)
open Classical in
noncomputable def wC(lt:Nat->Nat->Bool)(vs:List Value)(x y:Keyed):Bool:=decide (∃i j,i<vs.length/\j<vs.length/\x=itm vs i/\y=itm vs j/\i≠j/\lt i j=true)
noncomputable def inV(vs:List Value)(x:Keyed):Prop:=∃i,i<vs.length/\x=itm vs i
theorem ix(inj:∀i j,i<vs.length->j<vs.length->vs.getD i .none=vs.getD j .none->i=j){i j:Nat}(hi:i<vs.length)(hj:j<vs.length):wC lt vs (itm vs i) (itm vs j)=true↔i≠j/\lt i j=true:=by
 unfold wC;rw[@decide_eq_true_eq _ (_)];constructor
 ·rintro⟨i',j',h1,h2,e1,e2,h3⟩
  obtain rfl:=inj i i' hi h1 (eQ e1).1;obtain rfl:=inj j j' hj h2 (eQ e2).1;exact h3
 ·exact fun h=>⟨i,j,hi,hj,rfl,rfl,h⟩
theorem od_of(T:Tot lt vs.length)(inj:∀i j,i<vs.length->j<vs.length->vs.getD i .none=vs.getD j .none->i=j){κ:eB}(ask:∀i j (C:Bool->Shared->Prop),i<vs.length->j<vs.length->i≠j->C (lt i j) s->kas_ask prog w A κ vs i j C s):
  SR.Od (model prog w) A E s κ (inV vs) (wC lt vs) where
 irr:=by
  rintro x ⟨i,hi,rfl⟩;rw[eU];exact fun z=>((ix inj hi hi).mp z).1 rfl
 tri:=by
  rintro x y ⟨i,hi,rfl⟩ ⟨j,hj,rfl⟩ ne;have nij:i≠j:=fun e=>ne (by rw[e]);have t:=T.tri i j hi hj nij;have a:=ix (lt:=lt) inj hi hj;have b:=ix (lt:=lt) inj hj hi;rw[t]at a;cases e1:wC lt vs (itm vs i) (itm vs j)<;>cases e2:wC lt vs (itm vs j) (itm vs i)<;>cases e3:lt j i<;>simp_all
 tr:=by
  rintro x y z ⟨i,hi,rfl⟩ ⟨j,hj,rfl⟩ ⟨k,hk,rfl⟩ a b;rw[ix inj hi hj]at a;rw[ix inj hj hk]at b;refine(ix inj hi hk).mpr ⟨fun e=>?_,T.tr i j k hi hj hk a.2 b.2⟩;subst e;have :=T.tri i j hi hj a.1;rw[a.2,b.2]at this;cases this
 ask:=by
  rintro x y st Q' ⟨i,hi,rfl⟩ ⟨j,hj,rfl⟩ ne hk q;have nij:i≠j:=fun e=>ne (by rw[e]);have e:wC lt vs (itm vs i) (itm vs j)=lt i j:=by
   rw[fM,ix inj hi hj];exact⟨fun z=>z.2,fun z=>⟨nij,z⟩⟩
  rw[e]at q;rw[lt'_eq];refine aj (jf ?_);rw[hk];refine aj (nX (pN (dk (ask i j (fun b s'=>b=lt i j/\s'=s) hi hj nij ⟨rfl,rfl⟩) (fun b s' z=>⟨z.2,?_⟩) fun _ _ z=>z.elim)));rw[z.1];exact az q
theorem rG:(vs.toArray.zip vs.toArray).toList=(aM vs.length).map (itm vs):=by
 apply cR
 ·simp
 ·intro i h1 h2
  have hi:i<vs.length:=by simpa using h2
  simp[itm,hi]
theorem run_all(T:Tot lt vs.length)(inj:∀i j,i<vs.length->j<vs.length->vs.getD i .none=vs.getD j .none->i=j)(h2:2<=vs.length){κ:eB}(ask:∀i j (C:Bool->Shared->Prop),i<vs.length->j<vs.length->i≠j->C (lt i j) s->kas_ask prog w A κ vs i j C s):
  wpAny (model prog w) A ((sortRuns').run (eV κ (vs.toArray.zip vs.toArray) #[] 7 none)) (fun r s'=>s'=s/\(arrOf r.2).map (·.2)=(fI lt vs).toArray/\cB r.2=none) E s:=by
 obtain⟨P1,U1,_⟩:=gm T (by omega:1<=vs.length);have od:=od_of (E:=E) T inj ask;have pr:(run lt (bw vs.length)).toList.Perm (aM vs.length):=by simpa using cn.mp P1.perm
 have al:SR.Al (inV vs) (vs.toArray.zip vs.toArray):=by
  refine⟨fun x hx=>?_,?_⟩
  ·rw[rG]at hx
   obtain⟨i,hi,rfl⟩:=a8.mp hx;exact⟨i,bX.mp hi,rfl⟩
  ·rw[rG,fe,dH]
   exact jA.imp_of_mem fun{i j} hi hj h e=>h (inj i j (bX.mp hi) (bX.mp hj) (eQ e).1)
 refine SR.tM (Q:=fun _ st'=>(arrOf st').map (·.2)=(fI lt vs).toArray/\cB st'=none) od al ⟨rfl,rfl,rfl,trivial,(fun G hG=>nomatch hG),gD _⟩ fun st' f1 f2 f3=>⟨?_,f1⟩;have pz:=cn.mp f2;have e:(arrOf st').toList=(run lt (bw vs.length)).toList.map (itm vs):=by
  refine jG (r:=wC lt vs) (fun x hx y hy z=>od.asym (al.hs x (pz.mem_iff.mp hx)) (al.hs y (pz.mem_iff.mp hy)) z) (pz.trans ?_) f3 ?_
  ·rw[rG]
   exact(pr.map _).symm
  ·rw[dH]
   refine aX.mpr fun i j hi hj hij=>?_;have m:∀(k:Nat)(hk:k<(run lt (bw vs.length)).toList.length),(run lt (bw vs.length)).toList[k]<vs.length:=fun k hk=>bX.mp (pr.mem_iff.mp (bp hk));have e:∀(k:Nat)(hk:k<(run lt (bw vs.length)).toList.length),(run lt (bw vs.length)).toList[k]=at' (run lt (bw vs.length)) k:=fun k hk=>by
    have hk':k<(run lt (bw vs.length)).size:=by simpa using hk
    simp[at',hk']
   have u:=U1 i j hij (by rw[ax,P1.size]at hj;exact hj);refine(ix inj (m i hi) (m j hj)).mpr ⟨fun z=>?_,by rw[e,e];exact u⟩;have nd:(run lt (bw vs.length)).toList.Nodup:=pr.nodup_iff.mpr jA;have :=(du nd).mp z;omega
 apply Array.toList_inj.mp
 rw[Array.toList_map,e,fq];unfold fI;rw[if_neg (by omega)];rfl
theorem AG{a:Addr}{n:Nat}{h0:Heap}{P:vG->Shared->Prop}(T:Tot lt vs.length)(inj:∀i j,i<vs.length->j<vs.length->vs.getD i .none=vs.getD j .none->i=j)(ho:s.heap.get? a=some (seqObj "list" vs.toArray n))(k0:∀b o,h0.get? b=some o->s.heap.get? b=some o/\b≠a)(hz:vs.length<=sizeLine)
  (ask:2<=vs.length->Asks prog w A lt vs h0)(h:P (.done (.ret .none)) {s with heap:=sortedHeap s.heap a vs (fI lt vs).toArray}):wpAny (model prog w) A (Builtin.«list.sort» ⟨[.ref a],[]⟩) P E s:=by
 have hv:vs.toArray.size=vs.length:=by simp
 obtain⟨c,hc⟩:∃c,(s.heap.update a (bf fun _=> #[])).get? a=some (seqObj "list" #[] c):=⟨_,mC ho _⟩;have hc':(((s.heap.update a (bf fun _=> #[])).push (seqObj "tuple" vs.toArray 0)).push (seqObj "list" #[] 0)).get? a=some (seqObj "list" #[] c):=ag _ (ag _ hc);have keep:∀b o,h0.get? b=some o->(((s.heap.update a (bf fun _=> #[])).push (seqObj "tuple" vs.toArray 0)).push (seqObj "list" #[] 0)).get? b=some o:=fun b o e=>
  ag _ (ag _ ((bb _ _ (dD (k0 b o e).2)).trans (k0 b o e).1))
 rw[list_sort_plain];refine af (listItems_at ho rfl (af (fX ho rfl ?_ (by rw[hv];exact hz) (aW _))));refine af (nY hc rfl (af (wpAny_newTuple ?_ (show vs.length<=_ from hz))));refine af (pM (cZ ?_) (aW _));by_cases hn:vs.length<2
 ·have e:fI lt vs=vs:=if_pos hn
  rw[e]at h;dsimp only;rw[if_pos (by rw[hv];exact hn),if_pos (by rw[hv];exact hn)];refine af (ak (af ?_));rw[StateT.run_pure];refine ak (af (nY hc' rfl (af (fX hc' rfl ?_ (aW _) ?_))))
  ·have e2:(arrOf (eV general' (vs.toArray.zip vs.toArray) #[] 7 none)).map (·.2)=vs.toArray:=by
    show(vs.toArray.zip vs.toArray).map (·.2)=vs.toArray;apply CY;simp[List.map_snd_zip]
   rw[e2];have e3:cB ((),eV general' (vs.toArray.zip vs.toArray) #[] 7 none).snd=none:=rfl;rw[e3];simp only[bne_self_eq_false,bt,if_false];exact ak h
  ·show((vs.toArray.zip vs.toArray).map (·.2)).size<=_
   rw[Array.size_map,Array.size_zip,hv,pJ];exact dQ hz
 ·have h2:2<=vs.length:=by omega
  have e:fI lt vs=(run lt (bw vs.length)).toList.map fun i=>vs.getD i .none:=if_neg hn;rw[e]at h;dsimp only;rw[if_neg (by rw[hv];exact hn),if_neg (by rw[hv];exact hn)];obtain⟨κ,hk1,hk2⟩:=ask h2 {s with heap:=((s.heap.update a (bf fun _=> #[])).push (seqObj "tuple" vs.toArray 0)).push (seqObj "list" #[] 0)} keep;refine af (hk1 _ _ (af ?_));have key:=run_all (E:=E) T inj h2 hk2;refine dk key ?_ fun _ _ z=>z;rintro⟨⟨⟩,st'⟩ s' ⟨rfl,hout,hf⟩;rw[e]at hout;dsimp only at hout hf⊢;rw[hout,hf];have hlen:(cS ((run lt (bw vs.length)).toList.map fun i=>vs.getD i ck)).size<=sizeLine+1:=by
   rw[av,aC,ax,(gm T (by omega:1<=vs.length)).1.size];exact dQ hz
  refine af (nY hc' rfl (af (fX hc' rfl ?_ (aW _) hlen)));simp only[bne_self_eq_false,bt,if_false];exact ak h
theorem wj{l:Addr}{Q:Value->Shared->Prop}(T:Tot lt vs.length)(inj:∀i j,i<vs.length->j<vs.length->vs.getD i .none=vs.getD j .none->i=j)(hl:s.heap.IsList l vs.toArray)(hz:vs.length<=sizeLine)(ask:2<=vs.length->Asks prog w A.in1.in1 lt vs s.heap)
  (h:Q (.ref (s.heap.objs.size+1)) {s with heap:=sortedAll s.heap vs (fI lt vs).toArray}):wpAny (model prog w) A (call (.builtin "sorted") [.ref l]) Q E s:=by
 refine Calls.call_function_entry kind_sorted plain_sorted entry_sorted (args_sorted1 _) ?_;unfold Builtin.«sorted»;refine af (m:=checkCount "sorted" 1 1 _) (ak (af (collect_list hl (af (pM ?_ (show vs.length<=_ from hz))) hz)));generalize hH:(s.heap.push (seqObj "list" #[] 0)).update s.heap.objs.size (bf (·++vs.toArray))=h1;have hsz:h1.objs.size=s.heap.objs.size+1:=by rw[<-hH,pQ,size_push']
 have kp:∀b o,s.heap.get? b=some o->h1.get? b=some o:=fun b o e=>by
  have hb:=ay e;rw[<-hH,bb _ _ (iP hb)];exact ag _ e
 have hg:(h1.push (seqObj "list" vs.toArray 0)).get? (s.heap.objs.size+1)=some (seqObj "list" vs.toArray 0):=by
  rw[<-hsz];exact aK _ rfl
 have hq:sortedAll s.heap vs (fI lt vs).toArray=sortedHeap (h1.push (seqObj "list" vs.toArray 0)) (s.heap.objs.size+1) vs (fI lt vs).toArray:=by rw[<-hH];rfl
 rw[hq]at h;show wpAny _ _ _ _ _ {s with heap:=h1.push (seqObj "list" vs.toArray 0)};rw[hsz];refine af (cZ (vt slot_list_sort ⟨_,hg,rfl⟩ entry_list_sort (AG T inj hg (fun b o e=>⟨ag _ (kp b o e),a0 (dP (ay e))⟩) hz ask ⟨_,rfl,?_⟩) (args_list_sort _)));exact ak ⟨_,rfl,h⟩
end
end Q
set_option maxHeartbeats 3200000
namespace L2
open PySem PySem.Spec PyProof.Rows Q
section
variable {X:Cx}
noncomputable def sortT(ks:List Str):List V:=sortBy .non ks (ks.map V.str)
end
set_option maxHeartbeats 1000000
noncomputable def rSortA(K:aa):List V->Hp->VK->Prop:=fun xs H Q=>∃p ks,xs=[V.ref p]/\SqL K H p (ks.map V.str)/\ks.length<1000/\ks.Nodup/\∀l,H l=none->Q (.ref l) (upd H l (.lst (sortT ks)))
end L2
namespace Q
open PySem PySem.Spec PySem.W PyProof.Rows L2
noncomputable abbrev Tri:=Int×Str×Str
noncomputable def t3(x y:Tri):Bool:=decide (x.1<y.1)||(decide (x.1=y.1)&&(tlt x.2.1 y.2.1||(decide (x.2.1=y.2.1)&&tlt x.2.2 y.2.2)))
theorem k7{x y:Tri}:t3 x y=true↔x.1<y.1\/(x.1=y.1/\(tlt x.2.1 y.2.1=true\/(x.2.1=y.2.1/\tlt x.2.2 y.2.2=true))):=by
 unfold t3;rw[bC,aw,bC,aw,decide_eq_true_eq,decide_eq_true_eq,decide_eq_true_eq]
theorem oD{x y z:Tri}(a:t3 x y=true)(b:t3 y z=true):t3 x z=true:=by
 rw[k7]at *;rcases a with a|⟨a,a'⟩<;>rcases b with b|⟨b,b'⟩
 ·exact .inl (by omega)
 ·exact .inl (by omega)
 ·exact .inl (by omega)
 ·refine .inr ⟨a.trans b,?_⟩
  rcases a' with a'|⟨a',a2⟩<;>rcases b' with b'|⟨b',b2⟩
  ·exact .inl (jY a' b')
  ·exact .inl (b'▸a')
  ·exact .inl (a'.symm▸b')
  ·exact .inr ⟨a'.trans b',jY a2 b2⟩
theorem rL(x:Str):tlt x x=false:=decide_eq_false (tJ _)
theorem vX(x:Tri):t3 x x=false:=by
 rw[<-Bool.not_eq_true,k7,rL,rL];simp
theorem t3_tri{x y:Tri}(h:x≠y):t3 x y= !t3 y x:=by
 have key:t3 x y=true\/t3 y x=true:=by
  rw[k7,k7];by_cases a:x.1=y.1
  ·by_cases b:x.2.1=y.2.1
   ·have c:x.2.2≠y.2.2:=fun c=>h (Prod.ext a (Prod.ext b c))
    have t:=rK c;cases e:tlt y.2.2 x.2.2 with
    |true=>exact .inr (.inr ⟨a.symm,.inr ⟨b.symm,rfl⟩⟩)
    |false=>rw[e]at t;exact .inl (.inr ⟨a,.inr ⟨b,t⟩⟩)
   ·have t:=rK b
    cases e:tlt y.2.1 x.2.1 with
    |true=>exact .inr (.inr ⟨a.symm,.inl rfl⟩)
    |false=>rw[e]at t;exact .inl (.inr ⟨a,.inl t⟩)
  ·by_cases c:x.1<y.1
   ·exact .inl (.inl c)
   ·exact .inr (.inl (by omega))
 cases e:t3 y x with
 |false=>rcases key with k|k
         ·exact k
         ·rw[e]at k;cases k
 |true=>
  cases f:t3 x y with
  |false=>rfl
  |true=>have :=oD e f;rw[vX]at this;cases this
noncomputable def d3:Tri:=(0,"","")
noncomputable def ltT3(ps:List Tri)(i j:Nat):Bool:=t3 (ps.getD i d3) (ps.getD j d3)
theorem ne3{ps:List Tri}(nd:ps.Nodup){i j:Nat}(hi:i<ps.length)(hj:j<ps.length)(h:i≠j):ps.getD i d3≠ps.getD j d3:=fun e=>by
 rw[ah,ah,ae hi,ae hj]at e;exact h ((du nd).mp e)
theorem tot3{ps:List Tri}(nd:ps.Nodup):Tot (ltT3 ps) ps.length where
 tri:=fun i j hi hj h=>t3_tri (ne3 nd hi hj h)
 tr:=fun i j k _ _ _ a b=>oD a b
theorem ord_of{lt:Nat->Nat->Bool}{n:Nat}(T:Tot lt n):∃o:List Nat,o.Perm (aM n)/\o.Pairwise (fun i j=>lt i j=true)/\∀vs:List Value,vs.length=n->fI lt vs=o.map fun i=>vs.getD i .none:=by
 by_cases c:n<2
 ·refine⟨aM n,.refl _,?_,fun vs e=>?_⟩
  ·match n,c with
   | 0,_=>exact .nil
   | 1,_=>exact List.pairwise_singleton _ _
  ·unfold fI
   rw[if_pos (by omega)];apply cR
   ·simp[e]
   ·intro i h1 h2
    simp[h1]
 ·obtain⟨P1,U1,_⟩:=gm T (by omega:1<=n)
  refine⟨(run lt (bw n)).toList,by simpa using cn.mp P1.perm,?_,fun vs e=>?_⟩
  ·refine aX.mpr fun i j hi hj hij=>?_
   have e:∀(k:Nat)(hk:k<(run lt (bw n)).toList.length),(run lt (bw n)).toList[k]=at' (run lt (bw n)) k:=fun k hk=>by
    have hk':k<(run lt (bw n)).size:=by simpa using hk
    simp[at',hk']
   rw[e,e];exact U1 i j hij (by rw[ax,P1.size]at hj;exact hj)
  ·unfold fI
   rw[if_neg (by omega),e]
noncomputable def lC(h:Heap)(vs:List Value)(ps:List Tri):Prop:=Paired (fun v k=>∃a o n t u x,v=.ref a/\h.get? a=some o/\o.cls=.type "tuple"/\o.data=.seq #[.int k.1 t,.str k.2.1 u,.str k.2.2 x] n) vs ps
theorem n8{h:Heap}{vs:List Value}{ps:List Tri}(r:lC h vs ps){i:Nat}(hi:i<vs.length):∃a o n t u x,vs.getD i .none=.ref a/\h.get? a=some o/\o.data=.seq #[.int (ps.getD i d3).1 t,.str (ps.getD i d3).2.1 u,.str (ps.getD i d3).2.2 x] n:=by
 unfold lC at r
 induction r generalizing i with
 |nil=>exact absurd hi (fN _)
 |cons y t ih=>
  cases i with
  |zero=>
   obtain⟨a,o,n,t,u,x,e1,e2,e3,e4⟩:=y;exact⟨a,o,n,t,u,x,e1,e2,e4⟩
  |succ i=>exact ih (by simpa using hi)
theorem Ah{h h1:Heap}(kp:∀b o,h.get? b=some o->h1.get? b=some o){vs:List Value}{ps:List Tri}(r:lC h vs ps):∃fs,KatTups h1 vs fs/\fs.length=vs.length/\∀v∈fs,∃x t,v=jx x t:=by
 unfold lC at r
 induction r with
 |nil=>exact⟨[],.nil,rfl,fun v hv=>nomatch hv⟩
 |cons y t ih=>
  obtain⟨fs,a1,a2,a3⟩:=ih;obtain⟨a,o,n,t,u,x,rfl,e2,e3,e4⟩:=y;refine⟨_::fs,.cons (kp _ _ e2) e3 e4 rfl a1,by simp[a2],fun v hv=>?_⟩;rcases aO.mp hv with rfl|hv
  ·exact⟨_,_,rfl⟩
  ·exact a3 v hv
theorem zH{prog:Program}{w:World}{A:Around}{ps:List Tri}{vs:List Value}{h0:Heap}(nd:ps.Nodup)(hl:vs.length=ps.length)(r:lC h0 vs ps)(h2:2<=vs.length):Asks prog w A (ltT3 ps) vs h0:=by
 intro s1 kp;refine⟨tuples' true,fun Q' E' q=>?_,fun i j C hi hj hij q=>?_⟩
 ·obtain⟨fs,a1,a2,a3⟩:=Ah kp r
  refine kat_kind (T:=.type "int") a1 (by omega) (fun v hv=>?_) rfl q;obtain⟨x,t,rfl⟩:=a3 v hv;exact Looks.of_pure rfl
 ·obtain⟨a,o,n,t,u,tx,e1,e2,e3⟩:=n8 r hi
  obtain⟨b,o',n',t',u',tx',f1,f2,f3⟩:=n8 r hj;have hne:=ne3 nd (hl▸hi) (hl▸hj) hij;unfold kas_ask;unfold ltT3 at q;rw[e1,f1];generalize ps.getD i d3=x at *;generalize ps.getD j d3=y at *;refine kat_lt (kp _ _ e2) e3 (kp _ _ f2) f3 ?_;show KatLex _ _ _ _ _ _ [(jx x.1 t,jx y.1 t'),(dF x.2.1 u,dF y.2.1 u'),(dF x.2.2 tx,dF y.2.2 tx')] 0 _;refine kat_cons (wpAny_eqBool_int ?_);unfold t3 at q;by_cases c:x.1=y.1
  ·rw[show(x.1==y.1)=true by simpa using c]
   refine kat_yes (kat_cons (eqBool_str ?_));rw[decide_eq_false (by omega),decide_eq_true c,Bool.false_or,cy]at q;by_cases d:x.2.1=y.2.1
   ·rw[show(x.2.1==y.2.1)=true by simpa using d]
    refine kat_yes (kat_cons (eqBool_str ?_));have e:x.2.2≠y.2.2:=fun e=>hne (Prod.ext c (Prod.ext d e));rw[show(x.2.2==y.2.2)=false by simpa using e];refine kat_no (kat_one _ _ (tz ?_));rw[d,rL,decide_eq_true rfl,Bool.false_or,cy]at q;exact q
   ·rw[show(x.2.1==y.2.1)=false by simpa using d]
    refine kat_no (kat_one _ _ (tz ?_));rw[decide_eq_false d,bY,nj]at q;exact q
  ·rw[show(x.1==y.1)=false by simpa using c]
   rw[decide_eq_false c,bY,nj]at q;exact kat_no (oneLt_int q)
noncomputable def bu(H:Hp)(ys:List V)(ps:List Tri):Prop:=Paired (fun v k=>∃a,v=V.ref a/\H a=some (.tup [.int k.1,.str k.2.1,.str k.2.2])) ys ps
theorem gk{H:Hp}{ys:List V}{ps:List Tri}(h:bu H ys ps):ps.length=ys.length:=by
 unfold bu at h
 induction h with
 |nil=>rfl
 |cons _ _ ih=>simp[ih]
theorem tris_of{P:Program}{w:World}{H:Hp}{h:Heap}(ok:HOk P w H h){ys:List V}{ps:List Tri}{vs:List Value}(k:bu H ys ps):bU ys vs->lC h vs ps:=by
 unfold bu at k
 induction k generalizing vs with
 |nil=>intro z;cases z;exact .nil
 |cons y t ih=>
  intro z;cases z with
  |cons r q=>
   obtain⟨a,rfl,e⟩:=y;cases r;obtain⟨_,its,rv,o,e1,e2,n,e3⟩:=ok a _ e;cases rv with
   |cons r0 rv=>cases rv with
    |cons r1 rv=>cases rv with
     |cons r2 rv=>cases rv with
      |nil=>
       obtain⟨t0,rfl⟩:=r0;obtain⟨t1,rfl⟩:=r1;obtain⟨t2,rfl⟩:=r2;exact .cons ⟨a,o,n,t0,t1,t2,rfl,e1,e2,e3⟩ (ih q)
theorem Ai{h:Heap}{vs:List Value}{ps:List Tri}(r:lC h vs ps)(hl:vs.length=ps.length)(nd:ps.Nodup)(i j:Nat)(hi:i<vs.length)(hj:j<vs.length)(e:vs.getD i .none=vs.getD j .none):i=j:=by
 obtain⟨a,o,n,t,u,tx,e1,e2,e3⟩:=n8 r hi;obtain⟨b,o',n',t',u',tx',f1,f2,f3⟩:=n8 r hj;rw[e1,f1]at e;have ab:a=b:=by cases e;rfl
 subst ab;rw[e2]at f2;have eo:o=o':=a9 f2;subst eo;rw[e3]at f3;apply pR;intro hne;refine ne3 nd (hl▸hi) (hl▸hj) hne ?_;generalize ps.getD i d3=x at *;generalize ps.getD j d3=y at *;injection f3 with f3 _
 have f4:=congrArg xu f3;simp only[zY,jx.injEq,dF.injEq,and_true]at f4;exact Prod.ext f4.1.1 (Prod.ext f4.2.1.1 f4.2.2.1)
noncomputable def AY(K:aa):List V->Hp->VK->Prop:=fun xs H Q=>∃p ys ps,xs=[V.ref p]/\SqL K H p ys/\ps.length<=9000/\ps.Nodup/\bu H ys ps/\∀l zs qs,H l=none->bu H zs qs->qs.Perm ps->qs.Pairwise (fun a b=>t3 a b=true)->Q (.ref l) (upd H l (.lst zs))
theorem xx{H:Hp}{ys:List V}{ps:List Tri}(k:bu H ys ps){i:Nat}(hi:i<ys.length):∃a,ys.getD i .non=V.ref a/\H a=some (.tup [.int (ps.getD i d3).1,.str (ps.getD i d3).2.1,.str (ps.getD i d3).2.2]):=by
 unfold bu at k
 induction k generalizing i with
 |nil=>exact absurd hi (fN _)
 |cons y t ih=>
  cases i with
  |zero=>exact y
  |succ i=>exact ih (by simpa using hi)
theorem sN{X:Cx}:eK X (.builtin "sorted") (AY X.K):=by
 intro pins s σ H xs us Q I r h;obtain⟨p,ys,ps,rfl,hq,hsz,nd,hk,q⟩:=h;obtain⟨u,rfl,rx⟩:=vals1 r;cases rx;obtain⟨its,r',pl,hz⟩:=I.list hq;have hl:ps.length=ys.length:=gk hk;have hlen:=r'.length;have hv:its.length=ps.length:=by omega
 have tr:=tris_of I.hok hk r';obtain⟨o,o1,o2,o3⟩:=ord_of (tot3 nd);have hlt:∀i∈o,i<ps.length:=fun i hi=>bX.mp (o1.mem_iff.mp hi);refine wj (lt:=ltT3 ps) (vs:=its) (by rw[hv];exact tot3 nd) (Ai tr hv nd) pl.isList (hlen▸hz) (fun h2=>zH nd hv tr h2) ?_;rw[o3 its hv];obtain⟨c,hc⟩:=sortedAll_at s.heap its (o.map fun i=>its.getD i ck).toArray;have zl:(o.map fun i=>ys.getD i V.non).length<=sizeLine:=by
  rw[aC,o1.length_eq,eR,vB];omega
 have all:∀l:List Nat,(∀i∈l,i<ps.length)->bU (l.map fun i=>ys.getD i V.non) (l.map fun i=>its.getD i ck)/\bu H (l.map fun i=>ys.getD i V.non) (l.map fun i=>ps.getD i d3):=by
  intro l
  induction l with
  |nil=>exact fun _=>⟨.nil,.nil⟩
  |cons i l ih=>
   intro h;have hi:i<ys.length:=by have :=h i (.head _);omega
   obtain⟨u,hu,ru⟩:=r'.get (ae hi);obtain⟨i1,i2⟩:=ih fun j hj=>h j (.tail _ hj);refine⟨.cons ?_ i1,.cons (xx hk hi) i2⟩;show L2.RelV (ys.getD i V.non) (its.getD i ck);rw[ah,ae hi,ah,hu];exact ru
 obtain⟨a1,a2⟩:=all o hlt;have pm:(o.map fun i=>ps.getD i d3).Perm ps:=by
  refine(o1.map _).trans ?_;have e:(aM ps.length).map (fun i=>ps.getD i d3)=ps:=by
   apply cR
   ·simp
   ·intro i h1 h2
    simp[h2]
  rw[e]
 refine⟨.ref (s.heap.objs.size+1),_,I.laid (t':=s.toks) (fun b o e=>sortedAll_old e) (jq _) (show dN X.prog X.w _ _ _ (.lst (o.map fun i=>ys.getD i V.non))from⟨zl,_,c,a1,hc⟩),rfl,q _ _ _ (I.hok.fresh (jq _)) a2 pm ?_⟩;rw[dH];exact o2
end Q
set_option genInjectivity false
set_option genSizeOf false
namespace R
open PySem PySem.Spec PyProof.Rows L2
inductive Bf where
 |len|isinstance|all|any|list|tuple|set|min|int|sort3
 deriving DecidableEq
noncomputable def Bf.name:Bf->Str
 |.len=>"len" |.isinstance=>"isinstance" |.all=>"all" |.any=>"any" |.list=>"list" |.tuple=>"tuple" |.set=>"set" |.min=>"min" |.int=>"int" |.sort3=>"sorted"
noncomputable def Bf.val:Bf->Value
 |.len=>.builtin "len" |.isinstance=>.builtin "isinstance" |.all=>.builtin "all" |.any=>.builtin "any" |.list=>.type "list" |.tuple=>.type "tuple" |.set=>.type "set" |.min=>.builtin "min" |.int=>.type "int" |.sort3=>.builtin "sorted"
theorem Bf.boot:∀b:Bf,fK b.name=some b.val
 |.len=>PySem.boot_len|.isinstance=>boot_isinstance|.all=>boot_all|.any=>boot_any|.list=>pP|.tuple=>pI
 |.set=>by decide+kernel|.min=>by decide+kernel|.int=>qp|.sort3=>by decide+kernel
theorem Bf.plain:∀b:Bf,b.name≠"__name__"/\(b.name==("__debug__":Str))=false:=by
 intro b;cases b<;>exact⟨by decide+kernel,by decide+kernel⟩
inductive Ty where
 |int|bool|str|list|tuple|dict|valueError
 deriving DecidableEq
noncomputable def Ty.name:Ty->Str
 |.int=>"int" |.bool=>"bool" |.str=>"str" |.list=>"list" |.tuple=>"tuple" |.dict=>"dict" |.valueError=>"ValueError"
noncomputable def Ty.t:Ty->String
 |.int=>"int" |.bool=>"bool" |.str=>"str" |.list=>"list" |.tuple=>"tuple" |.dict=>"dict" |.valueError=>"ValueError"
theorem Ty.boot:∀b:Ty,fK b.name=some (.type b.t)
 |.int=>qp|.bool=>PyProof.Rows.boot_bool|.str=>PyProof.Rows.boot_str|.list=>pP|.tuple=>pI|.dict=>PyProof.Rows.boot_dict|.valueError=>by decide+kernel
theorem Ty.plain:∀b:Ty,b.name≠"__name__"/\(b.name==("__debug__":Str))=false:=by
 intro b;cases b<;>exact⟨by decide+kernel,by decide+kernel⟩
noncomputable def i9(K:aa):Operator->R2
 |.Add=>fun x y H Q=>(rI0 fun i j=>.int (i+j)) x y H Q\/(∃i j,x=.str i/\y=.str j/\i.length+j.length<=sizeLine/\Q (.str (i++j)) H)\/rCat x y H Q\/xM K x y H Q\/xN K x y H Q
 |.Sub=>rI0 fun i j=>.int (i-j)
 |.Mult=>fun x y H Q=>(rI sZ fun i j=>.int (i*j)) x y H Q
 |.Mod=>rI (fun _ j=>0<j) fun i j=>.int (i%j)
 |.FloorDiv=>rI CDiv fun i j=>.int (i/j)
 |.Pow=>rI Cw fun i j=>.int (i^j.toNat)
 |.RShift=>rI (fun _ j=>0<=j) fun i j=>.int (i/2^j.toNat)
 |.LShift=>rI Cw fun i j=>.int (i*2^j.toNat)
 |.BitAnd=>rI0 fun i j=>.int (Builtin.bitAnd i j)
 |.BitXor=>rI0 fun i j=>.int (Builtin.bitXor i j)
 |_=>fun _ _ _ _=>False
noncomputable def ej(K:aa):CmpOp->R2
 |.Eq=>rEqD K
 |.NotEq=>rNeD K
 |.Lt=>rI0 fun i j=>.bl (decide (i<j))
 |.LtE=>rI0 fun i j=>.bl (decide (i<=j))
 |.Gt=>rI0 fun i j=>.bl (decide (j<i))
 |.GtE=>rI0 fun i j=>.bl (decide (j<=i))
 |.Is=>fun x y H Q=>y=.non/\Q (.bl (decide (x=.non))) H
 |.IsNot=>fun x y H Q=>y=.non/\Q (.bl (!decide (x=.non))) H
 |.In=>fun x y H Q=>((∃i j,x=.str i/\y=.str j/\Q (.bl (!(fw j i 0 j.length 1).isEmpty)) H))\/rIn K false x y H Q
 |.NotIn=>fun x y H Q=>((∃i j,x=.str i/\y=.str j/\Q (.bl (!(!(fw j i 0 j.length 1).isEmpty))) H))\/rIn K true x y H Q
noncomputable def rUn(K:aa):UnaryOp->V->Hp->VK->Prop
 |.USub=>rU fun i=>.int (-i)
 |_=>fun _ _ _=>False
noncomputable def pZ(K:aa):V->Option Int->Option Int->Hp->VK->Prop:=fun x lo hi H Q=>rSlL K x lo hi H Q\/rSlT K x lo hi H Q\/rSlS x lo hi H Q\/rSlW K x lo hi H Q
noncomputable def rBf(K:aa):Bf->List V->Hp->VK->Prop
 |.len=>fun xs H Q=>(∃p ys,xs=[.ref p]/\(SqL K H p ys\/SqT K H p ys)/\Q (.int ys.length) H)\/(∃z:Str,xs=[.str z]/\z.length<=sizeLine/\Q (.int z.length) H)\/(∃a n,xs=[V.ref a]/\H a=some (_root_.Q.wm a n)/\Q (.int n) H)
 |.isinstance=>fun xs H Q=>(∃x T t b,xs=[x,.ty T]/\ju K H x t/\bI K t (.type T)=some b/\Q (.bl b) H)\/(∃x C t b,xs=[x,.ref C]/\ju K H x t/\bI K t (.ref C)=some b/\Q (.bl b) H)\/(∃a C y cv b,xs=[.ref a,y]/\H a=some (B0 a (.ref C))/\jP K C=true/\((∃T,y=.ty T/\cv=m8 T)\/(∃D,y=.ref D/\cv=cu D))/\bI K (.ref C) cv=some b/\Q (.bl b) H)
 |.all=>fun xs H Q=>∃(p:Addr)(bs:List Bool),xs=[.ref p]/\SqL K H p (bs.map V.bl)/\Q (.bl (bs.all id)) H
 |.any=>fun xs H Q=>∃(p:Addr)(bs:List Bool),xs=[.ref p]/\SqL K H p (bs.map V.bl)/\Q (.bl (bs.any id)) H
 |.list=>fun xs H Q=>∃p ys,xs=[.ref p]/\(SqL K H p ys\/SqT K H p ys)/\∀l,H l=none->Q (.ref l) (upd H l (.lst ys))
 |.tuple=>fun xs H Q=>∃p ys,xs=[.ref p]/\((SqL K H p ys/\∀l,H l=none->Q (.ref l) (upd H l (.tup ys)))\/(SqT K H p ys/\Q (.ref p) H))
 |.set=>Q.rSet K
 |.min=>fun xs H Q=>∃i j,xs=[.int i,.int j]/\Q (.int (if j<i then j else i)) H
 |.int=>fun xs H Q=>(∃i,xs=[.int i]/\Q (.int i) H)\/∃k,xs=[.bl k]/\Q (.int (if k then 1 else 0)) H
 |.sort3=>Q.AY K
inductive Mm where
 |append|clear|reverse|pop|index|extend
 deriving DecidableEq
noncomputable def Mm.name:Mm->Str
 |.append=>"append" |.clear=>"clear" |.reverse=>"reverse" |.pop=>"pop" |.index=>"index" |.extend=>"extend"
noncomputable def Mm.id:Mm->String
 |.append=>"list.append" |.clear=>"list.clear" |.reverse=>"list.reverse" |.pop=>"list.pop" |.index=>"list.index" |.extend=>"list.extend"
noncomputable def rMm:Mm->V->List V->Hp->VK->Prop
 |.append=>xP
 |.clear=>fun _ _ _ _=>False
 |.reverse=>fun _ _ _ _=>False
 |.pop=>fun _ _ _ _=>False
 |.index=>fun _ _ _ _=>False
 |.extend=>xK
noncomputable def baseOk:Expr->Bool
 |.Name .. =>true|.Subscript .. =>true
 |.Call f _ _ _=>match f with
  |.Attribute .. =>true
  |_=>false
 |_=>false
mutual
inductive CE where
 |var (i:Nat)
 |con (c:Const)
 |glo (x:Str)
 |ty (t:Ty)
 |bin (op:Operator) (a b:CE)
 |un (op:UnaryOp) (a:CE)
 |cmp (op:CmpOp) (a b:CE)
 |chain (op op':CmpOp) (a b c:CE)
 |not (a:CE)
 |and (a b:CE)
 |or (a b:CE)
 |ite (c a b:CE)
 |idx (a i:CE)
 |cut (a:CE) (lo hi:CO)
 |tup (es:CL)
 |lst (es:CL)
 |call (f:Str) (es:CL)
 |bfn (b:Bf) (es:CL)
 |meth1 (m:Mm) (o a:CE)
 |divb (a b:CE)
 |comp (own:List Str) (fr:List Nat) (tg:CG) (it:CI) (cond:CO) (elt:CE)
inductive CL where
 |nil
 |cons (e:CE) (es:CL)
inductive CP where
 |nil
 |cons (k v:CE) (r:CP)
inductive CO where
 |no
 |yes (e:CE)
inductive CG where
 |name (i:Nat)
 |tup (gs:CGs)
inductive CGs where
 |nil
 |cons (g:CG) (gs:CGs)
inductive CI where
 |seq (e:CE)
 |lseq (e:CE)
 |range1 (e:CE)
 |range2 (a b:CE)
end
noncomputable def CL.len:CL->Nat
 |.nil=>0
 |.cons _ r=>r.len+1
noncomputable def CGs.len:CGs->Nat
 |.nil=>0
 |.cons _ r=>r.len+1
mutual
inductive CS where
 |asg (g:CG) (e:CE)
 |asgc (i:Nat) (e:CE)
 |expr (e:CE)
 |iff (c:CE) (a b:CB)
 |forr (g:CG) (it:CI) (b:CB)
 |ret (e:CE)
 |retN
 |pass|brk|cont
 |rais (x:Str) (es:CL)
 |tryc (x:Str) (i:Nat) (b su:CB)
inductive CB where
 |nil
 |hole
 |cons (s:CS) (r:CB)
end
noncomputable def uQ(sc:Scope)(x:Str):Bool:=sc.names.lookup x==some .local||sc.names.lookup x==some .cell||sc.names.lookup x==some .free
noncomputable def kC(sc:Scope)(x:Str):Bool:=sc.names.lookup x==some .globalImplicit
noncomputable def oV(x:Str):Bool:=(x==("__debug__":Str))==false&&(x==("__classdict__":Str))==false
noncomputable def okCon:Const->Bool
 |.none=>true|.bool _=>true|.int _=>true|.str _=>true|_=>false
noncomputable def cv:Const->V
 |.none=>.non|.bool b=>.bl b|.int i=>.int i|.str x=>.str x|_=>.non
noncomputable def namesOf(N own:List Str)(fr:List Nat):List Str:=own++fr.map fun j=>N.getD j ""
noncomputable def jZ(own:List Str)(fr:List Nat)(σ:L2.St):L2.St:=own.map (fun _=>none)++fr.map fun j=>(σ[j]?).getD none
noncomputable def sH:Expr->Bool
 |.Slice .. =>true
 |_=>false
noncomputable def isSet:Expr->Bool
 |.Set .. =>true
 |_=>false
noncomputable def o7:Expr->Bool
 |.ListComp .. =>true|.SetComp .. =>true|.DictComp .. =>true
 |_=>false
noncomputable def o5:Expr->Bool
 |.Tuple .. =>true
 |_=>false
noncomputable def sA(sc sc':Scope)(N own:List Str)(fr:List Nat):Bool:=
 decide (sc'.kind=.function)&&sc'.names.all (fun y=>decide (y.2=.cell->sc'.names.lookup y.1=some .cell))&&sc'.names.all (fun y=>decide (y.2=.local->sc'.names.lookup y.1=some .local))&&
 sc'.names.all (fun y=>decide (y.2=.free->sc.names.lookup y.1=some .cell\/sc.names.lookup y.1=some .free))&&decide ((namesOf N own fr).Nodup)&&
 fr.all (fun j=>decide (j<N.length)&&sc'.names.lookup (N.getD j "")==some .free)&&own.all (fun x=>sc'.names.lookup x==some .local||sc'.names.lookup x==some .cell)
theorem cA{P:Prop}(h:false=true):P:=(au h).elim
theorem an{a b:Bool}(h:(a&&b)=true):a=true/\b=true:=by rwa [aw]at h
theorem mP{a:Bool}(h:(!a)=true):a=false:=by simpa using h
theorem fP{a b c:Bool}(h:(a&&b&&c)=true):a=true/\b=true/\c=true:=let⟨h,z⟩:=an h;let⟨x,y⟩:=an h;⟨x,y,z⟩
theorem kD{a b c d:Bool}(h:(a&&b&&c&&d)=true):a=true/\b=true/\c=true/\d=true:=let⟨h,z⟩:=an h;let⟨x,y,w⟩:=fP h;⟨x,y,w,z⟩
theorem and5{a b c d e:Bool}(h:(a&&b&&c&&d&&e)=true):a=true/\b=true/\c=true/\d=true/\e=true:=let⟨h,z⟩:=an h;let⟨x,y,w,v⟩:=kD h;⟨x,y,w,v,z⟩
section
variable {e:Expr}{s:Stmt}
noncomputable def l1{α:Type}(l:List α)(f:α->Bool):Bool:=match l with
 |a::r=>r.isEmpty&&f a
 | []=>false
theorem jO{α:Type}{l:List α}{f:α->Bool}(h:l1 l f=true):∃a,l=[a]/\f a=true:=by
 cases l with
 |nil=>exact cA h
 |cons a r=>
  obtain⟨h1,h⟩:=an h;cases r with
  |nil=>exact⟨a,rfl,h⟩
  |cons=>exact cA h1
noncomputable def l2{α:Type}(l:List α)(f:α->α->Bool):Bool:=match l with
 |a::r=>l1 r (f a)
 | []=>false
theorem uO{α:Type}{l:List α}{f:α->α->Bool}(h:l2 l f=true):∃a b,l=[a,b]/\f a b=true:=by
 cases l with
 |nil=>exact cA h
 |cons a r=>
  obtain⟨b,rfl,h⟩:=jO h;exact⟨a,b,rfl,h⟩
noncomputable def dNm(e:Expr)(f:Str->Pos->Bool):Bool:=match e with
 |.Name x p=>f x p
 |_=>false
theorem fW{f}(h:dNm e f=true):∃x p,e=.Name x p/\f x p=true:=by cases e<;>first |exact⟨_,_,rfl,h⟩ |exact cA h
noncomputable def dCn(e:Expr)(f:Const->Bool):Bool:=match e with
 |.Constant c _ _=>f c
 |_=>false
theorem wZ{f}(h:dCn e f=true):∃c j p,e=.Constant c j p/\f c=true:=by cases e<;>first |exact⟨_,_,_,rfl,h⟩ |exact cA h
noncomputable def dBi(e:Expr)(f:Expr->Operator->Expr->Bool):Bool:=match e with
 |.BinOp a op b _=>f a op b
 |_=>false
theorem w6{f}(h:dBi e f=true):∃a op b p,e=.BinOp a op b p/\f a op b=true:=by cases e<;>first |exact⟨_,_,_,_,rfl,h⟩ |exact cA h
noncomputable def dUn(e:Expr)(f:UnaryOp->Expr->Bool):Bool:=match e with
 |.UnaryOp op a _=>f op a
 |_=>false
theorem wU{f}(h:dUn e f=true):∃op a p,e=.UnaryOp op a p/\f op a=true:=by cases e<;>first |exact⟨_,_,_,rfl,h⟩ |exact cA h
noncomputable def dCm(e:Expr)(f:Expr->List CmpOp->List Expr->Bool):Bool:=match e with
 |.Compare a os es _=>f a os es
 |_=>false
theorem w4{f}(h:dCm e f=true):∃a os es p,e=.Compare a os es p/\f a os es=true:=by cases e<;>first |exact⟨_,_,_,_,rfl,h⟩ |exact cA h
noncomputable def dC1(e:Expr)(f:Expr->CmpOp->Expr->Bool):Bool:=dCm e fun a os es=>l1 os fun op=>l1 es fun b=> !isSet b&&f a op b
theorem Ca{f}(h:dC1 e f=true):∃a op b p,e=.Compare a [op] [b] p/\isSet b=false/\f a op b=true:=by
 obtain⟨a,os,es,p,rfl,k⟩:=w4 h;obtain⟨op,rfl,l⟩:=jO k;obtain⟨b,rfl,m⟩:=jO l;obtain⟨h1,n⟩:=an m;exact⟨a,op,b,p,rfl,mP h1,n⟩
noncomputable def dBo(e:Expr)(f:BoolOp->Expr->Expr->Bool):Bool:=match e with
 |.BoolOp op es p=>match es with
  |a::r=>match r with
   |b::r=>match r with
    | []=>f op a b
    |c::r=>f op a (.BoolOp op (b::c::r) p)
   | []=>false
  | []=>false
 |_=>false
theorem mX{f}(h:dBo e f=true):∃op a x p,f op a x=true/\(e=.BoolOp op [a,x] p\/∃b c r,x=.BoolOp op (b::c::r) p/\e=.BoolOp op (a::b::c::r) p):=by
 cases e<;>first |exact cA h|skip
 rename_i op es p;cases es with
 |nil=>exact cA h
 |cons a r=>cases r with
  |nil=>exact cA h
  |cons b r=>cases r with
   |nil=>exact⟨op,a,b,p,h,.inl rfl⟩
   |cons c r=>exact⟨op,a,_,p,h,.inr ⟨b,c,r,rfl,rfl⟩⟩
noncomputable def dIf(e:Expr)(f:Expr->Expr->Expr->Bool):Bool:=match e with
 |.IfExp c a b _=>f c a b
 |_=>false
theorem dIf_of{f}(h:dIf e f=true):∃c a b p,e=.IfExp c a b p/\f c a b=true:=by cases e<;>first |exact⟨_,_,_,_,rfl,h⟩ |exact cA h
noncomputable def dSu(e:Expr)(f:Expr->Expr->Bool):Bool:=match e with
 |.Subscript a i _=>f a i
 |_=>false
theorem wW{f}(h:dSu e f=true):∃a i p,e=.Subscript a i p/\f a i=true:=by cases e<;>first |exact⟨_,_,_,rfl,h⟩ |exact cA h
noncomputable def dSl(e:Expr)(f:Option Expr->Option Expr->Option Expr->Bool):Bool:=match e with
 |.Slice a b c _=>f a b c
 |_=>false
theorem dSl_of{f}(h:dSl e f=true):∃a b c p,e=.Slice a b c p/\f a b c=true:=by cases e<;>first |exact⟨_,_,_,_,rfl,h⟩ |exact cA h
noncomputable def dTu(e:Expr)(f:List Expr->Bool):Bool:=match e with
 |.Tuple es _ _=>f es
 |_=>false
theorem wV{f}(h:dTu e f=true):∃es k p,e=.Tuple es k p/\f es=true:=by cases e<;>first |exact⟨_,_,_,rfl,h⟩ |exact cA h
noncomputable def dLi(e:Expr)(f:List Expr->Bool):Bool:=match e with
 |.List es _=>f es
 |_=>false
theorem B7{f}(h:dLi e f=true):∃es p,e=.List es p/\f es=true:=by cases e<;>first |exact⟨_,_,rfl,h⟩ |exact cA h
noncomputable def dDi(e:Expr)(f:List (Option Expr)->List Expr->Bool):Bool:=match e with
 |.Dict ks vs _=>f ks vs
 |_=>false
noncomputable def dCa(e:Expr)(f:Expr->List Expr->Pos->Bool):Bool:=match e with
 |.Call g es ks p=>ks.isEmpty&&f g es p
 |_=>false
theorem B9{f}(h:dCa e f=true):∃g es p,e=.Call g es [] p/\f g es p=true:=by
 cases e<;>first |exact cA h|skip
 rename_i g es ks p;obtain⟨h1,h⟩:=an h;cases ks with
 |nil=>exact⟨g,es,p,rfl,h⟩
 |cons=>exact cA h1
noncomputable def dFn(e:Expr)(f:Str->List Expr->Bool):Bool:=dCa e fun g es _=>dNm g fun x _=>f x es
theorem jS{f}(h:dFn e f=true):∃x np es p,e=.Call (.Name x np) es [] p/\f x es=true:=by
 obtain⟨g,es,p,rfl,k⟩:=B9 h;obtain⟨x,np,rfl,l⟩:=fW k;exact⟨x,np,es,p,rfl,l⟩
noncomputable def dAt(e:Expr)(f:Expr->Str->Pos->Bool):Bool:=match e with
 |.Attribute a x p=>f a x p
 |_=>false
theorem dAt_of{f}(h:dAt e f=true):∃a x p,e=.Attribute a x p/\f a x p=true:=by cases e<;>first |exact⟨_,_,_,rfl,h⟩ |exact cA h
noncomputable def dMt(m:Str)(e:Expr)(f:Expr->List Expr->Bool):Bool:=dCa e fun g es cp=>dAt g fun o m' ap=>decide (m=m')&&(ap.endLine==cp.line)&&f o es
theorem B6{m:Str}{f}(h:dMt m e f=true):∃o ap es cp,e=.Call (.Attribute o m ap) es [] cp/\(ap.endLine==cp.line)=true/\f o es=true:=by
 obtain⟨g,es,cp,rfl,k⟩:=B9 h;obtain⟨o,m',ap,rfl,l⟩:=dAt_of k;obtain⟨h1,h2,n⟩:=fP l;cases of_decide_eq_true h1;exact⟨o,ap,es,cp,rfl,h2,n⟩
noncomputable def dLc(e:Expr)(f:Expr->List Comprehension->Scope->Pos->Bool):Bool:=match e with
 |.ListComp a gs sc p=>f a gs sc p
 |_=>false
theorem wY{f}(h:dLc e f=true):∃a gs sc p,e=.ListComp a gs sc p/\f a gs sc p=true:=by cases e<;>first |exact⟨_,_,_,_,rfl,h⟩ |exact cA h
noncomputable def dJs(e:Expr)(f:List Expr->Bool):Bool:=match e with
 |.JoinedStr es _=>f es
 |_=>false
noncomputable def dFv(e:Expr)(f:Expr->Int->Option Expr->Bool):Bool:=match e with
 |.FormattedValue a c s _=>f a c s
 |_=>false
noncomputable def dAs(s:Stmt)(f:Expr->Expr->Pos->Bool):Bool:=match s with
 |.Assign ts e p=>l1 ts fun g=>f g e p
 |_=>false
theorem xi{f}(h:dAs s f=true):∃g e p,s=.Assign [g] e p/\f g e p=true:=by
 cases s<;>first |exact cA h|skip
 obtain⟨g,rfl,h⟩:=jO h;exact⟨g,_,_,rfl,h⟩
noncomputable def dEx(s:Stmt)(f:Expr->Bool):Bool:=match s with
 |.Expr e _=>f e
 |_=>false
theorem B8{f}(h:dEx s f=true):∃e p,s=.Expr e p/\f e=true:=by cases s<;>first |exact⟨_,_,rfl,h⟩ |exact cA h
noncomputable def dIs(s:Stmt)(f:Expr->List Stmt->List Stmt->Bool):Bool:=match s with
 |.If c a b _=>f c a b
 |_=>false
theorem dIs_of{f}(h:dIs s f=true):∃c a b p,s=.If c a b p/\f c a b=true:=by cases s<;>first |exact⟨_,_,_,_,rfl,h⟩ |exact cA h
noncomputable def dWh(s:Stmt)(f:Expr->List Stmt->Bool):Bool:=match s with
 |.While c a b _=>b.isEmpty&&f c a
 |_=>false
theorem dWh_of{f}(h:dWh s f=true):∃c a p,s=.While c a [] p/\f c a=true:=by
 cases s<;>first |exact cA h|skip
 rename_i c a b p;obtain⟨h1,h⟩:=an h;cases b with
 |nil=>exact⟨c,a,p,rfl,h⟩
 |cons=>exact cA h1
noncomputable def dFo(s:Stmt)(f:Expr->Expr->List Stmt->Bool):Bool:=match s with
 |.For g i a b _=>b.isEmpty&&f g i a
 |_=>false
theorem dFo_of{f}(h:dFo s f=true):∃g i a p,s=.For g i a [] p/\f g i a=true:=by
 cases s<;>first |exact cA h|skip
 rename_i g i a b p;obtain⟨h1,h⟩:=an h;cases b with
 |nil=>exact⟨g,i,a,p,rfl,h⟩
 |cons=>exact cA h1
noncomputable def dRt(s:Stmt)(f:Option Expr->Bool):Bool:=match s with
 |.Return e _=>f e
 |_=>false
theorem wX{f}(h:dRt s f=true):∃e p,s=.Return e p/\f e=true:=by cases s<;>first |exact⟨_,_,rfl,h⟩ |exact cA h
noncomputable def dRa(s:Stmt)(f:Str->List Expr->Bool):Bool:=match s with
 |.Raise e c _=>match e with
  |some e=>c.isNone&&dFn e f
  |none=>false
 |_=>false
theorem dRa_of{f}(h:dRa s f=true):∃x np es cp p,s=.Raise (some (.Call (.Name x np) es [] cp)) none p/\f x es=true:=by
 cases s<;>first |exact cA h|skip
 rename_i e c p;cases e with
 |none=>exact cA h
 |some e=>
  obtain⟨h1,k⟩:=an h;obtain⟨x,np,es,cp,rfl,l⟩:=jS k;cases c with
  |none=>exact⟨x,np,es,cp,p,rfl,l⟩
  |some=>exact cA h1
noncomputable def dTr(s:Stmt)(f:List Stmt->Str->Str->List Stmt->Bool):Bool:=match s with
 |.Try b hs o r _=>o.isEmpty&&r.isEmpty&&l1 hs fun h=>match h with
  |.ExceptHandler t n ss _=>match t with
   |some t=>match n with
    |some n=>dNm t fun x _=>f b x n ss
    |none=>false
   |none=>false
 |_=>false
theorem dTr_of{f}(h:dTr s f=true):∃b x np n ss hp p,s=.Try b [.ExceptHandler (some (.Name x np)) (some n) ss hp] [] [] p/\f b x n ss=true:=by
 cases s<;>first |exact cA h|skip
 rename_i b hs o r p;obtain⟨h1,h2,k⟩:=fP h;obtain⟨⟨t,n,ss,hp⟩,rfl,l⟩:=jO k;cases o with
 |cons=>exact cA h1
 |nil=>cases r with
  |cons=>exact cA h2
  |nil=>cases t with
   |none=>exact cA l
   |some t=>cases n with
    |none=>exact cA l
    |some n=>
     obtain⟨x,np,rfl,m⟩:=fW l;exact⟨b,x,np,n,ss,hp,p,rfl,m⟩
end
noncomputable def u1{α:Type}(l:List α)(f:α->List α->Bool):Bool:=match l with
 |a::r=>f a r
 | []=>false
theorem qv{α:Type}{l:List α}{f:α->List α->Bool}(h:u1 l f=true):∃a r,l=a::r/\f a r=true:=by
 cases l with
 |nil=>exact cA h
 |cons a r=>exact⟨a,r,rfl,h⟩
noncomputable def om{α:Type}(o:Option α)(f:α->Bool):Bool:=match o with
 |some x=>f x
 |none=>false
theorem xW{α:Type}{o:Option α}{f:α->Bool}(h:om o f=true):∃x,o=some x/\f x=true:=by
 cases o with
 |none=>exact cA h
 |some x=>exact⟨x,rfl,h⟩
theorem nil_of{α:Type}{l:List α}(h:l.isEmpty=true):l=[]:=List.isEmpty_iff.mp h
noncomputable def dFF(f g:Str)(sc:Scope)(e:Expr)(k:Expr->Bool):Bool:=dFn e fun f' es=>l1 es fun x=>dFn x fun g' es=>l1 es fun a=>decide (f'=f)&&decide (g'=g)&&kC sc f&&kC sc g&&k a
noncomputable def isM1(e:Expr):Bool:=dUn e fun op c=>decide (op=.USub)&&dCn c fun k=>decide (k=.int 1)
noncomputable def mBase(e:Expr):Bool:=(dNm e fun _ _=>true)||(dFn e fun _ es=> !es.isEmpty)
mutual
noncomputable def di(sc:Scope)(N:List Str):CE->Expr->Bool
 |.var i,e=>dNm e fun x _=>N[i]? ==some x&&uQ sc x&&oV x
 |.con c,e=>dCn e fun c'=>okCon c&&decide (c=c')
 |.glo x,e=>dNm e fun y _=>decide (x=y)&&kC sc x&&oV x
 |.ty t,e=>dNm e fun y _=>decide (t.name=y)&&kC sc y
 |.bin op a b,e=>dBi e fun a' op' b'=>decide (op=op')&&di sc N a a'&&di sc N b b'
 |.un op a,e=>dUn e fun op' a'=>decide (op=op')&&di sc N a a'
 |.cmp op a b,e=>dC1 e fun a' op' b'=>decide (op=op')&&di sc N a a'&&di sc N b b'
 |.chain o1 o2 a b c,e=>dCm e fun a' os es=>l2 os fun p q=>l2 es fun b' c'=>decide (o1=p)&&decide (o2=q)&& !isSet c'&&(di sc N a a'&&di sc N b b'&&di sc N c c')
 |.not a,e=>dUn e fun op a'=>decide (op=.Not)&&di sc N a a'
 |.and a b,e=>dBo e fun op a' x=>decide (op=.And)&&di sc N a a'&&di sc N b x
 |.or a b,e=>dBo e fun op a' x=>decide (op=.Or)&&di sc N a a'&&di sc N b x
 |.ite c a b,e=>dIf e fun c' a' b'=>di sc N c c'&&di sc N a a'&&di sc N b b'
 |.idx a i,e=>dSu e fun a' i'=> !sH i'&&di sc N a a'&&di sc N i i'
 |.cut a lo hi,e=>dSu e fun a' s=>dSl s fun l u t=>t.isNone&&di sc N a a'&&(chkO sc N lo l&&chkO sc N hi u)
 |.tup es,e=>dTu e fun es'=>lA sc N es es'
 |.lst es,e=>dLi e fun es'=>lA sc N es es'
 |.call f es,e=>dFn e fun f' es'=>decide (f=f')&&kC sc f&&oV f&&lA sc N es es'
 |.bfn b es,e=>dFn e fun f' es'=>decide (b.name=f')&&kC sc f'&& !es'.isEmpty&&lA sc N es es'
 |.meth1 m o a,e=>dMt m.name e fun o' es=>l1 es fun a'=>baseOk o'&&di sc N o o'&&di sc N a a'
 |.divb a b,e=>dBi e fun a' op' b'=>decide (op'=.FloorDiv)&&di sc N a a'&&di sc N b b'
 |.comp own fr tg it cond elt,e=>dLc e fun elt' gs sc' _=>l1 gs fun g=>decide (g.is_async=0)&&sA sc sc' N own fr&& !isSet g.iter&&(chkI sc N it g.iter g.target&&qg sc' (namesOf N own fr) false tg g.target&&chkC sc' (namesOf N own fr) cond g.ifs&&di sc' (namesOf N own fr) elt elt')
noncomputable def lA(sc:Scope)(N:List Str):CL->List Expr->Bool
 |.nil,es=>es.isEmpty
 |.cons e r,es=>u1 es fun e' r'=>di sc N e e'&&lA sc N r r'
noncomputable def chkP(sc:Scope)(N:List Str):CP->List (Option Expr)->List Expr->Bool
 |.nil,ks,vs=>ks.isEmpty&&vs.isEmpty
 |.cons k v r,ks,vs=>u1 ks fun k' ks'=>u1 vs fun v' vs'=>om k' fun k'=>di sc N k k'&&di sc N v v'&&chkP sc N r ks' vs'
noncomputable def chkO(sc:Scope)(N:List Str):CO->Option Expr->Bool
 |.no,o=>o.isNone
 |.yes e,o=>om o (di sc N e)
noncomputable def chkC(sc:Scope)(N:List Str):CO->List Expr->Bool
 |.no,o=>o.isEmpty
 |.yes e,o=>l1 o (di sc N e)
noncomputable def qg(sc:Scope)(N:List Str)(all:Bool):CG->Expr->Bool
 |.name i,e=>dNm e fun x _=>N[i]? ==some x&&(sc.names.lookup x==some .local||sc.names.lookup x==some .cell)
 |.tup gs,e=>dTu e fun es=>pB sc N all gs es
noncomputable def pB(sc:Scope)(N:List Str)(all:Bool):CGs->List Expr->Bool
 |.nil,es=>es.isEmpty
 |.cons g gs,es=>u1 es fun e' es'=>qg sc N all g e'&&pB sc N all gs es'
noncomputable def chkI(sc:Scope)(N:List Str):CI->Expr->Expr->Bool
 |.seq e,e',_=>di sc N e e'
 |.lseq e,e',_=>di sc N e e'
 |.range1 e,x,_=>dFn x fun f es=>l1 es fun e'=>decide (f="range")&&kC sc f&&di sc N e e'
 |.range2 a b,x,_=>dFn x fun f es=>l2 es fun a' b'=>decide (f="range")&&kC sc f&&di sc N a a'&&di sc N b b'
end
mutual
noncomputable def lX:CE->Bool
 |.var _=>true
 |.con _=>true
 |.glo _=>true
 |.ty _=>true
 |.lst es=>uI es
 |.tup es=>uI es
 |.bfn .isinstance es=>uI es
 |.bin _ a b=>lX a&&lX b
 |.meth1 _ a b=>lX a&&lX b
 |_=>false
noncomputable def uI:CL->Bool
 |.nil=>true
 |.cons e es=>lX e&&uI es
end
mutual
noncomputable def liteS:CS->Bool
 |.asg (.name _) e=>lX e
 |.ret e=>lX e
 |.pass=>true
 |.expr e=>lX e
 |_=>false
noncomputable def BH:CB->Bool
 |.nil=>true
 |.hole=>false
 |.cons s r=>liteS s&&BH r
end
noncomputable def isCe:CE->Bool
 |.comp .. =>true
 |_=>false
mutual
noncomputable def chkS(sc:Scope)(N:List Str):CS->Stmt->Bool
 |.asg g e,s=>dAs s fun g' e' _=>qg sc N true g g'&&di sc N e e'&& !o7 e'&& !(o5 g'&&o5 e')
 |.asgc i e,s=>isCe e&&dAs s fun g e' _=>dNm g fun x p=>dLc e' fun a b c d=>N[i]? ==some x&&(sc.names.lookup x==some .local||sc.names.lookup x==some .cell)&&di sc N e (.ListComp a b c d)&&
   (sc.names.lookup x==some .cell||(decide (p.line=d.line)&& !(c.names.any fun y=>decide (y.1=x)&&(decide (y.2=.local)||decide (y.2=.cell)))))
 |.expr e,s=>dEx s fun e'=>di sc N e e'&& !o7 e'
 |.iff c a b,s=>dIs s fun c' a' b'=>di sc N c c'&&m5 sc N a a'&&m5 sc N b b'
 |.forr g it b,s=>dFo s fun g' it' b'=>qg sc N true g g'&&chkI sc N it it' g'&& !isSet it'&&m5 sc N b b'
 |.ret e,s=>dRt s fun o=>om o (di sc N e)
 |.retN,s=>dRt s fun o=>o.isNone
 |.rais x es,s=>dRa s fun x' es'=>decide (x=x')&&kC sc x&&oV x&&(!es'.isEmpty&&lA sc N es es')
 |.tryc x i b su,s=>dTr s fun b' x' n ss=>decide (x=x')&&kC sc x&&oV x&&(N[i]? ==some n&&sc.names.lookup n==some .local&&BH su)&&(!ss.isEmpty&&m5 sc N su ss&&m5 sc N b b')
 |.pass,s=>match s with
  |.Pass _=>true
  |_=>false
 |.brk,s=>match s with
  |.Break _=>true
  |_=>false
 |.cont,s=>match s with
  |.Continue _=>true
  |_=>false
noncomputable def m5(sc:Scope)(N:List Str):CB->List Stmt->Bool
 |.hole,_=>true
 |.nil,ss=>ss.isEmpty
 |.cons s r,ss=>u1 ss fun s' r'=>chkS sc N s s'&&m5 sc N r r'
end
structure Gam where
 val:Str->Option V
 fn:Str->Nat->Option (Sp×List V)
 ini:Str->Nat->Option (Addr×Sp×List V)
 dic:Addr->Option (List (Key×V))
 mak:Str->Nat->Option (Addr×Sp×List V)
 mth:Str->Nat->Option (Addr×Sp×List V)
noncomputable def wN(K:aa)(tl:TE):TI:=fun σ H R=>tl σ H fun x H1=>(∃a,x=.ref a/\(∃xs,SqL K H1 a xs)/\R (Itl K a) H1)\/(∃a,x=.ref a/\(∃xs,SqT K H1 a xs)/\R (Itt K a) H1)\/(∃z,x=.str z/\R (Its z) H1)
noncomputable def tU(K:aa)(t:TE):TT:=fun σ H Q=>t σ H fun x H1=>∃k,TruV K x H1 k/\Q k H1
mutual
noncomputable def wpE(G:Gam)(K:aa)(E:XS):CE->TE
 |.var i=>rM i
 |.con c=>tC (cv c)
 |.glo x=>fun σ H Q=>∃v,G.val x=some v/\Q v H
 |.ty t=>tC (.ty t.t)
 |.bin op a b=>tOp (i9 K op) (wpE G K E a) (wpE G K E b)
 |.un op a=>tUn (rUn K op) (wpE G K E a)
 |.cmp op a b=>tOp (ej K op) (wpE G K E a) (wpE G K E b)
 |.chain o1 o2 a b c=>oB (ej K o1) (ej K o2) (wpE G K E a) (wpE G K E b) (wpE G K E c)
 |.not a=>Ap (wpE G K E a)
 |.and a b=>As (wpE G K E a) (wpE G K E b)
 |.or a b=>tOrV (wpE G K E a) (wpE G K E b)
 |.ite c a b=>tIf (wpT G K E c) (wpE G K E a) (wpE G K E b)
 |.idx a i=>tOp (rIx K) (wpE G K E a) (wpE G K E i)
 |.cut a lo hi=>tSl (pZ K) (wpE G K E a) (wpO G K E lo) (wpO G K E hi)
 |.tup es=>tTup (wpL G K E es)
 |.lst es=>tLst (wpL G K E es)
 |.call f es=>fun σ H Q=>∃sp dvs,G.fn f es.len=some (sp,dvs)/\tY sp dvs (E σ) (wpL G K E es) σ H Q
 |.bfn b es=>tCB (rBf K b) (wpL G K E es)
 |.meth1 m o a=>tBM K "list" (rMm m) (wpE G K E o) (nr (wpE G K E a) tW)
 |.divb a b=>tOp rDivB (wpE G K E a) (wpE G K E b)
 |.comp own fr tg it cond elt=>qz (wpI G K E it) (wpG G K N0 tg) (wpC G K N0 cond) (wpE G K N0 elt) (jZ own fr)
noncomputable def wpT(G:Gam)(K:aa)(E:XS):CE->TT
 |.cmp op a b=>tV (tOp (ej K op) (wpE G K E a) (wpE G K E b))
 |.chain o1 o2 a b c=>tV (oB (ej K o1) (ej K o2) (wpE G K E a) (wpE G K E b) (wpE G K E c))
 |.not a=>tNot (wpT G K E a)
 |.and a b=>tAnd (wpT G K E a) (wpT G K E b)
 |.or a b=>tOr (wpT G K E a) (wpT G K E b)
 |.ite _ _ _=>fun _ _ _=>False
 |.var i=>tU K (rM i)
 |.con c=>tU K (tC (cv c))
 |.glo x=>tU K (fun σ H Q=>∃v,G.val x=some v/\Q v H)
 |.idx a i=>tU K (tOp (rIx K) (wpE G K E a) (wpE G K E i))
 |.call f es=>tU K (fun σ H Q=>∃sp dvs,G.fn f es.len=some (sp,dvs)/\tY sp dvs (E σ) (wpL G K E es) σ H Q)
 |.bfn b es=>tU K (tCB (rBf K b) (wpL G K E es))
 |_=>fun _ _ _=>False
noncomputable def wpL(G:Gam)(K:aa)(E:XS):CL->TA
 |.nil=>tW
 |.cons e es=>nr (wpE G K E e) (wpL G K E es)
noncomputable def wpP(G:Gam)(K:aa)(E:XS):CP->List (TE×TE)
 |.nil=>[]
 |.cons k v r=>(wpE G K E k,wpE G K E v)::wpP G K E r
noncomputable def wpO(G:Gam)(K:aa)(E:XS):CO->TO
 |.no=>rN
 |.yes e=>Ao (wpE G K E e)
noncomputable def wpC(G:Gam)(K:aa)(E:XS):CO->TT
 |.no=>tYes
 |.yes e=>wpT G K E e
noncomputable def wpG(G:Gam)(K:aa)(E:XS):CG->TG
 |.name i=>kJ i
 |.tup gs=>gTup K gs.len (wpGs G K E gs)
noncomputable def wpGs(G:Gam)(K:aa)(E:XS):CGs->TGs
 |.nil=>gNil
 |.cons g gs=>BU (wpG G K E g) (wpGs G K E gs)
noncomputable def wpI(G:Gam)(K:aa)(E:XS):CI->TI
 |.seq e=>wN K (wpE G K E e)
 |.lseq e=>BQ K (wpE G K E e)
 |.range1 e=>BP (nr (wpE G K E e) tW)
 |.range2 a b=>BO (nr (wpE G K E a) (nr (wpE G K E b) tW))
end
mutual
noncomputable def wpS(G:Gam)(K:aa)(E:XS):CS->TS
 |.asg g e=>rO (wpE G K E e) (wpG G K E g)
 |.asgc i e=>rO (wpE G K E e) (kJ i)
 |.expr e=>Aq (wpE G K E e)
 |.iff c a b=>tIfS (wpT G K E c) (wpB G K E a) (wpB G K E b)
 |.forr g it b=>tFor (wpI G K E it) (wpG G K E g) (wpB G K E b)
 |.ret e=>tRet (wpE G K E e)
 |.retN=>An
 |.rais x es=>fun D σ H=>∃C,G.val x=some (.ref C)/\bJ K (.ref C)=true/\PySem.W.excIn K C bmV "ValueError.__new__"=true/\wpL G K E es σ H fun vs H1=>vs.length<=sizeLine/\E σ (.ref C) none H1
 |.tryc x i b su=>fun D σ H=>∃C,G.val x=some (.ref C)/\wpB G K (lu K C i (wpB G K N0 su) D) b D σ H
 |.pass=>tX
 |.brk=>Ar
 |.cont=>tCont
noncomputable def wpB(G:Gam)(K:aa)(E:XS):CB->TS
 |.nil=>tX
 |.hole=>fun _ _ _=>False
 |.cons s r=>pW (wpS G K E s) (wpB G K E r)
end
noncomputable abbrev Sat(G:Gam)(K:aa)(sp:Sp)(c:CB)(N:List Str):Prop:=∀vs H Q E,sp vs H Q E->wpB G K (fun _=>E) c {nx:=fun _ H'=>Q .non H',rt:=Q} (L2.start N vs) H
noncomputable def gv:List Str:=["len","isinstance","all","any","list","tuple","int","bool","str","dict","range","enumerate","sorted","set","min","max","ValueError","sum","zip","reversed"]
structure Ok(CX:CXT)(G:Gam)(E:XS)(sc:Scope)(N:List Str)(all:Bool)(X:Cx):Prop where
 names:X.N=N
 top:all=true->X.stack=X.env::X.outer/\X.env.frame=some X.env.locals/\X.ex=[]
 nd:N.Nodup
 loc:∀x,sc.names.lookup x=some .local->X.env.scope.names.lookup x=some .local
 cel:∀x,sc.names.lookup x=some .cell->X.env.scope.names.lookup x=some .cell
 fre:∀x,sc.names.lookup x=some .free->X.env.scope.names.lookup x=some .cell\/X.env.scope.names.lookup x=some .free
 glo:∀x,sc.names.lookup x=some .globalImplicit->X.env.scope.names.lookup x=some .globalImplicit
 all:all=true->∀x,X.fn x=true
 own:∀x,sc.names.lookup x=some .cell->X.fn x=true
 calm:X.calm=true
 hu:X.A.units+50<cLine
 val:∀x v,G.val x=some v->∃u,X.mg x=some u/\RelV v u
 fn:∀x n sp dvs,G.fn x n=some (sp,dvs)->∃f fd ps ds k,hV X.prog X.w X.K X.mg X.base CX k f fd ps sp/\iM k X.A/\X.mg x=some (.ref f)/\bJ X.K (.ref f)=true/\Binds X.K fd ps ds/\bU dvs ds
 ini:∀x n C sp dvs,G.ini x n=some (C,sp,dvs)->∃f fd ps ds k,MkX X.K C f/\hV X.prog X.w X.K X.mg X.base CX k f fd ps sp/\iM (k+1) X.A/\X.mg x=some (.ref C)/\Binds X.K fd ps ds/\bU dvs ds
 dic:∀a kvs,G.dic a=some kvs->DkIn X.prog X.w X.K a kvs
 mak:∀x n C sp dvs,G.mak x n=some (C,sp,dvs)->∃f fd ps ds k,Mk X.K C f/\hV X.prog X.w X.K X.mg X.base CX k f fd ps sp/\iM (k+1) X.A/\X.mg x=some (.ref C)/\Binds X.K fd ps ds/\bU dvs ds
 mth:∀m n C sp dvs,G.mth m n=some (C,sp,dvs)->∃f fd ps ds k,Cls X.K C/\Meth X.K C m f/\hV X.prog X.w X.K X.mg X.base CX k f fd ps sp/\iM k X.A/\Binds X.K fd ps ds/\bU dvs ds
 blt:∀x∈gv,X.mg x=none
 px:PassesOwn (model X.prog X.w) X.A X.env X.xe
 pass:vp CX X E
 made:MadeS X E
 madeX:Ct X E
 cx:CX=CXx X.prog X.w
theorem Bf.mem:∀b:Bf,b.name∈gv:=by intro b;cases b<;>decide+kernel
theorem Ty.mem:∀b:Ty,b.name∈gv:=by intro b;cases b<;>decide+kernel
section
variable {CX:CXT}{G:Gam}{E:XS}{sc:Scope}{N:List Str}{all:Bool}{X:Cx}
theorem Ok.vis(o:Ok CX G E sc N all X){x:Str}(h:uQ sc x=true):Vis X.env.scope x:=by
 unfold uQ at h;rw[bC,bC,beq_iff_eq,beq_iff_eq,beq_iff_eq]at h;rcases h with(h|h) |h
 ·exact .inl (o.loc x h)
 ·exact .inr (.inl (o.cel x h))
 ·rcases o.fre x h with q|q
  ·exact .inr (.inl q)
  ·exact .inr (.inr q)
theorem Ok.gl(o:Ok CX G E sc N all X){x:Str}(h:kC sc x=true):Gl X x:=by
 unfold kC at h;rw[beq_iff_eq]at h;exact o.glo x h
theorem gp{x:Str}(h:oV x=true):(x==("__debug__":Str))=false/\(x==("__classdict__":Str))=false:=by
 unfold oV at h;rw[aw,beq_iff_eq,beq_iff_eq]at h;exact h
theorem xO:∀op,OpR X (dw op) (i9 X.K op)
 |.Add=>op_add.or (wD.or (op_cat.or (op_catT.or op_cat0)))
 |.Sub=>op_sub
 |.Mult=>op_mul
 |.Mod=>op_mod
 |.FloorDiv=>op_fdiv
 |.Pow=>op_pow
 |.RShift=>op_shr
 |.MatMult=>fun _ _ _ _ _ _ _ _ _ _ _ _ h=>h.elim
 |.Div=>fun _ _ _ _ _ _ _ _ _ _ _ _ h=>h.elim
 |.LShift=>op_shl
 |.BitOr=>fun _ _ _ _ _ _ _ _ _ _ _ _ h=>h.elim
 |.BitXor=>op_xor
 |.BitAnd=>op_and
theorem j6(hu:X.A.units+50<cLine):∀op,OpR X (cH op) (ej X.K op)
 |.Eq=>op_eqD (by omega)
 |.NotEq=>op_neD (by omega)
 |.Lt=>op_lt
 |.LtE=>op_le
 |.Gt=>op_gt
 |.GtE=>op_ge
 |.Is=>op_isN
 |.IsNot=>op_notN
 |.In=>y9.or za
 |.NotIn=>sr.or sv
theorem rUn_ok:∀op,UnR X (unaryOp op) (rUn X.K op)
 |.USub=>un_neg
 |.Not=>fun _ _ _ _ _ _ _ _ _ h=>h.elim
 |.UAdd=>fun _ _ _ _ _ _ _ _ _ h=>h.elim
 |.Invert=>fun _ _ _ _ _ _ _ _ _ h=>h.elim
theorem rSlc_ok:SlR X (pZ X.K):=sl_list.or (sl_tup.or (sl_str.or sl_tupW))
theorem rBf_ok(hc:X.calm=true)(hu:X.A.units+50<cLine):∀b,eK X (Bf.val b) (rBf X.K b)
 |.len=>sR.or (sQ.or Q.qi)
 |.isinstance=>nG.or (mf.or me)
 |.all=>Cj hc
 |.any=>Ci hc
 |.list=>sO
 |.tuple=>qh
 |.set=>Q.zA hc
 |.min=>zB hc
 |.int=>zC
 |.sort3=>Q.sN
theorem Mm.slot:∀m:Mm,Slot "list" m.name m.id
 |.append=>PySem.F.slot_list_append|.clear=>PySem.F.slot_list_clear|.reverse=>PySem.F.slot_list_reverse|.pop=>PySem.F.slot_list_pop|.index=>PySem.F.slot_list_index|.extend=>PySem.F.slot_list_extend
theorem Mm.ty:∀m:Mm,typeOf (.builtin m.id)=pure (.type "method_descriptor")
 |.append=>PySem.F.type_list_append|.clear=>PySem.F.type_list_clear|.reverse=>PySem.F.type_list_reverse|.pop=>PySem.F.type_list_pop|.index=>PySem.F.type_list_index|.extend=>PySem.F.type_list_extend
theorem AZ:∀m:Mm,MtR X m.id (rMm m)
 |.append=>ze|.clear=>fun _ _ _ _ _ _ _ _ _ _ _ _ h=>h.elim|.reverse=>fun _ _ _ _ _ _ _ _ _ _ _ _ h=>h.elim|.pop=>fun _ _ _ _ _ _ _ _ _ _ _ _ h=>h.elim|.index=>fun _ _ _ _ _ _ _ _ _ _ _ _ h=>h.elim|.extend=>zd
theorem yt{o:Expr}(h:baseOk o=true)(nm:Str)(env:Env)(t:Sem Value):attributeBase o nm env t=t:=by
 cases o<;>first
  |rfl
  |exact cA h
  | (rename_i f es ks p;cases f<;>first
   |rfl
   |exact cA h)
theorem cL{c:CE}{e:Expr}(h:di sc N c e=true)(es:List Expr)(env:Env):bB (e::es) env=(false,eval e env)::bB es env:=by
 cases e<;>first
  |rfl
  | (cases c<;>exact cA h)
theorem iZ{c:CE}{r:CL}{es:List Expr}(h:lA sc N (.cons c r) es=true):∃e' r',es=e'::r'/\di sc N c e'=true/\lA sc N r r'=true:=
 let⟨e',r',a,k⟩:=qv h
 ⟨e',r',a,an k⟩
theorem jU{es:List Expr}(h:lA sc N .nil es=true):es=[]:=nil_of h
theorem pv:∀{l:CL}{es:List Expr},lA sc N l es=true->∀(env:Env)(pos:Pos),(backTo pos (bB es env)).any (·.1)=false
 |.nil,es,h,env,pos=>by rw[jU h];rfl
 |.cons c r,es,h,env,pos=>by
  obtain⟨e',r',rfl,h1,h2⟩:=iZ h;rw[cL h1];show(false||(backTo pos (bB r' env)).any (·.1))=false;rw[pv h2];rfl
theorem Aw{l:CL}{es:List Expr}(h:lA sc N l es=true)(hn:(!es.isEmpty)=true):∃e es',es=e::es'/\∀(env:Env)(pos:Pos),bB (e::es') env=(false,eval e env)::bB es' env/\(backTo pos (bB es' env)).any (·.1)=false:=by
 cases l with
 |nil=>
  obtain rfl:=jU h;exact cA hn
 |cons c r=>
  obtain⟨e',r',rfl,h1,h2⟩:=iZ h;exact⟨e',r',rfl,fun env pos=>⟨cL h1 _ _,pv h2 _ _⟩⟩
theorem sC{e:Expr}(h:isSet e=false)(env:Env):∀x,gV e env x=pure x:=by
 intro x;cases e<;>first
  |rfl
  | (exact absurd h (by simp[isSet]))
theorem j8{e:Expr}(h:isSet e=false)(op:CmpOp):CA op e=false:=by
 cases e<;>first
  |rfl
  | (exact absurd h (by simp[isSet]))
theorem A9{e:Expr}(h:sH e=false):yv e:=by
 intro o i;cases e<;>first
  |rfl
  | (exact absurd h (by simp[sH]))
theorem og{e:Expr}(h:o7 e=false)(t:Option Expr)(l:Nat)(env:Env):ot e t l env=pure false:=by
 cases e<;>first
  |rfl
  | (exact absurd h (by simp[o7]))
theorem pt_tru{e:Expr}{t:TE}(h:PE X e t)(he:∀whole,isTrue e X.env whole=(do let v<-whole;standAt e.pos;holding [v] (truthy v))):PT X e (tU X.K t):=hE h he
theorem pi_any{tg l:Expr}{tl:TE}(hl:PE X l tl):PI X tg l (wN X.K tl):=by
 intro pins s σ H R I h;refine thn (hl pins s σ H _ I h) fun v s1 ⟨x,H1,I1,r1,q1⟩=>?_;have key:∀{tl':TE}{wi:TI},True:=fun{_ _}=>trivial;rcases q1 with q1|q1|q1
 ·obtain⟨a,e,⟨xs,hq⟩,q⟩:=q1
  subst e;cases r1;obtain⟨its,rv,p,hz⟩:=I1.list hq;refine gS p.isList ?_;refine⟨s1.heap.objs.size,[s1.heap.objs.size],_,_,H1,rfl,I1.kept (t':=s1.toks) fun b o e=>ag _ e,qw a _,⟨_,aK _ rfl,rfl,rfl⟩,fun b hb=>?_,q⟩;have e:b=s1.heap.objs.size:=by simpa using hb
  subst e;exact I1.wQ (aq _) (I1.hok.fresh (aq _))
 ·obtain⟨a,e,⟨xs,hq⟩,q⟩:=q1
  subst e;cases r1;obtain⟨its,rv,p,hz⟩:=I1.tuple hq;refine wpAny_pyIter_tuple (show s1.heap.IsTuple a its.toArray from p) ?_;refine⟨s1.heap.objs.size,[s1.heap.objs.size],_,_,H1,rfl,I1.kept (t':=s1.toks) fun b o e=>ag _ e,vS a _,⟨_,aK _ rfl,rfl,rfl⟩,fun b hb=>?_,q⟩;have e:b=s1.heap.objs.size:=by simpa using hb
  subst e;exact I1.wQ (aq _) (I1.hok.fresh (aq _))
 ·obtain⟨z,e,q⟩:=q1
  subst e;obtain⟨t,rfl⟩:=r1;refine wpAny_pyIter_strU ?_;refine⟨s1.heap.objs.size,[s1.heap.objs.size],_,_,H1,rfl,I1.kept (t':=s1.toks) fun b o e=>ag _ e,Ae z _ t,⟨_,aK _ rfl,rfl,rfl⟩,fun b hb=>?_,q⟩;have e:b=s1.heap.objs.size:=by simpa using hb
  subst e;exact I1.wQ (aq _) (I1.hok.fresh (aq _))
end
set_option maxHeartbeats 4000000
section
variable {CX:CXT}{G:Gam}
structure kj(sc sc':Scope)(N own:List Str)(fr:List Nat):Prop where
 kind:sc'.kind=.function
 cellk:∀y∈sc'.names,y.2=.cell->sc'.names.lookup y.1=some .cell
 own1:∀y∈sc'.names,y.2=.local->sc'.names.lookup y.1=some .local
 free:∀y∈sc'.names,y.2=.free->sc.names.lookup y.1=some .cell\/sc.names.lookup y.1=some .free
 nd:(namesOf N own fr).Nodup
 fr:∀j∈fr,j<N.length/\sc'.names.lookup (N.getD j "")=some .free
 own2:∀x∈own,sc'.names.lookup x=some .local\/sc'.names.lookup x=some .cell
theorem oN{sc sc':Scope}{N own:List Str}{fr:List Nat}(h:sA sc sc' N own fr=true):kj sc sc' N own fr:=by
 unfold sA at h;simp only[aw,bP,decide_eq_true_eq,beq_iff_eq,bC]at h;obtain⟨⟨⟨⟨⟨⟨h1,h2⟩,h3⟩,h4⟩,h5⟩,h6⟩,h7⟩:=h;exact⟨h1,h2,h3,h4,h5,h6,h7⟩
theorem kj.comp{E:XS}{sc sc':Scope}{N own:List Str}{fr:List Nat}{all:Bool}{X:Cx}(S:kj sc sc' N own fr)(o:Ok CX G E sc N all X):kl X (namesOf N own fr) sc':=
 ⟨S.kind,S.cellk,S.own1,fun y hy hf=>by
  rcases S.free y hy hf with q|q
  ·exact .inl (o.cel _ q)
  ·exact o.fre _ q⟩
theorem kj.mkOk{E:XS}{sc sc':Scope}{N own:List Str}{fr:List Nat}{all:Bool}{X:Cx}(S:kj sc sc' N own fr)(o:Ok CX G E sc N all X):MkOk X (namesOf N own fr) sc' (jZ own fr):=by
 intro σ hl;refine⟨by simp[jZ,namesOf],fun i x v h1 h2=>?_⟩;unfold jZ at h2;unfold namesOf at h1;by_cases hi:i<own.length
 ·rw[i7 (by simpa using hi),bq]at h2
  cases q:own[i]? with
  |none=>rw[q]at h2;cases h2
  |some z=>rw[q]at h2;cases h2
 ·rw[ff (by simpa using hi),bq,aC]at h2
  rw[ff (by simpa using hi),bq]at h1;cases q:fr[i-own.length]? with
  |none=>rw[q]at h2;cases h2
  |some j=>
   rw[q]at h1 h2;have hx:N.getD j ""=x:=a9 h1;have hv:(σ[j]?).getD none=some v:=a9 h2;obtain⟨hj,hf⟩:=S.fr j (aD q);refine⟨by rw[<-hx];exact hf,j,?_,?_⟩
   ·rw[o.names,<-hx,ah,ae hj];rfl
   ·cases w:σ[j]? with
    |none=>rw[w]at hv;cases hv
    |some z=>rw[w]at hv;exact congrArg some hv
noncomputable abbrev HX(CX:CXT):Prop:=∀o H s e s',CX o H s E0 e s'->False
theorem Ok.comp{E:XS}{sc sc':Scope}{N own:List Str}{fr:List Nat}{all:Bool}{X:Cx}(hCX:HX CX)(S:kj sc sc' N own fr)(o:Ok CX G E sc N all X)(C:Addr)(s₀:Shared)(H₀:Hp)(fp:List Addr):
  Ok CX G N0 sc' (namesOf N own fr) false (cP X (namesOf N own fr) sc' C s₀ H₀ fp) where
 names:=rfl
 nd:=S.nd
 loc:=fun x h=>lookup_relabel_local (env:=X.env) h
 cel:=fun x h=>eH (env:=X.env) h (by decide)
 own:=fun x h=>gO.mpr ⟨(x,.cell),aY h,by simp⟩
 fre:=fun x h=>(eX (env:=X.env) h).symm
 glo:=fun x h=>eH (env:=X.env) h (by decide)
 all:=fun h=>absurd h (by decide)
 calm:=o.calm
 hu:=o.hu
 val:=o.val
 fn:=o.fn
 ini:=o.ini
 dic:=o.dic
 mak:=o.mak
 mth:=o.mth
 blt:=o.blt
 px:=PassesOwn.never
 pass:=fun _ _ _ _ _ _ _ h=>(hCX _ _ _ _ _ h).elim
 made:=fun _ _ _ _ _ _ _ _ _ _ h=>h.elim
 madeX:=fun _ _ _ _ _ _ _ _ _ h=>h.elim
 cx:=o.cx
 top:=fun h=>absurd h (by decide)
theorem lR{sc:Scope}{N:List Str}{all:Bool}{g:CG}{e:Expr}(h:qg sc N all g e=true)(es:List Expr)(env:Env):fF (e::es) env=(false,assign e env)::fF es env:=by
 cases e<;>first
  |rfl
  | (cases g<;>exact cA h)
theorem pA{sc:Scope}{N:List Str}{all:Bool}{g:CG}{r:CGs}{es:List Expr}(h:pB sc N all (.cons g r) es=true):∃e' r',es=e'::r'/\qg sc N all g e'=true/\pB sc N all r r'=true:=
 let⟨e',r',a,k⟩:=qv h
 ⟨e',r',a,an k⟩
theorem qU{sc:Scope}{N:List Str}{all:Bool}{es:List Expr}(h:pB sc N all .nil es=true):es=[]:=nil_of h
theorem nF{sc:Scope}{N:List Str}{all:Bool}:∀{gs:CGs}{es:List Expr},pB sc N all gs es=true->∀env,(fF es env).length=gs.len/\(fF es env).findIdx? (·.1)=none
 |.nil,es,h,env=>by rw[qU h];exact⟨rfl,rfl⟩
 |.cons g r,es,h,env=>by
  obtain⟨e',r',rfl,h1,h2⟩:=pA h;obtain⟨a,b⟩:=nF h2 env;rw[lR h1];refine⟨by rw[a7,a,CGs.len],?_⟩;rw[List.findIdx?_cons];simp[b]
end
section
variable {CX:CXT}{G:Gam}
noncomputable abbrev IHE(CX:CXT)(G:Gam)(c:CE):Prop:=∀(e:Expr){E:XS}{sc:Scope}{N:List Str}{all:Bool}{X:Cx},Ok CX G E sc N all X->di sc N c e=true->PE X e (wpE G X.K E c)
noncomputable abbrev IHT(CX:CXT)(G:Gam)(c:CE):Prop:=∀(e:Expr){E:XS}{sc:Scope}{N:List Str}{all:Bool}{X:Cx},Ok CX G E sc N all X->di sc N c e=true->PT X e (wpT G X.K E c)
noncomputable def isBo:Expr->Bool
 |.BoolOp .. =>true
 |_=>false
theorem isBo_of{e:Expr}(h:isBo e=true):∃op es p,e=.BoolOp op es p:=by
 cases e<;>first
  |exact⟨_,_,_,rfl⟩
  |exact cA h
noncomputable abbrev IHW(CX:CXT)(G:Gam)(c:CE):Prop:=∀(e:Expr){E:XS}{sc:Scope}{N:List Str}{all:Bool}{X:Cx},Ok CX G E sc N all X->di sc N c e=true->isBo e=true->PW X e (wpT G X.K E c)
noncomputable abbrev IHL(CX:CXT)(G:Gam)(c:CL):Prop:=∀(es:List Expr){E:XS}{sc:Scope}{N:List Str}{all:Bool}{X:Cx},Ok CX G E sc N all X->lA sc N c es=true->PA X es (wpL G X.K E c)
noncomputable abbrev IHP(CX:CXT)(G:Gam)(c:CP):Prop:=∀(ks:List (Option Expr))(vs:List Expr){E:XS}{sc:Scope}{N:List Str}{all:Bool}{X:Cx},Ok CX G E sc N all X->chkP sc N c ks vs=true->∀pos,
  PPs X pos ks vs (wpP G X.K E c)/\ks.all (·.isSome)=true/\ks.length=vs.length/\(c≠.nil->ks≠[])
noncomputable abbrev IHO(CX:CXT)(G:Gam)(c:CO):Prop:=∀(e:Option Expr){E:XS}{sc:Scope}{N:List Str}{all:Bool}{X:Cx},Ok CX G E sc N all X->chkO sc N c e=true->PO X e (wpO G X.K E c)
noncomputable abbrev IHC(CX:CXT)(G:Gam)(c:CO):Prop:=∀(es:List Expr){E:XS}{sc:Scope}{N:List Str}{all:Bool}{X:Cx},Ok CX G E sc N all X->chkC sc N c es=true->PTs X es (wpC G X.K E c)
noncomputable abbrev IHG(CX:CXT)(G:Gam)(c:CG):Prop:=∀(e:Expr){E:XS}{sc:Scope}{N:List Str}{all:Bool}{X:Cx},Ok CX G E sc N all X->qg sc N all c e=true->PG X e (wpG G X.K E c)
noncomputable abbrev Cv(CX:CXT)(G:Gam)(c:CGs):Prop:=∀(es:List Expr){E:XS}{sc:Scope}{N:List Str}{all:Bool}{X:Cx},Ok CX G E sc N all X->pB sc N all c es=true->PGs X es (wpGs G X.K E c)
noncomputable abbrev IHI(CX:CXT)(G:Gam)(c:CI):Prop:=∀(e tg:Expr){E:XS}{sc:Scope}{N:List Str}{all:Bool}{X:Cx},Ok CX G E sc N all X->chkI sc N c e tg=true->PI X tg e (wpI G X.K E c)
theorem AM{i:Nat}:IHE CX G (.var i):=by
  intro e E sc N all X o h;obtain⟨x,p,rfl,k⟩:=fW h;obtain⟨h1,h2,h3⟩:=fP k;obtain⟨d1,d2⟩:=gp h3;exact Bc (by rw[o.names];exact beq_iff_eq.mp h1) (o.vis h2) d1 d2
theorem AR{c:Const}:IHE CX G (.con c):=by
  intro e E sc N all X o h;obtain⟨c',j,p,rfl,k⟩:=wZ h;obtain⟨h1,h2⟩:=an k;cases of_decide_eq_true h2;cases c with
  |none=>exact Bk
  |bool b=>exact pe_bl
  |int i=>exact Bm
  |str x=>exact Be
  |_=>exact cA h1
theorem AQ{x:Str}:IHE CX G (.glo x):=by
  intro e E sc N all X o h;obtain⟨y,p,rfl,k⟩:=fW h;obtain⟨h1,h2,h3⟩:=fP k;cases of_decide_eq_true h1;intro pins s σ H Q I hw;obtain⟨v,hv,q⟩:=hw;obtain⟨u,hu,r⟩:=o.val _ _ hv;exact xU (o.gl h2) hu r (gp h3).1 pins s σ H Q I q
theorem sE_ty{t:Ty}:IHE CX G (.ty t):=by
  intro e E sc N all X o h;obtain⟨y,p,rfl,k⟩:=fW h;obtain⟨h1,h2⟩:=an k;cases of_decide_eq_true h1;exact xV (o.gl h2) (o.blt _ t.mem) t.boot rfl t.plain.1 t.plain.2
theorem sE_bin{op:Operator}{a b:CE}(ia:IHE CX G a)(ib:IHE CX G b):IHE CX G (.bin op a b):=by
  intro e E sc N all X o h;obtain⟨a',op',b',p,rfl,k⟩:=w6 h;obtain⟨h1,h2,h3⟩:=fP k;cases of_decide_eq_true h1;exact Bi (xO op) (ia _ o h2) (ib _ o h3)
theorem sE_un{op:UnaryOp}{a:CE}(ia:IHE CX G a):IHE CX G (.un op a):=by
  intro e E sc N all X o h;obtain⟨op',a',p,rfl,k⟩:=wU h;obtain⟨h1,h2⟩:=an k;cases of_decide_eq_true h1;exact pe_un (rUn_ok op) (ia _ o h2)
theorem sE_cmp{op:CmpOp}{a b:CE}(ia:IHE CX G a)(ib:IHE CX G b):IHE CX G (.cmp op a b):=by
  intro e E sc N all X o h;obtain⟨a',op',b',p,rfl,h0,k⟩:=Ca h;obtain⟨h1,h2,h3⟩:=fP k;cases of_decide_eq_true h1;exact pe_cmpR (j6 o.hu op) (ia _ o h2) (ib _ o h3) (j8 h0 op)
theorem AS{o1 o2:CmpOp}{a b c:CE}(ia:IHE CX G a)(ib:IHE CX G b)(ic:IHE CX G c):IHE CX G (.chain o1 o2 a b c):=by
  intro e E sc N all X o h;obtain⟨a',os,es,p,rfl,k⟩:=w4 h;obtain⟨p',q',rfl,l⟩:=uO k;obtain⟨b',c',rfl,m⟩:=uO l;obtain⟨h1,h2,h3,n⟩:=kD m;obtain⟨h4,h5,h6⟩:=fP n;cases of_decide_eq_true h1;cases of_decide_eq_true h2;exact Bo (j6 o.hu o1) (j6 o.hu o2) (ia _ o h4) (ib _ o h5) (ic _ o h6) (j8 (mP h3) o2)
theorem sE_not{a:CE}(ia:IHE CX G a):IHE CX G (.not a):=by
  intro e E sc N all X o h;obtain⟨op',a',p,rfl,k⟩:=wU h;obtain⟨h1,h2⟩:=an k;cases of_decide_eq_true h1;exact pe_not (ia _ o h2)
theorem sE_and{a b:CE}(ia:IHE CX G a)(ib:IHE CX G b):IHE CX G (.and a b):=by
  intro e E sc N all X o h;obtain⟨op,a',x,p,k,m⟩:=mX h;obtain⟨h1,h2,h3⟩:=fP k;cases of_decide_eq_true h1;rcases m with rfl|⟨b',c',r,rfl,rfl⟩
  ·exact Br (ia _ o h2) (Bj (ib _ o h3))
  ·exact Br (ia _ o h2) (ib _ o h3)
theorem sE_or{a b:CE}(ia:IHE CX G a)(ib:IHE CX G b):IHE CX G (.or a b):=by
  intro e E sc N all X o h;obtain⟨op,a',x,p,k,m⟩:=mX h;obtain⟨h1,h2,h3⟩:=fP k;cases of_decide_eq_true h1;rcases m with rfl|⟨b',c',r,rfl,rfl⟩
  ·exact pe_or (ia _ o h2) (Bj (ib _ o h3))
  ·exact pe_or (ia _ o h2) (ib _ o h3)
theorem sE_ite{c a b:CE}(ic:IHT CX G c)(ia:IHE CX G a)(ib:IHE CX G b):IHE CX G (.ite c a b):=by
  intro e E sc N all X o h;obtain⟨c',a',b',p,rfl,k⟩:=dIf_of h;obtain⟨h1,h2,h3⟩:=fP k;exact Bn (ic _ o h1) (ia _ o h2) (ib _ o h3)
theorem AO{a i:CE}(ia:IHE CX G a)(ii:IHE CX G i):IHE CX G (.idx a i):=by
  intro e E sc N all X o h;obtain⟨a',i',p,rfl,k⟩:=wW h;obtain⟨h1,h2,h3⟩:=fP k;exact pe_ix ix_seq (ia _ o h2) (ii _ o h3) (A9 (mP h1))
theorem sE_cut{a:CE}{lo hi:CO}(ia:IHE CX G a)(il:IHO CX G lo)(ih:IHO CX G hi):IHE CX G (.cut a lo hi):=by
  intro e E sc N all X o h;obtain⟨a',s,p,rfl,k⟩:=wW h;obtain⟨l,u,t,p',rfl,m⟩:=dSl_of k;obtain⟨h1,h2,n⟩:=fP m;obtain⟨h3,h4⟩:=an n;cases fi.mp h1;exact Bh rSlc_ok (ia _ o h2) (il _ o h3) (ih _ o h4)
theorem sE_tup{es:CL}(ie:IHL CX G es):IHE CX G (.tup es):=by
  intro e E sc N all X o h;obtain⟨es',j,p,rfl,k⟩:=wV h;exact Bd (ie _ o k)
theorem sE_lst{es:CL}(ie:IHL CX G es):IHE CX G (.lst es):=by
  intro e E sc N all X o h;obtain⟨es',p,rfl,k⟩:=B7 h;exact Bl (ie _ o k)
theorem xE{f:Str}{es:CL}(ie:IHL CX G es):IHE CX G (.call f es):=by
  intro e E sc N all X o h;obtain⟨f',np,es',p,rfl,k⟩:=jS h;obtain⟨h1,h2,h3,h4⟩:=kD k;cases of_decide_eq_true h1;intro pins s σ H Q I hw;obtain⟨sp,dvs,hf,hw⟩:=hw;obtain⟨fa,fd,ps,ds,k,F,hr,hm,hk,hb,hd⟩:=o.fn _ _ _ _ hf;cases es' with
  |nil=>
   cases es with
   |nil=>exact yX F hr (o.gl h2) hm hk hb hd o.pass (gp h3).1 pins s σ H Q I hw
   |cons=>exact cA h4
  |cons e1 r1=>
   have hL:=ie _ o h4;obtain⟨_,_,e,hs⟩:=Aw h4 rfl;cases e;exact Bp F hr (o.gl h2) hm hk hb hd o.pass hL (gp h3).1 (hs _ p).1 (hs _ _).2 pins s σ H Q I hw
theorem Bf.kind:∀b:Bf,(∃n,b.val=.builtin n)\/∃n,b.val=.type n:=by intro b;cases b<;>first |exact .inl ⟨_,rfl⟩ |exact .inr ⟨_,rfl⟩
theorem pe_bf{X:Cx}{b:Bf}{np pos:Pos}{es:List Expr}{t:TA}{l:CL}{sc:Scope}{N:List Str}(hB:eK X b.val (rBf X.K b))(hg:Gl X b.name)(hm:X.mg b.name=none)(hL:PA X es t)(hn:(!es.isEmpty)=true)(h:lA sc N l es=true):PE X (.Call (.Name b.name np) es [] pos) (tCB (rBf X.K b) t):=by
 obtain⟨e,es',rfl,hs⟩:=Aw h hn;have hv:=b.boot;rcases b.kind with⟨n,q⟩ |⟨n,q⟩
 ·rw[q]at hB hv
  exact Bq hB hg hm hv hL b.plain.1 b.plain.2 (hs _ pos).1 (hs _ _).2
 ·rw[q]at hB hv
  exact yW hB hg hm hv hL b.plain.1 b.plain.2 (hs _ pos).1 (hs _ _).2
theorem AU{b:Bf}{es:CL}(ie:IHL CX G es):IHE CX G (.bfn b es):=by
  intro e E sc N all X o h;obtain⟨f',np,es',p,rfl,k⟩:=jS h;obtain⟨h1,h2,h3,h4⟩:=kD k;cases of_decide_eq_true h1;exact pe_bf (rBf_ok o.calm o.hu b) (o.gl h2) (o.blt _ b.mem) (ie _ o h4) h3 h4
theorem AN{m:Mm}{b a:CE}(ib:IHE CX G b)(ia:IHE CX G a):IHE CX G (.meth1 m b a):=by
  intro e E sc N all X o h;obtain⟨o',ap,es,cp,rfl,h0,k⟩:=B6 h;obtain⟨a',rfl,l⟩:=jO k;obtain⟨h1,h2,h3⟩:=fP l;exact pe_bm tG m.slot m.ty (AZ m) (ib _ o h2) (iu (ia _ o h3) lj (cL h3 _ _)) (yt h1 _ _ _) (by rw[cL h3];rfl) h0 (cL h3 _ _) rfl
theorem sE_divb{a b:CE}(ia:IHE CX G a)(ib:IHE CX G b):IHE CX G (.divb a b):=by
  intro e E sc N all X o h;obtain⟨a',op',b',p,rfl,k⟩:=w6 h;obtain⟨h1,h2,h3⟩:=fP k;cases of_decide_eq_true h1;exact Bi op_divb (ia _ o h2) (ib _ o h3)
theorem sE_comp(hCX:HX CX){own:List Str}{fr:List Nat}{tg:CG}{it:CI}{cond:CO}{elt:CE}(ii:IHI CX G it)(ig:IHG CX G tg)(ic:IHC CX G cond)(ie:IHE CX G elt):IHE CX G (.comp own fr tg it cond elt):=by
  intro e E sc N all X o h;obtain⟨elt',gs,sc',p,rfl,k⟩:=wY h;obtain⟨⟨tg',it',ifs',y⟩,rfl,l⟩:=jO k;obtain⟨h1,h2,h3,m⟩:=kD l;obtain⟨h4,h5,h6,h7⟩:=kD m;cases of_decide_eq_true h1;have S:=oN h2;exact pe_comp (S.comp o) (S.mkOk o) o.calm (ii _ _ o h4)
   (fun C s₀ H₀ fp _=>⟨ig _ (o.comp hCX S C s₀ H₀ fp) h5,ic _ (o.comp hCX S C s₀ H₀ fp) h6,ie _ (o.comp hCX S C s₀ H₀ fp) h7⟩) (sC (mP h3) _)
theorem sT_cmp{op:CmpOp}{a b:CE}(ia:IHE CX G a)(ib:IHE CX G b):IHT CX G (.cmp op a b):=by
  intro e E sc N all X o h;obtain⟨a',op',b',p,rfl,h0,k⟩:=Ca h;obtain⟨h1,h2,h3⟩:=fP k;cases of_decide_eq_true h1;exact pt_cmpR (j6 o.hu op) (ia _ o h2) (ib _ o h3) (j8 h0 op)
theorem AK{o1 o2:CmpOp}{a b c:CE}(ia:IHE CX G a)(ib:IHE CX G b)(ic:IHE CX G c):IHT CX G (.chain o1 o2 a b c):=by
  intro e E sc N all X o h;obtain⟨a',os,es,p,rfl,k⟩:=w4 h;obtain⟨p',q',rfl,l⟩:=uO k;obtain⟨b',c',rfl,m⟩:=uO l;obtain⟨h1,h2,h3,n⟩:=kD m;obtain⟨h4,h5,h6⟩:=fP n;cases of_decide_eq_true h1;cases of_decide_eq_true h2;exact A3 (j6 o.hu o1) (j6 o.hu o2) (ia _ o h4) (ib _ o h5) (ic _ o h6) (j8 (mP h3) o2)
theorem sT_not{a:CE}(ia:IHT CX G a):IHT CX G (.not a):=by
  intro e E sc N all X o h;obtain⟨op',a',p,rfl,k⟩:=wU h;obtain⟨h1,h2⟩:=an k;cases of_decide_eq_true h1;exact pt_not (ia _ o h2)
theorem sT_var{i:Nat}:IHT CX G (.var i):=by
  intro e E sc N all X o h;have q:=AM e o h;obtain⟨x,p,rfl,k⟩:=fW h;exact hE q fun _=>rfl
theorem sT_con{c:Const}:IHT CX G (.con c):=by
  intro e E sc N all X o h;have q:=AR e o h;obtain⟨x,j,p,rfl,k⟩:=wZ h;exact hE q fun _=>rfl
theorem sT_glo{x:Str}:IHT CX G (.glo x):=by
  intro e E sc N all X o h;have q:=AQ e o h;obtain⟨x,p,rfl,k⟩:=fW h;exact hE q fun _=>rfl
theorem sT_idx{a i:CE}(ia:IHE CX G a)(ii:IHE CX G i):IHT CX G (.idx a i):=by
  intro e E sc N all X o h;have q:=AO ia ii e o h;obtain⟨x,y,p,rfl,k⟩:=wW h;exact hE q fun _=>rfl
theorem sT_call{f:Str}{es:CL}(ie:IHL CX G es):IHT CX G (.call f es):=by
  intro e E sc N all X o h;have q:=xE ie e o h;obtain⟨x,np,es,p,rfl,k⟩:=jS h;exact hE q fun _=>rfl
theorem sT_bfn{b:Bf}{es:CL}(ie:IHL CX G es):IHT CX G (.bfn b es):=by
  intro e E sc N all X o h;have q:=AU ie e o h;obtain⟨x,np,es,p,rfl,k⟩:=jS h;exact hE q fun _=>rfl
theorem AJ{a b:CE}(ia:IHT CX G a)(ib:IHT CX G b)(iw:IHW CX G b):IHW CX G (.and a b):=by
  intro e E sc N all X o h;obtain⟨op,a',x,p,k,m⟩:=mX h;obtain⟨h1,h2,h3⟩:=fP k;cases of_decide_eq_true h1;rcases m with rfl|⟨b',c',r,rfl,rfl⟩
  ·exact fun _=>A0 (ia _ o h2) (pw_and1 (ib _ o h3))
  ·exact fun _=>A0 (ia _ o h2) (iw _ o h3 rfl)
theorem sT_and{a b:CE}(iw:IHW CX G (.and a b)):IHT CX G (.and a b):=by
  intro e E sc N all X o h;obtain⟨op,a',x,p,k,m⟩:=mX h;exact(iw _ o h (by rcases m with rfl|⟨b',c',r,rfl,rfl⟩<;>rfl)).pt
theorem sW_or{a b:CE}(ia:IHT CX G a)(ib:IHT CX G b)(iw:IHW CX G b):IHW CX G (.or a b):=by
  intro e E sc N all X o h;obtain⟨op,a',x,p,k,m⟩:=mX h;obtain⟨h1,h2,h3⟩:=fP k;cases of_decide_eq_true h1;rcases m with rfl|⟨b',c',r,rfl,rfl⟩
  ·exact fun _=>pw_or (ia _ o h2) (pw_or1 (ib _ o h3))
  ·exact fun _=>pw_or (ia _ o h2) (iw _ o h3 rfl)
theorem sT_or{a b:CE}(iw:IHW CX G (.or a b)):IHT CX G (.or a b):=by
  intro e E sc N all X o h;obtain⟨op,a',x,p,k,m⟩:=mX h;exact(iw _ o h (by rcases m with rfl|⟨b',c',r,rfl,rfl⟩<;>rfl)).pt
theorem sL_nil:IHL CX G .nil:=by
  intro es E sc N all X o h;obtain rfl:=jU h;exact lj
theorem sL_cons{c:CE}{r:CL}(ic:IHE CX G c)(ir:IHL CX G r):IHL CX G (.cons c r):=by
  intro es E sc N all X o h;obtain⟨e',r',rfl,h1,h2⟩:=iZ h;exact iu (ic _ o h1) (ir _ o h2) (cL h1 _ _)
theorem sP_nil:IHP CX G .nil:=by
  intro ks vs E sc N all X o h pos;obtain⟨h1,h2⟩:=an h;obtain rfl:=nil_of h1;obtain rfl:=nil_of h2;exact⟨pps_nil,rfl,rfl,fun z=>absurd rfl z⟩
theorem sP_cons{k v:CE}{r:CP}(ir:IHP CX G r)(ik:IHE CX G k)(iv:IHE CX G v):IHP CX G (.cons k v r):=by
  intro ks vs E sc N all X o h pos;obtain⟨k',ks',rfl,l⟩:=qv h;obtain⟨v',vs',rfl,m⟩:=qv l;obtain⟨k',rfl,n⟩:=xW m;obtain⟨h1,h2,h3⟩:=fP n;obtain⟨p1,p2,p3,_⟩:=ir _ _ o h3 pos;exact⟨A8 (ik _ o h1) (iv _ o h2) p1,by simp[p2],by simp[p3],fun _=>by simp⟩
theorem sO_no:IHO CX G .no:=by
  intro e E sc N all X o h;obtain rfl:=fi.mp h;exact po_none
theorem sO_yes{c:CE}(ic:IHE CX G c):IHO CX G (.yes c):=by
  intro e E sc N all X o h;obtain⟨e',rfl,k⟩:=xW h;exact po_some (ic _ o k)
theorem sC_no:IHC CX G .no:=by
  intro es E sc N all X o h;obtain rfl:=nil_of h;exact pts_nil
theorem sC_yes{c:CE}(ic:IHT CX G c):IHC CX G (.yes c):=by
  intro es E sc N all X o h;obtain⟨e',rfl,k⟩:=jO h;exact pts_one (ic _ o k)
theorem sG_name{i:Nat}:IHG CX G (.name i):=by
  intro e E sc N all X o h;obtain⟨x,p,rfl,k⟩:=fW h;rw[aw,bC,beq_iff_eq,beq_iff_eq,beq_iff_eq]at k;obtain⟨h1,h2⟩:=k;refine sj (by rw[o.names];exact o.nd) (by rw[o.names];exact h1) ?_ ?_
  ·rcases h2 with q|q
   ·exact .inl (o.loc x q)
   ·exact .inr (o.cel x q)
  ·rcases h2 with q|q
   ·exact .inr (o.loc x q)
   ·exact .inl (o.own x q)
theorem sG_tup{gs:CGs}(ig:Cv CX G gs):IHG CX G (.tup gs):=by
  intro e E sc N all X o h;obtain⟨es,j,p,rfl,k⟩:=wV h;obtain⟨a,b⟩:=nF k X.env;exact pg_tup o.calm (ig _ o k) a b
theorem sGs_nil:Cv CX G .nil:=by
  intro es E sc N all X o h;obtain rfl:=qU h;exact pgs_nil
theorem AL{c:CG}{r:CGs}(ic:IHG CX G c)(ir:Cv CX G r):Cv CX G (.cons c r):=by
  intro es E sc N all X o h;obtain⟨e',r',rfl,h1,h2⟩:=pA h;exact Bb (ic _ o h1) (ir _ o h2) (by rw[lR h1];rfl)
theorem sI_seq{c:CE}(ic:IHE CX G c):IHI CX G (.seq c):=by
  intro e tg E sc N all X o h;exact pi_any (ic _ o h)
theorem sI_lseq{c:CE}(ic:IHE CX G c):IHI CX G (.lseq c):=by
  intro e tg E sc N all X o h;exact pi_list (ic _ o h)
theorem yR{c:CE}(ic:IHE CX G c):IHI CX G (.range1 c):=by
  intro e tg E sc N all X o h;obtain⟨f,np,es,p,rfl,k⟩:=jS h;obtain⟨e',rfl,l⟩:=jO k;obtain⟨h1,h2,h3⟩:=fP l;cases of_decide_eq_true h1;exact yV (o.gl h2) (o.blt _ (by decide+kernel)) (iu (ic _ o h3) lj (cL h3 _ _)) (cL h3 _ _)
theorem yQ{a b:CE}(ia:IHE CX G a)(ib:IHE CX G b):IHI CX G (.range2 a b):=by
  intro e tg E sc N all X o h;obtain⟨f,np,es,p,rfl,k⟩:=jS h;obtain⟨a',b',rfl,l⟩:=uO k;obtain⟨h1,h2,h3,h4⟩:=kD l;cases of_decide_eq_true h1;exact yU (o.gl h2) (o.blt _ (by decide+kernel)) (iu (ia _ o h3) (iu (ib _ o h4) lj (cL h4 _ _)) (cL h3 _ _)) (by rw[cL h3,cL h4];rfl) (cL h4 _ _)
mutual
theorem bA(hCX:HX CX):∀c:CE,IHE CX G c
 |.var i=>AM
 |.con c=>AR
 |.glo x=>AQ
 |.ty t=>sE_ty
 |.bin op a b=>sE_bin (bA hCX a) (bA hCX b)
 |.un op a=>sE_un (bA hCX a)
 |.cmp op a b=>sE_cmp (bA hCX a) (bA hCX b)
 |.chain o1 o2 a b c=>AS (bA hCX a) (bA hCX b) (bA hCX c)
 |.not a=>sE_not (bA hCX a)
 |.and a b=>sE_and (bA hCX a) (bA hCX b)
 |.or a b=>sE_or (bA hCX a) (bA hCX b)
 |.ite c a b=>sE_ite (gE hCX c) (bA hCX a) (bA hCX b)
 |.idx a i=>AO (bA hCX a) (bA hCX i)
 |.cut a lo hi=>sE_cut (bA hCX a) (AD hCX lo) (AD hCX hi)
 |.tup es=>sE_tup (jE hCX es)
 |.lst es=>sE_lst (jE hCX es)
 |.call f es=>xE (jE hCX es)
 |.bfn b es=>AU (jE hCX es)
 |.meth1 m b a=>AN (bA hCX b) (bA hCX a)
 |.divb a b=>sE_divb (bA hCX a) (bA hCX b)
 |.comp own fr tg it cond elt=>sE_comp hCX (we hCX it) (mJ hCX tg) (AE hCX cond) (bA hCX elt)
theorem gE(hCX:HX CX)(c:CE):IHT CX G c:=by
 cases c with
 |cmp op a b=>exact sT_cmp (bA hCX a) (bA hCX b)
 |chain p q a b c=>exact AK (bA hCX a) (bA hCX b) (bA hCX c)
 |not a=>exact sT_not (gE hCX a)
 |and a b=>exact sT_and (AJ (gE hCX a) (gE hCX b) (rT hCX b))
 |or a b=>exact sT_or (sW_or (gE hCX a) (gE hCX b) (rT hCX b))
 |var i=>exact sT_var
 |con c=>exact sT_con
 |glo x=>exact sT_glo
 |idx a i=>exact sT_idx (bA hCX a) (bA hCX i)
 |call f es=>exact sT_call (jE hCX es)
 |bfn b es=>exact sT_bfn (jE hCX es)
 |_=>exact fun _ _ _ _ _ _ _ _ _ _ _ _ _ _ z=>z.elim
theorem rT(hCX:HX CX)(c:CE):IHW CX G c:=by
 cases c with
 |and a b=>exact AJ (gE hCX a) (gE hCX b) (rT hCX b)
 |or a b=>exact sW_or (gE hCX a) (gE hCX b) (rT hCX b)
 |_=>
  intro e E sc N all X o h hb;obtain⟨op,es,p,rfl⟩:=isBo_of hb;exact cA h
theorem jE(hCX:HX CX):∀c:CL,IHL CX G c
 |.nil=>sL_nil
 |.cons c r=>sL_cons (bA hCX c) (jE hCX r)
theorem soundP(hCX:HX CX):∀c:CP,IHP CX G c
 |.nil=>sP_nil
 |.cons k v r=>sP_cons (soundP hCX r) (bA hCX k) (bA hCX v)
theorem AD(hCX:HX CX):∀c:CO,IHO CX G c
 |.no=>sO_no
 |.yes c=>sO_yes (bA hCX c)
theorem AE(hCX:HX CX):∀c:CO,IHC CX G c
 |.no=>sC_no
 |.yes c=>sC_yes (gE hCX c)
theorem mJ(hCX:HX CX):∀c:CG,IHG CX G c
 |.name i=>sG_name
 |.tup gs=>sG_tup (xC hCX gs)
theorem xC(hCX:HX CX):∀c:CGs,Cv CX G c
 |.nil=>sGs_nil
 |.cons c r=>AL (mJ hCX c) (xC hCX r)
theorem we(hCX:HX CX):∀c:CI,IHI CX G c
 |.seq c=>sI_seq (bA hCX c)
 |.lseq c=>sI_lseq (bA hCX c)
 |.range1 c=>yR (bA hCX c)
 |.range2 a b=>yQ (bA hCX a) (bA hCX b)
end
end
section
variable {CX:CXT}{G:Gam}
theorem oX{sc:Scope}{N:List Str}{all:Bool}{g:CG}{tg e:Expr}(h:qg sc N all g tg=true)(hn:(o5 tg&&o5 e)=false)(env:Env):swappedStores [tg] e env=pure none:=by
 cases tg with
 |Tuple es k p=>
  cases e<;>first
   |rfl
   | (exact absurd hn (by simp[o5]))
 |List es p=>cases g<;>exact cA h
 |_=>rfl
theorem tZ{a:Expr}{b:List Comprehension}{c:Scope}{d p:Pos}{x:Str}{l:Nat}{env:Env}(h:env.kindOf x≠some .local):ot (.ListComp a b c d) (some (.Name x p)) l env=pure false:=by
 show(pure (env.blockKind== .function&&env.kindOf x==some .local&&p.line==d.line&& !(c.names.any fun(n,k)=>n==x&&(k== .local||k== .cell))):Sem Bool)=pure false;have e:(env.kindOf x==some cU.local)=false:=by simpa using h
 rw[e,fg,bY,bY]
theorem vY{a:Expr}{b:List Comprehension}{c:Scope}{d p:Pos}{x:Str}{l:Nat}{env:Env}(hk:env.scope.kind=.function)(h:env.kindOf x=some .local)(hl:p.line=d.line)
  (hn:(c.names.any fun y=>decide (y.1=x)&&(decide (y.2=.local)||decide (y.2=.cell)))=false):ot (.ListComp a b c d) (some (.Name x p)) l env=pure true:=by
 show(pure (env.blockKind== .function&&env.kindOf x==some .local&&p.line==d.line&& !(c.names.any fun(n,k)=>n==x&&(k== .local||k== .cell))):Sem Bool)=pure true;have e1:env.blockKind=.function:=by unfold Env.blockKind;rw[hk];rfl
 have e2:(c.names.any fun(n,k)=>n==x&&(k==cU.local||k==cb))=false:=by
  rw[<-hn];congr 1
 rw[e1,h,hl,e2];simp
theorem xm{c:CE}(h:isCe c=true):∃own fr tg it cond elt,c=.comp own fr tg it cond elt:=by
 cases c with
 |comp own fr tg it cond elt=>exact⟨_,_,_,_,_,_,rfl⟩
 |_=>exact cA h
theorem uB{e:Expr}(h:o7 e=false)(tg:Expr)(l:Nat)(env:Env):Cy [tg] e l env=pure false:=by
 unfold Cy;exact og h _ _ _
structure OkL(G:Gam)(sc:Scope)(N:List Str)(X:Cx):Prop where
 names:X.N=N
 nd:N.Nodup
 loc:∀x,sc.names.lookup x=some .local->X.env.scope.names.lookup x=some .local
 cel:∀x,sc.names.lookup x=some .cell->X.env.scope.names.lookup x=some .cell
 fre:∀x,sc.names.lookup x=some .free->X.env.scope.names.lookup x=some .cell\/X.env.scope.names.lookup x=some .free
 glo:∀x,sc.names.lookup x=some .globalImplicit->X.env.scope.names.lookup x=some .globalImplicit
 all:∀x,X.fn x=true
 val:∀x v,G.val x=some v->∃u,X.mg x=some u/\RelV v u
 blt:∀x∈gv,X.mg x=none
theorem OkL.vis{sc:Scope}{N:List Str}{X:Cx}(o:OkL G sc N X){x:Str}(h:uQ sc x=true):Vis X.env.scope x:=by
 unfold uQ at h;rw[bC,bC,beq_iff_eq,beq_iff_eq,beq_iff_eq]at h;rcases h with(h|h) |h
 ·exact .inl (o.loc x h)
 ·exact .inr (.inl (o.cel x h))
 ·rcases o.fre x h with q|q
  ·exact .inr (.inl q)
  ·exact .inr (.inr q)
theorem OkL.gl{sc:Scope}{N:List Str}{X:Cx}(o:OkL G sc N X){x:Str}(h:kC sc x=true):Gl X x:=by
 unfold kC at h;rw[beq_iff_eq]at h;exact o.glo x h
theorem isi_ok{X:Cx}:eK X (.builtin "isinstance") (rBf X.K .isinstance):=nG.or (mf.or me)
mutual
theorem gq(c:CE)(e:Expr){E:XS}{sc:Scope}{N:List Str}{X:Cx}(o:OkL G sc N X)(l:lX c=true)(h:di sc N c e=true):PE X e (wpE G X.K E c):=by
 cases c with
 |var i=>
  obtain⟨x,p,rfl,k⟩:=fW h;obtain⟨h1,h2,h3⟩:=fP k;obtain⟨d1,d2⟩:=gp h3;exact Bc (by rw[o.names];exact beq_iff_eq.mp h1) (o.vis h2) d1 d2
 |con c=>
  obtain⟨c',j,p,rfl,k⟩:=wZ h;obtain⟨h1,h2⟩:=an k;cases of_decide_eq_true h2;cases c with
  |none=>exact Bk
  |bool b=>exact pe_bl
  |int i=>exact Bm
  |str x=>exact Be
  |_=>exact cA h1
 |glo x=>
  obtain⟨y,p,rfl,k⟩:=fW h;obtain⟨h1,h2,h3⟩:=fP k;cases of_decide_eq_true h1;intro pins s σ H Q I hw;obtain⟨v,hv,q⟩:=hw;obtain⟨u,hu,r⟩:=o.val _ _ hv;exact xU (o.gl h2) hu r (gp h3).1 pins s σ H Q I q
 |ty t=>
  obtain⟨y,p,rfl,k⟩:=fW h;obtain⟨h1,h2⟩:=an k;cases of_decide_eq_true h1;exact xV (o.gl h2) (o.blt _ t.mem) t.boot rfl t.plain.1 t.plain.2
 |lst es=>
  obtain⟨es',p,rfl,k⟩:=B7 h;exact Bl (lW es _ o l k)
 |tup es=>
  obtain⟨es',j,p,rfl,k⟩:=wV h;exact Bd (lW es _ o l k)
 |bfn b es=>
  obtain⟨f',np,es',p,rfl,k⟩:=jS h;obtain⟨h1,h2,h3,h4⟩:=kD k;cases of_decide_eq_true h1;cases b with
  |isinstance=>exact pe_bf (b:=.isinstance) isi_ok (o.gl h2) (o.blt _ (Bf.mem _)) (lW es _ o l h4) h3 h4
  |_=>exact cA l
 |meth1 m a b=>
  obtain⟨l1,l2⟩:=an l;obtain⟨o',ap,es,cp,rfl,h0,k⟩:=B6 h;obtain⟨a',rfl,n⟩:=jO k;obtain⟨h1,h2,h3⟩:=fP n;exact pe_bm tG m.slot m.ty (AZ m) (gq a _ o l1 h2) (iu (gq b _ o l2 h3) lj (cL h3 _ _)) (yt h1 _ _ _) (by rw[cL h3];rfl) h0 (cL h3 _ _) rfl
 |bin op a b=>
  obtain⟨l1,l2⟩:=an l;obtain⟨a',op',b',p,rfl,k⟩:=w6 h;obtain⟨h1,h2,h3⟩:=fP k;cases of_decide_eq_true h1;exact Bi (xO op) (gq a _ o l1 h2) (gq b _ o l2 h3)
 |_=>exact cA l
theorem lW(c:CL)(es:List Expr){E:XS}{sc:Scope}{N:List Str}{X:Cx}(o:OkL G sc N X)(l:uI c=true)(h:lA sc N c es=true):PA X es (wpL G X.K E c):=by
 cases c with
 |nil=>
  obtain rfl:=jU h;exact lj
 |cons c r=>
  obtain⟨e',r',rfl,h1,h2⟩:=iZ h;obtain⟨l1,l2⟩:=an l;exact iu (gq c _ o l1 h1) (lW r _ o l2 h2) (cL h1 _ _)
end
mutual
theorem BG(c:CS)(st:Stmt){E:XS}{sc:Scope}{N:List Str}{X:Cx}(o:OkL G sc N X)(l:liteS c=true)(h:chkS sc N c st=true):PS X st (wpS G X.K E c):=by
 cases c with
 |asg g e=>
  obtain⟨g',e',p,rfl,k⟩:=xi h;obtain⟨g1,g2,g3,g4⟩:=kD k;cases g with
  |name i=>
   obtain⟨x,p,rfl,m⟩:=fW g1;rw[aw,bC,beq_iff_eq,beq_iff_eq,beq_iff_eq]at m;refine wx (gq e _ o l g2) ?_ (uB (mP g3) _ _ _) rfl rfl;refine sj (by rw[o.names];exact o.nd) (by rw[o.names];exact m.1) ?_ (.inl (o.all x));rcases m.2 with q|q
   ·exact .inl (o.loc x q)
   ·exact .inr (o.cel x q)
  |_=>exact cA l
 |ret e=>
  obtain⟨r,p,rfl,k⟩:=wX h;obtain⟨e',rfl,m⟩:=xW k;exact A4 (gq e _ o l m)
 |pass=>
  cases st<;>first
   |exact xQ
   |exact cA h
 |expr e=>
  obtain⟨e',p,rfl,k⟩:=B8 h;obtain⟨h1,h2⟩:=an k;exact xR (gq e _ o l h1) (og (mP h2) _ _ _)
 |_=>exact cA l
theorem uJ(c:CB)(st:List Stmt){E:XS}{sc:Scope}{N:List Str}{X:Cx}(o:OkL G sc N X)(l:BH c=true)(h:m5 sc N c st=true):PSs X st (wpB G X.K E c):=by
 cases c with
 |hole=>exact cA l
 |nil=>
  obtain rfl:=nil_of h;exact se
 |cons s r=>
  obtain⟨l1,l2⟩:=an l;obtain⟨s',r',rfl,k⟩:=qv h;obtain⟨h1,h2⟩:=an k;exact lN (BG s _ o l1 h1) (uJ r _ o l2 h2)
end
mutual
theorem AB(hCX:HX CX):∀(c:CS)(st:Stmt){E:XS}{sc:Scope}{N:List Str}{X:Cx},Ok CX G E sc N true X->(∀pins σ H s,Inv X pins σ H s->X.env.scope.kind=.function)->chkS sc N c st=true->PS X st (wpS G X.K E c)
 |.asg g e,st,E,sc,N,X,o,hk,h=>by
  obtain⟨g',e',p,rfl,k⟩:=xi h;obtain⟨h1,h2,h3,h4⟩:=kD k;exact wx (bA hCX e _ o h2) (mJ hCX g _ o h1) (og (mP h3) _ _ _) (oX h1 (mP h4) _) (by rw[lR h1];rfl)
 |.asgc i e,st,E,sc,N,X,o,hk,h=>by
  obtain⟨h0,h⟩:=an h;obtain⟨g',e',sp,rfl,k⟩:=xi h;obtain⟨x,p,rfl,l⟩:=fW k;obtain⟨a,b,c,d,rfl,m⟩:=wY l;obtain⟨h1,h2,h3,h4⟩:=kD m;rw[beq_iff_eq]at h1;rw[bC,beq_iff_eq,beq_iff_eq]at h2;rw[bC,beq_iff_eq]at h4;obtain⟨own,fr,tg,it,cond,elt,rfl⟩:=xm h0;by_cases hl:X.env.scope.names.lookup x=some .local
  ·rcases h4 with q|q
   ·rw[o.cel x q]at hl;cases hl
   obtain⟨q1,q2⟩:=an q;obtain⟨elt',gs,sc',p',e1,r1⟩:=wY h3;cases e1;obtain⟨⟨tg',it',ifs',y⟩,rfl,r2⟩:=jO r1;obtain⟨g0,g1,g2,r3⟩:=kD r2;obtain⟨g3,g4,g5,g6⟩:=kD r3;cases of_decide_eq_true g0;have S:=oN g1;intro pins s σ H D I hw;exact wu (S.comp o) (S.mkOk o) o.calm (we hCX it _ _ o g3)
    (fun C s₀ H₀ fp _=>⟨mJ hCX tg _ (o.comp hCX S C s₀ H₀ fp) g4,AE hCX cond _ (o.comp hCX S C s₀ H₀ fp) g5,bA hCX elt _ (o.comp hCX S C s₀ H₀ fp) g6⟩)
    (by rw[o.names];exact o.nd) (by rw[o.names];exact h1) hl (vY (hk pins σ H s I) hl (of_decide_eq_true q1) (mP q2)) (sC (mP g2) _) pins s σ H D I hw
  ·have hc:sc.names.lookup x=some .cell:=by
    rcases h2 with q|q
    ·exact absurd (o.loc x q) hl
    ·exact q
   exact ps_set (by rw[o.names];exact o.nd) (by rw[o.names];exact h1) (.inr (o.cel x hc)) (bA hCX _ _ o h3) (tZ (by rw[show X.env.kindOf x=_ from o.cel x hc];decide)) (.inl (o.all rfl x))
 |.expr e,st,E,sc,N,X,o,hk,h=>by
  obtain⟨e',p,rfl,k⟩:=B8 h;obtain⟨h1,h2⟩:=an k;exact xR (bA hCX e _ o h1) (og (mP h2) _ _ _)
 |.iff c a b,st,E,sc,N,X,o,hk,h=>by
  obtain⟨c',a',b',p,rfl,k⟩:=dIs_of h;obtain⟨h1,h2,h3⟩:=fP k;exact ps_if (gE hCX c _ o h1) (lg hCX a _ o hk h2) (lg hCX b _ o hk h3)
 |.forr g it b,st,E,sc,N,X,o,hk,h=>by
  obtain⟨g',i',b',p,rfl,k⟩:=dFo_of h;obtain⟨h1,h2,h3,h4⟩:=kD k;exact ps_for o.px o.calm (we hCX it _ _ o h2) (mJ hCX g _ o h1) (lg hCX b _ o hk h4) (sC (mP h3) _)
 |.ret e,st,E,sc,N,X,o,hk,h=>by
  obtain⟨r,p,rfl,k⟩:=wX h;obtain⟨e',rfl,m⟩:=xW k;exact A4 (bA hCX e _ o m)
 |.retN,st,E,sc,N,X,o,hk,h=>by
  obtain⟨r,p,rfl,k⟩:=wX h;obtain rfl:=fi.mp k;exact ps_retN
 |.rais x es,st,E,sc,N,X,o,hk,h=>by
  obtain⟨x',np,es',cp,p,rfl,k⟩:=dRa_of h;obtain⟨h1,h2,h3,m⟩:=kD k;obtain⟨h4,h5⟩:=an m;cases of_decide_eq_true h1;intro pins s σ H D I hw;obtain⟨C,hv,hkp,hq,hw⟩:=hw;obtain⟨u,hu,ru⟩:=o.val _ _ hv;obtain rfl:u=cu C:=ru;have hL:=jE hCX es _ o h5;obtain⟨_,_,rfl,hs⟩:=Aw h5 h4;exact A5 (o.gl h2) hu hkp hq hL o.calm (gp h3).1 (hs _ cp).1 (hs _ _).2 o.made pins s σ H D I hw
 |.tryc x i b su,st,E,sc,N,X,o,hk,h=>by
  obtain⟨b',x',np,n,ss,hp,p,rfl,k⟩:=dTr_of h;obtain⟨h1,h2,h3,m,m'⟩:=and5 k;obtain⟨h4,h5,h6⟩:=fP m;obtain⟨h0,h7,h8⟩:=fP m';cases of_decide_eq_true h1;rw[beq_iff_eq]at h4 h5;cases ss with
  |nil=>exact cA h0
  |cons s0 ss=>
   obtain⟨t1,t2,t3⟩:=o.top rfl;intro pins s σ H D I hw;obtain⟨C,hv,hw⟩:=hw;obtain⟨u,hu,ru⟩:=o.val _ _ hv;obtain rfl:u=cu C:=ru;have O:vo X x n C i (s0::ss) (wpB G X.K N0 su):=
    {nd:=by rw[o.names];exact o.nd,at_:=by rw[o.names];exact h4,loc:=o.loc n h5,gl:=o.gl h2,mg:=hu,db:=(gp h3).1,stk:=t1,fr:=t2,ex:=t3
     su:=fun pins a=>uJ su _ (X:=X.re (X.A.mark (some (.ref a))) false (X.pn++pins) (fun _ _=>False)) ⟨o.names,o.nd,o.loc,o.cel,o.fre,o.glo,o.all rfl,o.val,o.blt⟩ h6 h7}
   exact ps_try (X:=X) (tb:=fun D=>wpB G X.K (lu X.K C i (wpB G X.K N0 su) D) b) (fun pins D ok=>lg hCX b _ (X:=X.re X.A X.calm (X.pn++pins) (gZ X pins D [.ExceptHandler (some (.Name x np)) (some n) (s0::ss) hp]))
    {names:=o.names,top:=fun _=>⟨t1,t2,t3⟩,nd:=o.nd,loc:=o.loc,cel:=o.cel,fre:=o.fre,glo:=o.glo,all:=o.all,own:=o.own,calm:=o.calm,hu:=o.hu,val:=o.val,fn:=o.fn,ini:=o.ini,dic:=o.dic,mak:=o.mak,mth:=o.mth,blt:=o.blt,px:=PassesOwn.looking
     pass:=fun pins' σ' H' s' e s'' J z=>Af O ok o.calm J (by rw[o.cx]at z;exact z)
     made:=fun pins' σ' H' s' a c args h' J hm z=>Ag O ok J hm z
     madeX:=fun pins' σ' H' s' a C' d J m z=>yH O ok J m z
     cx:=o.cx} (fun _ _ _ _ J=>J.ok.kind) h8) pins s σ H D I hw
 |.pass,st,E,sc,N,X,o,hk,h=>by
  cases st<;>first
   |exact xQ
   |exact cA h
 |.brk,st,E,sc,N,X,o,hk,h=>by
  cases st<;>first
   |exact A6
   |exact cA h
 |.cont,st,E,sc,N,X,o,hk,h=>by
  cases st<;>first
   |exact uj
   |exact cA h
theorem lg(hCX:HX CX):∀(c:CB)(st:List Stmt){E:XS}{sc:Scope}{N:List Str}{X:Cx},Ok CX G E sc N true X->(∀pins σ H s,Inv X pins σ H s->X.env.scope.kind=.function)->m5 sc N c st=true->PSs X st (wpB G X.K E c)
 |.hole,_,_,_,_,_,_,_,_=>fun _ _ _ _ _ _ z=>z.elim
 |.nil,st,E,sc,N,X,o,hk,h=>by
  obtain rfl:=nil_of h;exact se
 |.cons s r,st,E,sc,N,X,o,hk,h=>by
  obtain⟨s',r',rfl,k⟩:=qv h;obtain⟨h1,h2⟩:=an k;exact lN (AB hCX s _ o hk h1) (lg hCX r _ o hk h2)
end
end
structure GOk(P:Program)(w:World)(K:aa)(mg:Str->Option Value)(base:Heap)(CX:CXT)(k:Nat)(G:Gam):Prop where
 val:∀x v,G.val x=some v->∃u,mg x=some u/\RelV v u
 fn:∀x n sp dvs,G.fn x n=some (sp,dvs)->∃f fd ps ds j,j<=k/\hV P w K mg base CX j f fd ps sp/\mg x=some (.ref f)/\bJ K (.ref f)=true/\Binds K fd ps ds/\bU dvs ds
 ini:∀x n C sp dvs,G.ini x n=some (C,sp,dvs)->∃f fd ps ds j,j+1<=k/\MkX K C f/\hV P w K mg base CX j f fd ps sp/\mg x=some (.ref C)/\Binds K fd ps ds/\bU dvs ds
 dic:∀a kvs,G.dic a=some kvs->DkIn P w K a kvs
 mak:∀x n C sp dvs,G.mak x n=some (C,sp,dvs)->∃f fd ps ds j,j+1<=k/\Mk K C f/\hV P w K mg base CX j f fd ps sp/\mg x=some (.ref C)/\Binds K fd ps ds/\bU dvs ds
 mth:∀m n C sp dvs,G.mth m n=some (C,sp,dvs)->∃f fd ps ds j,j<=k/\Cls K C/\Meth K C m f/\hV P w K mg base CX j f fd ps sp/\Binds K fd ps ds/\bU dvs ds
 blt:∀x∈gv,mg x=none
noncomputable def lQ(N ps:List Str)(sc:Scope):Bool:=
 decide (sc.kind=.function)&&decide (sc.isCoroutine=false)&&decide (sc.isGenerator=false)&&decide N.Nodup&&decide (N.take ps.length=ps)&&
 ps.all (fun x=>sc.names.lookup x==some .local||sc.names.lookup x==some .cell)&&sc.names.all (fun y=>decide (y.2≠.free))
theorem uw{N ps:List Str}{sc:Scope}(h:lQ N ps sc=true):sY N ps sc:=by
 unfold lQ at h;simp only[aw,bP,decide_eq_true_eq,beq_iff_eq,bC]at h;obtain⟨⟨⟨⟨⟨⟨h1,h2⟩,h3⟩,h4⟩,h5⟩,h6⟩,h7⟩:=h;exact⟨h1,h2,h3,h4,h5,h6,h7⟩
section
variable {P:Program}{w:World}{K:aa}{mg:Str->Option Value}{base:Heap}
theorem BW{x qual:Str}{st:Stmt}{f:Addr}{oc dV kV doc pm cdv ct:Value}{od an:Option Addr}{osl:Array (Option Value)}{N ps:List Str}{k:Nat}{G:Gam}{sp:Sp}{code:CB}(lk:K.lookup f=some ⟨oc,od,.func (aL x qual (bK st) (bj st) (aQ st) dV kV doc pm an cdv ct),osl⟩)(hcd:dW K cdv qual=true)(hd:lQ N ps (aQ st)=true)(hc:m5 (aQ st) N code (bj st)=true)
  (g:GOk P w K mg base (CXx P w) k G)(len:∀vs H Q E,sp vs H Q E->vs.length=ps.length)
  (h:∀vs H Q E,sp vs H Q E->wpB G K (fun _=>E) code {nx:=fun _ H'=>Q .non H',rt:=Q} (start N vs) H):hV P w K mg base (CXx P w) (k+1) f (aL x qual (bK st) (bj st) (aQ st) dV kV doc pm an cdv ct) ps sp:=by
 have S:=uw hd;refine fn_of lk hcd S len fun A outer s H vs Q E hr hsp=>?_;have o:Ok (CXx P w) G (fun _=>E) (aQ st) N true (qe (CXx P w) P w K mg base N qual (aQ st) f cdv A outer s H E):=
  {names:=rfl,top:=fun _=>⟨rfl,rfl,rfl⟩,nd:=S.nd,loc:=fun _ z=>z,cel:=fun _ z=>z,fre:=fun y z=>absurd rfl (S.nofree _ (aY z)),glo:=fun _ z=>z,all:=fun _ _=>rfl,own:=fun _ _=>rfl,calm:=rfl,
   hu:=by have :=hr.units;show _+50<cLine;exact Nat.lt_of_le_of_lt (Nat.add_le_add_left (by decide) _) this
   val:=g.val
   fn:=fun y n sp' dvs e=>by
    obtain⟨f',fd',ps',ds',j,hj,F',hm,hk,hb,hv⟩:=g.fn y n sp' dvs e;exact⟨f',fd',ps',ds',j,F',hr.mono hj,hm,hk,hb,hv⟩
   ini:=fun y n C sp' dvs e=>by
    obtain⟨f',fd',ps',ds',j,hj,M,F',hm,hb,hv⟩:=g.ini y n C sp' dvs e;exact⟨f',fd',ps',ds',j,M,F',hr.mono hj,hm,hb,hv⟩
   dic:=g.dic
   mak:=fun y n C sp' dvs e=>by
    obtain⟨f',fd',ps',ds',j,hj,M,F',hm,hb,hv⟩:=g.mak y n C sp' dvs e;exact⟨f',fd',ps',ds',j,M,F',hr.mono hj,hm,hb,hv⟩
   mth:=fun y n C sp' dvs e=>by
    obtain⟨f',fd',ps',ds',j,hj,c,M,F',hb,hv⟩:=g.mth y n C sp' dvs e;exact⟨f',fd',ps',ds',j,c,M,F',hr.mono hj,hb,hv⟩
   blt:=g.blt,px:=yA,pass:=rk,made:=rm,madeX:=pE,cx:=rfl}
 exact⟨_,lg (fun _ _ _ _ _ z=>zv z) code _ o (fun _ _ _ _ _=>S.kind) hc,h vs H Q E hsp⟩
theorem yk{x qual:Str}{st:Stmt}{f:Addr}{fd:eZ}{N ps:List Str}{k:Nat}{G:Gam}{sp:Sp}{code:CB}(F:Fun K x qual st f fd)(hd:lQ N ps (aQ st)=true)(hc:m5 (aQ st) N code (bj st)=true)
  (g:GOk P w K mg base (CXx P w) k G)(len:∀vs H Q E,sp vs H Q E->vs.length=ps.length)
  (h:∀vs H Q E,sp vs H Q E->wpB G K (fun _=>E) code {nx:=fun _ H'=>Q .non H',rt:=Q} (start N vs) H):hV P w K mg base (CXx P w) (k+1) f fd ps sp:=by
 obtain⟨oc,od,kV,doc,pm,an,cdv,ct,osl,rfl,lk,hcd⟩:=F.ex;exact BW lk hcd hd hc g len h
end
noncomputable def gam(vals:List (Str×V))(fns:List ((Str×Nat)×(Sp×List V)))(inis:List ((Str×Nat)×(Addr×Sp×List V)):=[]) (dics:List (Addr×List (Key×V)):=[]) (maks mths:List ((Str×Nat)×(Addr×Sp×List V)):=[]):Gam:=⟨fun x=>vals.lookup x,fun x n=>fns.lookup (x,n),fun x n=>inis.lookup (x,n),fun a=>dics.lookup a,fun x n=>maks.lookup (x,n),fun m n=>mths.lookup (m,n)⟩
theorem uG{β:Type}{a:Addr}{b:β}:∀{l:List (Addr×β)},l.lookup a=some b->(a,b)∈l
 | [],h=>nomatch h
 | (k,v)::l,h=>by
  rw[a6]at h;cases q:(a==k)with
  |true=>
   rw[q]at h;cases h;rw[beq_iff_eq.mp q];exact aH
  |false=>
   rw[q]at h;exact aJ _ (uG h)
section
variable {P:Program}{w:World}{K:aa}{mg:Str->Option Value}{base:Heap}{CX:CXT}
theorem GOk.start{vals:List (Str×V)}(hv:∀x v,(x,v)∈vals->∃u,mg x=some u/\RelV v u)(hb:∀x∈gv,mg x=none){dics:List (Addr×List (Key×V))}(hd:∀a kvs,(a,kvs)∈dics->DkIn P w K a kvs:=by intro a kvs h;exact nomatch h):GOk P w K mg base CX 0 (gam vals [] [] dics):=
 ⟨fun x v e=>hv x v (aY e),fun x n sp dvs e=>(nomatch e),fun x n C sp dvs e=>(nomatch e),fun a kvs e=>hd a kvs (uG (show gY a dics=some kvs from e)),fun x n C sp dvs e=>(nomatch e),fun x n C sp dvs e=>(nomatch e),hb⟩
theorem GOk.add{k n:Nat}{vals:List (Str×V)}{fns:List ((Str×Nat)×(Sp×List V))}{x:Str}{f:Addr}{fd:eZ}{ps:List Str}{sp:Sp}{ds:List Value}{dvs:List V}{inis maks mths:List ((Str×Nat)×(Addr×Sp×List V))}{dics:List (Addr×List (Key×V))}(g:GOk P w K mg base CX k (gam vals fns inis dics maks mths))
  (F:hV P w K mg base CX (k+1) f fd ps sp)(hm:mg x=some (.ref f))(hk:bJ K (.ref f)=true)(hb:Binds K fd ps ds)(hd:bU dvs ds):GOk P w K mg base CX (k+1) (gam vals (((x,n),(sp,dvs))::fns) inis dics maks mths):=by
 refine⟨g.val,fun y m sp' dvs' e=>?_,fun y m C sp' dvs' e=>?_,g.dic,fun y m C sp' dvs' e=>?_,fun y m C sp' dvs' e=>?_,g.blt⟩
 rotate_left
 rotate_left
 ·obtain⟨f',fd',ps',ds',j,hj,r⟩:=g.mak y m C sp' dvs' e
  exact⟨f',fd',ps',ds',j,dQ hj,r⟩
 ·obtain⟨f',fd',ps',ds',j,hj,r⟩:=g.mth y m C sp' dvs' e
  exact⟨f',fd',ps',ds',j,dQ hj,r⟩
 rotate_left
 ·obtain⟨f',fd',ps',ds',j,hj,r⟩:=g.ini y m C sp' dvs' e
  exact⟨f',fd',ps',ds',j,dQ hj,r⟩
 have e':gY (y,m) (((x,n),(sp,dvs))::fns)=some (sp',dvs'):=e;rw[a6]at e';cases q:((y,m)==(x,n))with
 |true=>
  rw[q]at e';have e2:(y,m)=(x,n):=eq_of_beq q;cases e2;cases e';exact⟨f,fd,ps,ds,k+1,aq _,F,hm,hk,hb,hd⟩
 |false=>
  rw[q]at e';obtain⟨f',fd',ps',ds',j,hj,r⟩:=g.fn y m sp' dvs' e';exact⟨f',fd',ps',ds',j,dQ hj,r⟩
end
section
variable {K:aa}{H:Hp}{Q:VK}{i j:Int}
theorem add_ii:i9 K .Add (.int i) (.int j) H Q↔Q (.int (i+j)) H:=by
 simp[i9,rI0,rCat,xM,xN]
theorem mul_ii:i9 K .Mult (.int i) (.int j) H Q↔sZ i j/\Q (.int (i*j)) H:=by simp[i9,rI,rRep,rRepS]
theorem BA:i9 K .Mod (.int i) (.int j) H Q↔0<j/\Q (.int (i%j)) H:=by simp[i9,rI]
theorem div_ii:i9 K .FloorDiv (.int i) (.int j) H Q↔CDiv i j/\Q (.int (i/j)) H:=by simp[i9,rI]
theorem pow_ii:i9 K .Pow (.int i) (.int j) H Q↔Cw i j/\Q (.int (i^j.toNat)) H:=by simp[i9,rI]
theorem add_ss{x y:Str}:i9 K .Add (.str x) (.str y) H Q↔x.length+y.length<=sizeLine/\Q (.str (x++y)) H:=by simp[i9,rI0,rCat,xM,xN]
theorem neg_i:rUn K .USub (.int i) H Q↔Q (.int (-i)) H:=by simp[rUn,rU]
theorem lt_ii:ej K .Lt (.int i) (.int j) H Q↔Q (.bl (decide (i<j))) H:=by simp[ej,rI0]
theorem BI:ej K .LtE (.int i) (.int j) H Q↔Q (.bl (decide (i<=j))) H:=by simp[ej,rI0]
theorem uY:ej K .Gt (.int i) (.int j) H Q↔Q (.bl (decide (j<i))) H:=by simp[ej,rI0]
theorem ge_ii:ej K .GtE (.int i) (.int j) H Q↔Q (.bl (decide (j<=i))) H:=by simp[ej,rI0]
theorem xJ{d:D}:Rep K H d (.int i)↔d=.int i:=by
 cases d<;>simp[Rep,eq_comm]
theorem xI{d:D}{x:Str}:Rep K H d (.str x)↔d=.str x:=by
 cases d<;>simp[Rep,eq_comm]
theorem B3:ej K .Eq (.int i) (.int j) H Q↔Q (.bl (decide (i=j))) H:=by
 simp only[ej,rEqD,xJ];constructor
 ·rintro⟨_,_,rfl,rfl,_,q⟩;exact q
 ·intro q;exact⟨_,_,rfl,rfl,aW _,q⟩
theorem By:ej K .NotEq (.int i) (.int j) H Q↔Q (.bl (!decide (i=j))) H:=by
 simp only[ej,rNeD,xJ];constructor
 ·rintro⟨_,_,rfl,rfl,_,q⟩;exact q
 ·intro q;exact⟨_,_,rfl,rfl,aW _,q⟩
theorem eq_ss{x y:Str}:ej K .Eq (.str x) (.str y) H Q↔Q (.bl (decide (x=y))) H:=by
 simp only[ej,rEqD,xI];constructor
 ·rintro⟨_,_,rfl,rfl,_,q⟩
  simpa[eqD,gN]using q
 ·intro q
  exact⟨_,_,rfl,rfl,aW _,by simpa[eqD,gN]using q⟩
theorem ne_ss{x y:Str}:ej K .NotEq (.str x) (.str y) H Q↔Q (.bl (!decide (x=y))) H:=by
 simp only[ej,rNeD,xI];constructor
 ·rintro⟨_,_,rfl,rfl,_,q⟩
  simpa[eqD,gN]using q
 ·intro q
  exact⟨_,_,rfl,rfl,aW _,by simpa[eqD,gN]using q⟩
theorem len_s{z:Str}:rBf K .len [.str z] H Q↔z.length<=sizeLine/\Q (.int z.length) H:=by simp[rBf]
theorem idx_s{z:Str}:rIx K (.str z) (.int i) H Q↔∃c,z.length<=sizeLine/\atI z.cps.toList i=some c/\Q (.str ⟨#[c]⟩) H:=by
 simp[rIx,rIxL,rIxT,rIxS]
theorem cut_s{z:Str}{lo hi:Option Int}:pZ K (.str z) lo hi H Q↔z.length<=sizeLine/\Q (.str (vf z lo hi)) H:=by
 simp[pZ,rSlL,rSlT,rSlS,rSlW]
end
structure qk(J:It)(n:Nat)(it:Nat->V->Hp->Prop)(Hc:Hp->Prop):Prop where
 go:∀i H,Hc H->i<n->J.go i H
 stop:∀i H,Hc H->n<=i->J.stop i H
 yld:∀i H x H',Hc H->i<n->J.yld i H x H'->it i x H'/\aN H H'
section
variable {K:aa}
theorem cW{a:Addr}{xs:List V}:qk (Itl K a) xs.length (fun i x _=>xs[i]? =some x) (fun H=>SqL K H a xs) where
 go:=fun i H h hi=>⟨xs,xs[i],h,by simp[hi]⟩
 stop:=fun i H h hi=>⟨xs,h,hi⟩
 yld:=fun i H x H' h hi y=>by
  obtain⟨e,y⟩:=y;subst e;exact⟨y xs h,aN.refl _⟩
theorem seq_tup{a:Addr}{xs:List V}:qk (Itt K a) xs.length (fun i x _=>xs[i]? =some x) (fun H=>SqT K H a xs) where
 go:=fun i H h hi=>⟨xs,xs[i],h,by simp[hi]⟩
 stop:=fun i H h hi=>⟨xs,h,hi⟩
 yld:=fun i H x H' h hi y=>by
  obtain⟨e,y⟩:=y;subst e;exact⟨y xs h,aN.refl _⟩
theorem fB{lo:Int}{n:Nat}:qk (Itr lo n) n (fun i x _=>x=.int (lo+i)) (fun _=>True) where
 go:=fun i H _ hi=>hi
 stop:=fun i H _ hi=>hi
 yld:=fun i H x H' _ hi y=>by
  obtain⟨e,y⟩:=y;subst e;exact⟨y,aN.refl _⟩
theorem seq_str{z:Str}:qk (Its z) z.length (fun i x _=>∃c,z.cps[i]? =some c/\x=.str ⟨#[c]⟩) (fun _=>True) where
 go:=fun i H _ hi=>hi
 stop:=fun i H _ hi=>hi
 yld:=fun i H x H' _ hi y=>by
  obtain⟨e,y⟩:=y;subst e;exact⟨y,aN.refl _⟩
theorem aF{H:Hp}{p:Addr}{o:HO}(h:H p=none):aN H (upd H p o):=fun b u e=>by rw[bo (bD e h)];exact e
theorem jI{H H1:Hp}{p:Addr}{o:HO}(h:upd H p o=H1)(hp:H p=none):aN H H1/\H1 p=some o:=by subst h;exact⟨aF hp,aE⟩
noncomputable def ForB(J:It)(g:TG)(tb:TS)(D:Ends)(σ:L2.St)(H:Hp):Prop:=∃W:Nat->Nat->L2.St->Hp->Prop,(∃m,W 0 m σ H)/\∀i m σ H,W i m σ H->
 (J.stop i H/\D.nx σ H)\/(J.go i H/\∃N:L2.St->Hp->Prop,(∀σ' H',N σ' H'->∃m',m'<m/\W (i+1) m' σ' H')/\∀x H',J.yld i H x H'->g x σ H' fun σ2 H2=>tb {D with nx:=N,ct:=N,bk:=D.nx} σ2 H2)
noncomputable def yw(J:It)(g:TG)(tc:TT)(te:TE)(τ0:L2.St)(H1:Hp)(Q:VK):Prop:=∃W:Nat->Nat->L2.St->List V->Hp->Prop,(∃m,W 0 m τ0 [] H1)/\
 ∀i m τ acc H2,W i m τ acc H2->(J.stop i H2/\∀l,H2 l=none->Q (.ref l) (upd H2 l (.lst acc)))\/(J.go i H2/\∃N:L2.St->List V->Hp->Prop,(∀τ' acc' H',N τ' acc' H'->∃m',m'<m/\W (i+1) m' τ' acc' H')/\
  ∀x H3,J.yld i H2 x H3->g x τ H3 fun τ4 H4=>tc τ4 H4 fun b H5=>if b=true then te τ4 H5 fun v H6=>acc.length<sizeLine/\N τ4 (acc++[v]) H6 else N τ4 acc H5)
theorem for_seq{J:It}{n:Nat}{it:Nat->V->Hp->Prop}{Hc:Hp->Prop}{g:TG}{tb:TS}{D:Ends}{σ:L2.St}{H:Hp}(S:qk J n it Hc)(Pv:Nat->L2.St->Hp->Prop)(h0:Pv 0 σ H)(hl:∀i σ H,i<=n->Pv i σ H->Hc H)
  (hs:∀i x σ H H',i<n->Pv i σ H->it i x H'->aN H H'->g x σ H' fun σ2 H2=>tb {D with nx:=Pv (i+1),ct:=Pv (i+1),bk:=D.nx} σ2 H2) (hd:∀σ H,Pv n σ H->D.nx σ H):
  ForB J g tb D σ H:=by
 refine⟨fun i m σ H=>m=n-i/\i<=n/\Pv i σ H,⟨n,by simp,aW _,h0⟩,?_⟩;rintro i m σ H ⟨rfl,hi,p⟩;have q:=hl i σ H hi p;by_cases hlt:i<n
 ·refine .inr ⟨S.go i H q hlt,Pv (i+1),fun σ' H' p'=>⟨n-(i+1),by omega,rfl,hlt,p'⟩,fun x H' y=>?_⟩
  obtain⟨y1,y2⟩:=S.yld i H x H' q hlt y;exact hs i x σ H H' hlt p y1 y2
 ·have e:i=n:=by omega
  subst e;exact .inl ⟨S.stop i H q (aq _),hd σ H p⟩
theorem fJ{J:It}{n:Nat}{it:Nat->V->Hp->Prop}{Hc:Hp->Prop}{g:TG}{te:TE}{Q:VK}{τ0:L2.St}{H1:Hp}(S:qk J n it Hc)(hn:n<=sizeLine)(hc:∀H,aN H1 H->Hc H)
  (F:Nat->V->Hp->Prop)(Fm:∀i v H H',aN H H'->F i v H->F i v H')(T:L2.St->Prop)(hT:T τ0)
  (step:∀i x τ H3 (R:L2.St->V->Hp->Prop),i<n->T τ->aN H1 H3->it i x H3->(∀τ' v H6,T τ'->aN H3 H6->F i v H6->R τ' v H6)->g x τ H3 fun τ4 H4=>te τ4 H4 (R τ4))
  (fin:∀vs H2 l,vs.length=n->(∀(i:Nat) v,vs[i]? =some v->F i v H2)->aN H1 H2->H2 l=none->Q (.ref l) (upd H2 l (.lst vs))):
  yw J g tYes te τ0 H1 Q:=by
 refine⟨fun i m τ acc H2=>m=n-i/\i<=n/\T τ/\acc.length=i/\aN H1 H2/\∀(k:Nat) v,acc[k]? =some v->F k v H2,⟨n,by simp,aW _,hT,rfl,aN.refl _,fun k v e=>by simp at e⟩,?_⟩;rintro i m τ acc H2 ⟨rfl,hi,ht,hl,sm,hF⟩;have q:=hc H2 sm;by_cases hlt:i<n
 ·refine .inr ⟨S.go i H2 q hlt,fun τ' acc' H'=>T τ'/\acc'.length=i+1/\aN H1 H'/\∀(k:Nat) v,acc'[k]? =some v->F k v H',fun τ' acc' H' ⟨a,b,c,d⟩=>⟨n-(i+1),by omega,rfl,hlt,a,b,c,d⟩,fun x H3 y=>?_⟩
  obtain⟨y1,y2⟩:=S.yld i H2 x H3 q hlt y;refine step i x τ H3 (fun τ' v H6=>acc.length<sizeLine/\T τ'/\(acc++[v]).length=i+1/\aN H1 H6/\∀(k:Nat) v',(acc++[v])[k]? =some v'->F k v' H6) hlt ht (sm.trans y2) y1 fun τ' v H6 ht' s6 f6=>⟨by omega,ht',by simp[hl],(sm.trans y2).trans s6,fun k v' e=>?_⟩;by_cases hk:k<acc.length
  ·rw[i7 hk]at e
   exact Fm k v' H2 H6 (y2.trans s6) (hF k v' e)
  ·rw[ff (by omega)]at e
   have hk0:k-acc.length=0:=by
    have :=(aU.mp e).1
    simp at this;omega
   rw[hk0]at e;have hk':k=i:=by omega
   simp at e;subst e;rw[hk'];exact f6
 ·have e:i=n:=by omega
  subst e;exact .inl ⟨S.stop i H2 q (aq _),fun l hl'=>fin acc H2 l hl hF sm hl'⟩
theorem d5{wi:TI}{g:TG}{tc:TT}{te:TE}{mk:L2.St->L2.St}{σ:L2.St}{H:Hp}{Q:VK}(h:wi σ H fun J H1=>yw J g tc te (mk σ) H1 Q):qz wi g tc te mk σ H Q:=h
theorem jd{wi:TI}{g:TG}{tb:TS}{D:Ends}{σ:L2.St}{H:Hp}(h:wi σ H fun J H1=>ForB J g tb D σ H1):tFor wi g tb D σ H:=h
theorem vm{i:Nat}{z:Str}{σ:L2.St}{H:Hp}{R:It->Hp->Prop}(hv:σ[i]? =some (some (.str z)))(h:R (Its z) H):wN K (rM i) σ H R:=⟨_,hv,.inr (.inr ⟨z,rfl,h⟩)⟩
theorem cf{i:Nat}{a:Addr}{xs:List V}{σ:L2.St}{H:Hp}{R:It->Hp->Prop}(hv:σ[i]? =some (some (.ref a)))(hq:SqL K H a xs)(h:R (Itl K a) H):wN K (rM i) σ H R:=⟨_,hv,.inl ⟨a,rfl,⟨xs,hq⟩,h⟩⟩
theorem vk{i:Nat}{a:Addr}{xs:List V}{σ:L2.St}{H:Hp}{R:It->Hp->Prop}(hv:σ[i]? =some (some (.ref a)))(hq:SqT K H a xs)(h:R (Itt K a) H):wN K (rM i) σ H R:=⟨_,hv,.inr (.inl ⟨a,rfl,⟨xs,hq⟩,h⟩)⟩
theorem bool_list{vs:List V}{n:Nat}{b:Nat->Bool}(hl:vs.length=n)(h:∀(i:Nat) v,vs[i]? =some v->v=.bl (b i)):vs=((aM n).map b).map V.bl:=by
 apply cR
 ·simp[hl]
 ·intro i h1 h2
  have :=h i vs[i] (by simp[h1])
  simp[this]
theorem pF{α:Type}(l:List α)(d:α)(f:α->Bool):((aM l.length).map fun i=>f (l.getD i d)).all id=l.all f:=by
 rw[List.all_map,fM];simp only[bP,bX,Function.comp,id];constructor
 ·intro h c hc
  obtain⟨i,hi,rfl⟩:=aZ.mp hc;have :=h i hi;rw[ah,ae hi]at this;exact this
 ·intro h i hi
  have :=h _ (bp hi)
  rw[ah,ae hi];exact this
theorem getD_some{α:Type}{l:List α}{i:Nat}{d x:α}(h:l[i]? =some x):l.getD i d=x:=by
 rw[ah,h];rfl
theorem wH(x y:Str):(x++y).length=x.length+y.length:=by
 show(x.cps++y.cps).size=_;rw[dG];rfl
end
noncomputable def HasFn(K:aa)(x:Str)(st:Stmt):Prop:=∃(f:Addr)(oc:Value)(od an:Option Addr)(osl:Array (Option Value))(kV doc pm cdv ct:Value),cQ K bh x=some (some (.ref f))/\
 K.lookup f=some ⟨oc,od,.func (aL x x (bK st) (bj st) (aQ st) .none kV doc pm an cdv ct),osl⟩/\dW K cdv x=true/\bJ K (.ref f)=true
theorem BS{K:aa}{x:Str}{st:Stmt}{f:Addr}{oc:Value}{od an:Option Addr}{osl:Array (Option Value)}{kV doc pm cdv ct:Value}(a:cQ K bh x=some (some (.ref f)))
  (l:K.lookup f=some ⟨oc,od,.func (aL x x (bK st) (bj st) (aQ st) .none kV doc pm an cdv ct),osl⟩)(c:dW K cdv x=true)(k:bJ K (.ref f)=true):HasFn K x st:=
 ⟨f,oc,od,an,osl,kV,doc,pm,cdv,ct,a,l,c,k⟩
structure Def(K:aa)(mg:Str->Option Value)(x:Str)(st:Stmt):Prop where
 ex:∃f fd,Fun K x x st f fd/\mg x=some (.ref f)
theorem HasFn.def{K:aa}{h:Heap}{mg:Str->Option Value}{x:Str}{st:Stmt}(X:K.In h)(Gm:h.Ns bh mg)(H:HasFn K x st):Def K mg x st:=by
 obtain⟨f,oc,od,an,osl,kV,doc,pm,cdv,ct,a,l,c,k⟩:=H;exact⟨f,_,wO l c k,dc X Gm a⟩
section
variable {P:Program}{w:World}{K:aa}{mg:Str->Option Value}{base:Heap}
theorem eJ{k:Nat}{vals:List (Str×V)}{fns:List ((Str×Nat)×(Sp×List V))}{x:Str}{st:Stmt}{N ps:List Str}{sp:Sp}{code:CB}{inis maks mths:List ((Str×Nat)×(Addr×Sp×List V))}{dics:List (Addr×List (Key×V))}(g:GOk P w K mg base (CXx P w) k (gam vals fns inis dics maks mths))(d:Def K mg x st)
  (hc:(lQ N ps (aQ st)&&m5 (aQ st) N code (bj st))=true)
  (hb:∀(kV doc pm:Value)(an:Option Addr)(cdv ct:Value)(us:List Value),us.length=ps.length->lE (aL x x (bK st) (bj st) (aQ st) .none kV doc pm an cdv ct) ⟨us,[]⟩=pure (ps.zip us))
  (len:∀vs H Q E,sp vs H Q E->vs.length=ps.length)
  (h:∀vs H Q E,sp vs H Q E->wpB (gam vals fns inis dics maks mths) K (fun _=>E) code {nx:=fun _ H'=>Q .non H',rt:=Q} (L2.start N vs) H):GOk P w K mg base (CXx P w) (k+1) (gam vals (((x,ps.length),(sp,[]))::fns) inis dics maks mths):=by
 rw[aw]at hc;obtain⟨f,fd,F,hm⟩:=d.ex;exact g.add (n:=ps.length) (yk F hc.1 hc.2 g len h) hm F.kp (F.binds hb) .nil
end
end R
set_option hygiene false in
local macro_rules | `(tactic| walk_at "wp") => `(tactic| simp only [_root_.R.wpB, _root_.R.wpS, _root_.R.wpE, _root_.R.wpT, _root_.R.wpL, _root_.R.wpO, _root_.R.wpC, _root_.R.wpG, _root_.R.wpGs, _root_.R.wpI, _root_.L2.pW, _root_.L2.tRet, _root_.L2.An, _root_.L2.tX, _root_.L2.rO, _root_.L2.Aq, _root_.L2.tIfS, _root_.L2.As, _root_.L2.tOrV, _root_.L2.Ap, _root_.L2.tNot, _root_.L2.tAnd, _root_.L2.tOr, _root_.L2.tV, _root_.R.tU, _root_.L2.tIf, _root_.L2.tCB, _root_.L2.nr, _root_.L2.tW, _root_.L2.rM, _root_.L2.tC, _root_.L2.tOp, _root_.L2.tUn, _root_.L2.oB, _root_.L2.tTup, _root_.L2.tLst, _root_.L2.tY, _root_.L2.tBM, _root_.L2.tBM0, _root_.L2.tSl, _root_.L2.Ao, _root_.L2.rN, _root_.R.cv, _root_.L2.kJ, _root_.L2.gTup, _root_.L2.BU, _root_.L2.gNil, _root_.R.CGs.len, _root_.L2.BP, _root_.L2.BO, _root_.L2.BQ, _root_.L2.iEnum, _root_.List.getElem?_cons_zero, _root_.List.getElem?_cons_succ, _root_.Option.some.injEq, _root_.exists_eq_left', _root_.exists_eq_left, _root_.L2.V.bl.injEq, _root_.L2.V.int.injEq, _root_.L2.V.str.injEq, _root_.List.set_cons_zero, _root_.List.set_cons_succ, _root_.R.CL.len, _root_.R.Ty.t, _root_.R.add_ii, _root_.R.mul_ii, _root_.R.BA, _root_.R.div_ii, _root_.R.pow_ii, _root_.R.add_ss, _root_.R.neg_i, _root_.R.lt_ii, _root_.R.BI, _root_.R.uY, _root_.R.ge_ii, _root_.R.B3, _root_.R.By, _root_.R.eq_ss, _root_.R.ne_ss, _root_.R.len_s, _root_.R.idx_s, _root_.R.cut_s, _root_.List.append_nil, _root_.R.jZ, _root_.List.map_cons, _root_.List.map_nil, _root_.List.nil_append, _root_.List.cons_append])
namespace Cp
open PySem R
noncomputable def wA:List Str:=["thing"]
noncomputable def oY:List Str:=["thing"]
noncomputable def pC:CB:=
  (.cons (.ret (.and (.bfn .isinstance (.cons (.var 0) (.cons (.ty .int) .nil))) (.not (.bfn .isinstance (.cons (.var 0) (.cons (.ty .bool) .nil))))))
  .nil)
noncomputable def y6:List Str:=["thing"]
noncomputable def qK:List Str:=["thing"]
noncomputable def ri:CB:=
  (.cons (.iff (.not (.bfn .isinstance (.cons (.var 0) (.cons (.ty .str) .nil))))
  (.cons (.ret (.con (.bool false)))
  .nil)
  .nil)
  (.cons (.iff (.not (.chain .LtE .LtE (.con (.int 1)) (.bfn .len (.cons (.var 0) .nil)) (.glo "LONGEST_NAME")))
  (.cons (.ret (.con (.bool false)))
  .nil)
  .nil)
  (.cons (.ret (.bfn .all (.cons (.comp ["sign"] [] (.name 0) (.seq (.var 0)) .no (.cmp .In (.var 0) (.glo "LETTERS"))) .nil)))
  .nil)))
noncomputable def so:List Str:=["thing"]
noncomputable def lU:List Str:=["thing"]
noncomputable def mj:CB:=
  (.cons (.ret (.and (.call "is_whole" (.cons (.var 0) .nil)) (.cmp .In (.var 0) (.tup (.cons (.con (.int 0)) (.cons (.con (.int 1)) .nil))))))
  .nil)
noncomputable def oS:List Str:=["thing"]
noncomputable def jK:List Str:=["thing"]
noncomputable def jX:CB:=
  (.cons (.iff (.or (.not (.bfn .isinstance (.cons (.var 0) (.cons (.ty .tuple) .nil)))) (.cmp .Gt (.bfn .len (.cons (.var 0) .nil)) (.glo "MOST_PLACES")))
  (.cons (.ret (.con (.bool false)))
  .nil)
  .nil)
  (.cons (.ret (.bfn .all (.cons (.comp ["part"] [] (.name 0) (.seq (.var 0)) .no (.call "is_reading" (.cons (.var 0) .nil))) .nil)))
  .nil))
end Cp
set_option maxHeartbeats 1000000
namespace Cp
open PySem PySem.Spec PyProof.Rows L2 R
noncomputable def fh:Option HO->String
 |some (.lst _)=>"list"
 |some (.frz _ (.lst _))=>"list"
 |some (.tup _)=>"tuple"
 |some (.dK _)=>"dict"
 |some (.dT _)=>"dict"
 |_=>"?"
noncomputable def tyName(H:Hp):V->String
 |.non=>"NoneType"
 |.bl _=>"bool"
 |.int _=>"int"
 |.str _=>"str"
 |.ref a=>fh (H a)
 |_=>"?"
noncomputable def Known(H:Hp)(x:V):Prop:=tyName H x≠"?"
theorem Known.same{H H':Hp}{x:V}(h:Known H x)(s:aN H H'):Known H' x/\tyName H' x=tyName H x:=by
 cases x with
 |ref a=>
  have h':fh (H a)≠"?":=h;show fh (H' a)≠"?"/\fh (H' a)=fh (H a);cases e:H a with
  |none=>rw[e]at h';exact absurd rfl h'
  |some o=>rw[s a o e];rw[e]at h';exact⟨h',rfl⟩
 |_=>exact⟨h,rfl⟩
theorem Known.ty{K:aa}{H:Hp}{x:V}(h:Known H x):ju K H x (.type (tyName H x)):=by
 cases x with
 |non=>exact .non
 |bl b=>exact .bl b
 |int i=>exact .int i
 |str s=>exact .str s
 |ref a=>
  have h':fh (H a)≠"?":=h;show ju K H (.ref a) (.type (fh (H a)));cases e:H a with
  |none=>rw[e]at h';exact absurd rfl h'
  |some o=>
   rw[e]at h';cases o with
   |lst xs=>exact .lst e
   |tup xs=>exact .tup e
   |dK kvs=>exact .dK e
   |dT kvs=>exact .dT e
   |frz ob u=>
    cases u with
    |lst xs=>exact .frz e
    |_=>exact absurd rfl h'
   |_=>exact absurd rfl h'
 |_=>exact absurd rfl h
theorem Known.mem{H:Hp}{x:V}(h:Known H x):tyName H x∈["NoneType","bool","int","str","list","tuple","dict"]:=by
 cases x with
 |ref a=>
  have h':fh (H a)≠"?":=h;show fh (H a)∈_;cases e:H a with
  |none=>rw[e]at h';exact absurd rfl h'
  |some o=>
   rw[e]at h';cases o with
   |lst xs=>simp[fh]
   |tup xs=>simp[fh]
   |dK kvs=>simp[fh]
   |dT kvs=>simp[fh]
   |frz ob u=>
    cases u with
    |lst xs=>simp[fh]
    |_=>exact absurd rfl h'
   |_=>exact absurd rfl h'
 |_=>first
  |exact absurd rfl h
  |simp[tyName]
noncomputable def fS(a b:String):Bool:=a==b||(a=="bool"&&b=="int")
theorem kit_ty(K:aa):∀(a:String)(t:Ty),a∈["NoneType","bool","int","str","list","tuple","dict"]->bI K (.type a) (.type t.t)=some (fS a t.t):=by
 intro a t h;simp only[aO,d9,or_false]at h;rcases h with rfl|rfl|rfl|rfl|rfl|rfl|rfl<;>cases t<;>rfl
theorem isi{K:aa}{H:Hp}{x:V}{Q:VK}(h:Known H x)(t:Ty)(q:Q (.bl (fS (tyName H x) t.t)) H):rBf K .isinstance [x,.ty t.t] H Q:=
 .inl ⟨x,t.t,_,_,rfl,h.ty,kit_ty K _ t h.mem,q⟩
theorem ll{H:Hp}{i:Int}:Known H (.int i):=by show "int"≠"?";decide
theorem kn_bl{H:Hp}{i:Bool}:Known H (.bl i):=by show "bool"≠"?";decide
theorem kn_non{H:Hp}:Known H .non:=by show "NoneType"≠"?";decide
theorem o4{H:Hp}{x:Str}:Known H (.str x):=by show "str"≠"?";decide
theorem mS{H:Hp}{a:Addr}{xs:List V}(h:H a=some (.tup xs)):Known H (.ref a):=by show fh (H a)≠"?";rw[h];show "tuple"≠"?";decide
theorem sG{H:Hp}{a:Addr}{xs:List V}(h:H a=some (.lst xs)):Known H (.ref a):=by show fh (H a)≠"?";rw[h];show "list"≠"?";decide
noncomputable def isWhole:V->Bool
 |.int _=>true
 |_=>false
noncomputable def aG:V->Bool
 |.int i=>i==0||i==1
 |_=>false
noncomputable def spB(f:V->Bool):Sp:=fun vs H Q _=>∃x,vs=[x]/\Known H x/\∀H',aN H H'->Q (.bl (f x)) H'
theorem sub_int{H:Hp}{x:V}(h:Known H x):(fS (tyName H x) "int"&& !fS (tyName H x) "bool")=isWhole x:=by
 cases x with
 |ref a=>
  have h':fh (H a)≠"?":=h;show(fS (fh (H a)) "int"&& !fS (fh (H a)) "bool")=false;unfold fh;split <;>rfl
 |_=>rfl
theorem tO{G:Gam}{K:aa}:Sat G K (spB isWhole) pC oY:=by
 rintro vs H Q E ⟨x,rfl,hk,q⟩;unfold pC;change wpB G K _ _ _ [some x] H;walk_at "wp";refine isi hk .int ⟨_,rfl,?_⟩;have e:=sub_int hk;cases h1:fS (tyName H x) "int" with
 |false=>
  rw[h1,bY]at e;have q1:=q H (aN.refl H);rw[<-e]at q1;simpa[Ty.t,h1]using q1
 |true=>
  rw[h1,cy]at e;have q1:=q H (aN.refl H);rw[<-e]at q1;simp only[Ty.t,h1,if_true];exact isi hk .bool ⟨_,rfl,q1⟩
theorem pU{G:Gam}{K:aa}(g1:G.fn "is_whole" 1=some (spB isWhole,[])):
  Sat G K (spB aG) mj lU:=by
 rintro vs H Q E ⟨x,rfl,hk,q⟩;unfold mj;change wpB G K _ _ _ [some x] H;walk_at "wp";refine⟨_,_,g1,x,rfl,hk,fun H1 s1=>⟨_,rfl,?_⟩⟩;cases x with
 |int i=>
  refine⟨by decide,fun p hp=>.inr ⟨p,_,rfl,.inr (SqT.of aE),rfl,rfl,?_⟩⟩;have q1:=q _ (s1.trans (aF (o:=.tup [.int 0,.int 1]) hp));have e:(if false=true then !inV (.int i) [.int 0,.int 1]else inV (.int i) [.int 0,.int 1])=aG (.int i):=by
   show((0:Int)==i||((1:Int)==i||false))=(i==0||i==1);rw[nj,Bool.beq_comm,Bool.beq_comm (a:=(1:Int))]
  rw[e];exact q1
 |_=>exact q H1 s1
noncomputable def ja(c:Nat):Bool:=decide (97<=c/\c<=122)
noncomputable def dZ(z:Str):Bool:=decide (1<=z.length/\z.length<=8)&&z.cps.toList.all ja
noncomputable def isName:V->Bool
 |.str z=>dZ z
 |_=>false
noncomputable def LETTERS:Str:="abcdefghijklmnopqrstuvwxyz"
theorem uL(c:Nat):decide (c∈LETTERS.cps.toList)=ja c:=by
 unfold ja;rw[show LETTERS.cps.toList=List.range' 97 26 by decide+kernel,decide_eq_decide,List.mem_range'_1];exact⟨fun h=>⟨h.1,Nat.le_of_lt_succ h.2⟩,fun h=>⟨h.1,Nat.lt_succ_of_le h.2⟩⟩
theorem wM{K:aa}{H:Hp}{c:Nat}{Q:VK}(q:Q (.bl (ja c)) H):ej K .In (.str ⟨#[c]⟩) (.str LETTERS) H Q:=by
 refine .inl ⟨_,_,rfl,rfl,?_⟩;rw[StrLaws.found_one,uL];exact q
theorem wG:(20000:Nat)<=sizeLine:=by decide
noncomputable def spN:Sp:=fun vs H Q _=>∃x,vs=[x]/\Known H x/\(∀z,x=.str z->z.length<=20000)/\∀H',aN H H'->Q (.bl (isName x)) H'
theorem sub_str{H:Hp}{x:V}(h:Known H x):fS (tyName H x) "str"=(match x with |.str _=>true|_=>false):=by
 cases x with
 |ref a=>
  show fS (fh (H a)) "str"=false;unfold fh;split <;>rfl
 |_=>rfl
theorem vP{G:Gam}{K:aa}(v1:G.val "LETTERS"=some (.str LETTERS))(v2:G.val "LONGEST_NAME"=some (.int 8)):
  Sat G K spN ri qK:=by
 rintro vs H Q E ⟨x,rfl,hk,hz,q⟩;unfold ri;change wpB G K _ _ _ [some x] H;walk_at "wp";refine isi hk .str ⟨_,rfl,?_⟩;rw[show Ty.t .str="str" from rfl,sub_str hk];cases x with
 |str z=>
  have hz:=hz z rfl;have hl:z.length<=sizeLine:=aI hz wG;have all:∀R:VK,(∀H',aN H H'->R (.bl (z.cps.toList.all ja)) H')->qz (wN K (rM 0)) (kJ 0) tYes (tOp (ej K .In) (rM 0) fun σ H Q=>∃v,G.val "LETTERS"=some v/\Q v H) (jZ ["sign"] []) [some (.str z)] H fun x H2=>rBf K .all [x] H2 R:=by
   intro R hR;refine d5 (vm rfl (fJ seq_str hl (fun _ _=>trivial) (fun i v _=>v=.bl (ja (z.cps.toList.getD i 0))) (fun _ _ _ _ _ h=>h) (fun τ=>∃t,τ=[t]) ⟨none,rfl⟩ ?_ ?_))
   ·rintro i x τ H3 R hi ⟨t,rfl⟩ s3 ⟨c,hc,rfl⟩ k
    refine⟨_,rfl,_,v1,wM (k _ _ _ ⟨_,rfl⟩ (aN.refl _) ?_)⟩;have :z.cps.toList[i]? =some c:=by simpa using hc
    rw[ah,this];rfl
   ·intro vs H2 l hvl hF s2 hl2
    have e:=bool_list hvl hF;subst e;refine⟨l,_,rfl,SqL.of aE,?_⟩;have e2:((aM z.length).map fun i=>ja (z.cps.toList.getD i 0)).all id=z.cps.toList.all ja:=by
     have :=pF z.cps.toList 0 ja
     rw[show z.cps.toList.length=z.length by simp[Str.length]]at this;exact this
    rw[e2];exact hR _ (s2.trans (aF hl2))
  simp only[js,bt,if_false,v2,hW,exists_eq_left',exists_eq_left,V.bl.injEq,V.int.injEq,BI,len_s,hl,true_and];have q':∀H',aN H H'->Q (.bl (dZ z)) H':=q;unfold dZ at q';by_cases h1:1<=z.length
  ·by_cases h2:z.length<=8
   ·have e1:decide ((1:Int)<=z.length)=true:=decide_eq_true (by omega)
    have e2:decide ((z.length:Int)<=8)=true:=decide_eq_true (by omega);rw[decide_eq_true (And.intro h1 h2),cy]at q';simp only[e1,e2,if_true,js,bt,if_false];exact all Q q'
   ·have e1:decide ((1:Int)<=z.length)=true:=decide_eq_true (by omega)
    have e2:decide ((z.length:Int)<=8)=false:=decide_eq_false (by omega);rw[decide_eq_false (fun h=>h2 h.2),bY]at q';simp only[e1,e2,if_true,Bool.not_false];exact q' H (aN.refl H)
  ·have e1:decide ((1:Int)<=z.length)=false:=decide_eq_false (by omega)
   rw[decide_eq_false (fun h=>h1 h.1),bY]at q';simp only[e1,bt,if_false,Bool.not_false,if_true];exact q' H (aN.refl H)
 |_=>exact q H (aN.refl H)
noncomputable def bF:Option HO->Option (List V)
 |some (.tup xs)=>some xs
 |_=>none
theorem jc{o:Option HO}{xs:List V}(h:bF o=some xs):o=some (.tup xs):=by
 unfold bF at h;split at h
 ·cases h;rfl
 ·cases h
theorem qA(o:Option HO):fS (fh o) "tuple"=(bF o).isSome:=by
 unfold fh;split <;>first
  |rfl
  |skip
 unfold bF;split <;>simp_all
 rfl
noncomputable def b9(H:Hp):V->Bool
 |.ref a=>match bF (H a)with
  |some xs=>decide (xs.length<=60)&&xs.all aG
  |none=>false
 |_=>false
noncomputable def spR:Sp:=fun vs H Q _=>∃x,vs=[x]/\Known H x/\(∀a xs,x=.ref a->H a=some (.tup xs)->xs.length<=20000/\∀y∈xs,Known H y)/\∀H',aN H H'->Q (.bl (b9 H x)) H'
theorem nV{G:Gam}{K:aa}(g1:G.fn "is_reading" 1=some (spB aG,[]))(v1:G.val "MOST_PLACES"=some (.int 60)):
  Sat G K spR jX jK:=by
 rintro vs H Q E ⟨x,rfl,hk,hx,q⟩;unfold jX;change wpB G K _ _ _ [some x] H;walk_at "wp";refine isi hk .tuple ⟨_,rfl,?_⟩;rw[show Ty.t .tuple="tuple" from rfl];cases x with
 |ref a=>
  show if(!fS (fh (H a)) "tuple")=true then _ else _
  rw[qA];have q0:∀H',aN H H'->Q (.bl (match bF (H a)with |some xs=>decide (xs.length<=60)&&xs.all aG|none=>false)) H':=q;cases e0:bF (H a)with
  |none=>
   rw[e0]at q0;exact q0 H (aN.refl H)
  |some xs=>
    rw[e0]at q0;have e:=jc e0;have q':∀H',aN H H'->Q (.bl (decide (xs.length<=60)&&xs.all aG)) H':=q0;obtain⟨hl,hy⟩:=hx a xs rfl e;have hl':xs.length<=sizeLine:=aI hl wG;simp only[fG,js,bt,if_false];refine Or.inl ⟨a,xs,rfl,.inr (SqT.of e),_,v1,?_⟩;rw[uY];refine⟨_,rfl,?_⟩;by_cases hle:xs.length<=60
    ·rw[decide_eq_true hle,cy]at q'
     have e1:decide ((60:Int)<xs.length)=false:=decide_eq_false (by omega);rw[e1];simp only[bt,if_false];refine d5 (vk rfl (SqT.of e) (fJ seq_tup hl' (fun H1 s1=>s1.tup (SqT.of e)) (fun i v _=>v=.bl (aG (xs.getD i .non))) (fun _ _ _ _ _ h=>h) (fun τ=>∃t,τ=[t]) ⟨none,rfl⟩ ?_ ?_))
     ·rintro i y τ H3 R hi ⟨t,rfl⟩ s3 hy3 k
      have hym:y∈xs:=aD hy3;exact⟨_,_,g1,y,rfl,y,rfl,((hy y hym).same s3).1,fun H4 s4=>k _ _ _ ⟨_,rfl⟩ s4 (by rw[getD_some hy3])⟩
     ·intro vs H2 l hvl hF s2 hl2
      have e:=bool_list hvl hF;subst e;refine⟨l,_,rfl,SqL.of aE,?_⟩;rw[pF xs .non aG];exact q' _ (s2.trans (aF hl2))
    ·rw[decide_eq_false hle,bY]at q'
     have e1:decide ((60:Int)<xs.length)=true:=decide_eq_true (by omega);rw[e1];simpa using q' H (aN.refl H)
 |_=>exact q H (aN.refl H)
end Cp
namespace Cp
open PySem R
noncomputable def y8:List Str:=["thing"]
noncomputable def qL:List Str:=["thing"]
noncomputable def rj:CB:=
  (.cons (.iff (.or (.not (.bfn .isinstance (.cons (.var 0) (.cons (.ty .tuple) .nil)))) (.cmp .NotEq (.bfn .len (.cons (.var 0) .nil)) (.con (.int 2))))
  (.cons (.ret (.con (.bool false)))
  .nil)
  .nil)
  (.cons (.ret (.and (.call "is_name" (.cons (.idx (.var 0) (.con (.int 0))) .nil)) (.call "are_readings" (.cons (.idx (.var 0) (.con (.int 1))) .nil))))
  .nil))
noncomputable def wB:List Str:=["thing"]
noncomputable def oZ:List Str:=["thing","names","counts"]
noncomputable def pD:CB:=
  (.cons (.iff (.or (.not (.bfn .isinstance (.cons (.var 0) (.cons (.ty .list) .nil)))) (.cmp .Gt (.bfn .len (.cons (.var 0) .nil)) (.glo "MOST_COPIES")))
  (.cons (.ret (.con (.bool false)))
  .nil)
  .nil)
  (.cons (.iff (.not (.bfn .all (.cons (.comp ["part"] [] (.name 0) (.seq (.var 0)) .no (.call "is_copy" (.cons (.var 0) .nil))) .nil)))
  (.cons (.ret (.con (.bool false)))
  .nil)
  .nil)
  (.cons (.asgc 1 (.comp ["name","readings"] [] (.tup (.cons (.name 0) (.cons (.name 1) .nil))) (.seq (.var 0)) .no (.var 0)))
  (.cons (.asgc 2 (.comp ["name","readings"] [] (.tup (.cons (.name 0) (.cons (.name 1) .nil))) (.seq (.var 0)) .no (.bfn .len (.cons (.var 1) .nil))))
  (.cons (.ret (.and (.cmp .Eq (.bfn .len (.cons (.bfn .set (.cons (.var 1) .nil)) .nil)) (.bfn .len (.cons (.var 1) .nil))) (.cmp .LtE (.bfn .len (.cons (.bfn .set (.cons (.var 2) .nil)) .nil)) (.con (.int 1)))))
  .nil)))))
noncomputable def sk:List Str:=["table"]
noncomputable def lS:List Str:=["table"]
noncomputable def mh:CB:=
  (.cons (.iff (.not (.call "is_table" (.cons (.var 0) .nil)))
  (.cons (.rais "NoTable" (.cons (.con (.str "this is no table")) .nil))
  .nil)
  .nil)
  .nil)
end Cp
namespace Cp
open PySem PySem.Spec PyProof.Rows L2 R
noncomputable def Kn1(H:Hp)(x:V):Prop:=Known H x/\∀z,x=.str z->z.length<=20000
noncomputable def Kn2(H:Hp)(x:V):Prop:=Kn1 H x/\∀a xs,x=.ref a->H a=some (.tup xs)->xs.length<=20000/\∀y∈xs,Kn1 H y
noncomputable def Kn3(H:Hp)(x:V):Prop:=Kn1 H x/\∀a xs,x=.ref a->H a=some (.tup xs)->xs.length<=20000/\∀y∈xs,Kn2 H y
noncomputable def cX:Option HO->Option (List V)
 |some (.lst xs)=>some xs
 |some (.frz _ (.lst xs))=>some xs
 |_=>none
noncomputable def Kn4(H:Hp)(x:V):Prop:=Kn1 H x/\∀a xs,x=.ref a->cX (H a)=some xs->xs.length<=20000/\∀y∈xs,Kn3 H y
theorem rA{H H':Hp}{a:Addr}{o:HO}(s:aN H H')(k:H a≠none)(h:H' a=some o):H a=some o:=by
 cases e:H a with
 |none=>exact absurd e k
 |some u=>rw[s a u e]at h;exact h
theorem Known.some{H:Hp}{a:Addr}(k:Known H (.ref a)):H a≠none:=fun e=>by
 have k':fh (H a)≠"?":=k;rw[e]at k';exact k' rfl
theorem Kn1.same{H H':Hp}{x:V}(h:Kn1 H x)(s:aN H H'):Kn1 H' x:=⟨(h.1.same s).1,h.2⟩
theorem Kn2.same{H H':Hp}{x:V}(h:Kn2 H x)(s:aN H H'):Kn2 H' x:=⟨h.1.same s,fun a xs e hx=>by
 subst e;obtain⟨l,k⟩:=h.2 a xs rfl (rA s h.1.1.some hx);exact⟨l,fun y hy=>(k y hy).same s⟩⟩
theorem Kn3.same{H H':Hp}{x:V}(h:Kn3 H x)(s:aN H H'):Kn3 H' x:=⟨h.1.same s,fun a xs e hx=>by
 subst e;obtain⟨l,k⟩:=h.2 a xs rfl (rA s h.1.1.some hx);exact⟨l,fun y hy=>(k y hy).same s⟩⟩
theorem rB{H H':Hp}{x:V}(h:Known H x)(s:aN H H'):b9 H' x=b9 H x:=by
 cases x with
 |ref a=>
  show(match bF (H' a)with |some xs=>_|none=>_)=(match bF (H a)with |some xs=>_|none=>_);cases e:H a with
  |none=>exact absurd e h.some
  |some o=>rw[s a o e]
 |_=>rfl
noncomputable def bS(H:Hp):V->Bool
 |.ref a=>match bF (H a)with
  |some [n,r]=>isName n&&b9 H r
  |_=>false
 |_=>false
theorem mZ{H H':Hp}{x:V}(h:Kn3 H x)(s:aN H H'):bS H' x=bS H x:=by
 cases x with
 |ref a=>
  show(match bF (H' a)with |some [n,r]=>_|_=>_)=(match bF (H a)with |some [n,r]=>_|_=>_);cases e:H a with
  |none=>exact absurd e h.1.1.some
  |some o=>
   rw[s a o e];cases o with
   |tup xs=>
    match xs with
    | []=>rfl
    | [_]=>rfl
    | [n,r]=>
     have k:=(h.2 a _ rfl e).2 r (by simp);show(isName n&&b9 H' r)=(isName n&&b9 H r);rw[rB k.1.1 s]
    |_::_::_::_=>rfl
   |_=>rfl
 |_=>rfl
noncomputable def spC:Sp:=fun vs H Q _=>∃x,vs=[x]/\Kn3 H x/\∀H',aN H H'->Q (.bl (bS H x)) H'
theorem vQ{G:Gam}{K:aa}(g1:G.fn "is_name" 1=some (spN,[]))(g2:G.fn "are_readings" 1=some (spR,[])):
  Sat G K spC rj qL:=by
 rintro vs H Q E ⟨x,rfl,hk,q⟩;unfold rj;change wpB G K _ _ _ [some x] H;walk_at "wp";refine isi hk.1.1 .tuple ⟨_,rfl,?_⟩;rw[show Ty.t .tuple="tuple" from rfl];cases x with
 |ref a=>
  show if(!fS (fh (H a)) "tuple")=true then _ else _
  rw[qA];have q0:∀H',aN H H'->Q (.bl (match bF (H a)with |some [n,r]=>isName n&&b9 H r|_=>false)) H':=q;cases e0:bF (H a)with
  |none=>
   rw[e0]at q0;exact q0 H (aN.refl H)
  |some xs=>
   have e:=jc e0;rw[e0]at q0;obtain⟨hl,hy⟩:=hk.2 a xs rfl e;simp only[fG,js,bt,if_false];refine Or.inl ⟨a,xs,rfl,.inr (SqT.of e),?_⟩;show ej K .NotEq (.int (xs.length:Int)) (.int 2) H _;rw[By];refine⟨_,rfl,?_⟩
   match xs,hl,hy,e,q0 with
   | [],_,_,_,q0=>exact q0 H (aN.refl H)
   | [_],_,_,_,q0=>exact q0 H (aN.refl H)
   |_::_::_::r,_,_,_,q0=>
    rw[if_pos (by simp;omega)];exact q0 H (aN.refl H)
   | [n,r],_,hy,e,q0=>
    rw[if_neg (by simp)];have kn:=hy n (by simp);have kr:=hy r (by simp);refine⟨_,_,g1,.inr (.inl ⟨a,[n,r],0,n,rfl,rfl,SqT.of e,rfl,n,rfl,kn.1.1,kn.1.2,fun H1 s1=>⟨_,rfl,?_⟩⟩)⟩;have q1:∀H',aN H H'->Q (.bl (isName n&&b9 H r)) H':=q0;cases en:isName n with
    |false=>
     rw[en,bY]at q1;rw[if_neg au];exact q1 H1 s1
    |true=>
     rw[en,cy]at q1;rw[if_pos rfl];have kr1:=kr.same s1;refine⟨_,_,g2,.inr (.inl ⟨a,[n,r],1,r,rfl,rfl,s1.tup (SqT.of e),rfl,r,rfl,kr1.1.1,fun b ys eb hb=>?_,fun H2 s2=>?_⟩)⟩
     ·obtain⟨l,k⟩:=kr1.2 b ys eb hb
      exact⟨l,fun y hy=>(k y hy).1⟩
     ·rw[rB kr.1.1 s1]
      exact q1 H2 (s1.trans s2)
 |_=>exact q H (aN.refl H)
theorem uH{xs vs:List V}{f:V->V}(hl:vs.length=xs.length)(h:∀(i:Nat) v,vs[i]? =some v->v=f (xs.getD i .non)):vs=xs.map f:=by
 apply cR
 ·simp[hl]
 ·intro i h1 h2
  have h3:i<xs.length:=by omega
  have :=h i vs[i] (by simp[h1])
  rw[this,dt,ah,ae h3];rfl
theorem qG:∀(l:List Str),(l.map (dO:Str->Key)).Nodup↔l.Nodup
 | []=>by simp
 |x::l=>by
  rw[cT,eE,eE,qG l];have e:dO x∈l.map (dO:Str->Key)↔x∈l:=by
   constructor
   ·intro h
    obtain⟨y,hy,e⟩:=a8.mp h;injection e with e
    rw[<-e];exact hy
   ·exact fun h=>a8.mpr ⟨x,h,rfl⟩
  rw[e]
theorem iW{K:aa}{H:Hp}{a:Addr}{xs:List V}(h:cX (H a)=some xs):SqL K H a xs:=by
 unfold cX at h;split at h
 ·rename_i e;cases h;exact .inl (.inl e)
 ·rename_i o _ e;cases h;exact .inl (.inr ⟨o,e⟩)
 ·cases h
theorem Au(o:Option HO):fS (fh o) "list"=(cX o).isSome:=by
 unfold fh;split <;>first
  |rfl
  |skip
 unfold cX;split <;>simp_all
 rfl
noncomputable def aB(H:Hp):V->Str
 |.ref a=>match bF (H a)with
  |some (.str z::_)=>z
  |_=>""
 |_=>""
noncomputable def br(H:Hp):V->Nat
 |.ref a=>match bF (H a)with
  |some [_,.ref b]=>(bF (H b)).elim 0 cF
  |_=>0
 |_=>0
theorem je{H:Hp}{x:V}(h:bS H x=true):∃a z b ys,x=.ref a/\H a=some (.tup [.str z,.ref b])/\H b=some (.tup ys)/\dZ z=true/\ys.length<=60/\(∀y∈ys,aG y=true)/\aB H x=z/\br H x=ys.length:=by
 cases x with
 |ref a=>
  have h':(match bF (H a)with |some [n,r]=>isName n&&b9 H r|_=>false)=true:=h;split at h'
  ·rename_i n r e
   rw[aw]at h';obtain⟨h1,h2⟩:=h';cases n with
   |str z=>
    cases r with
    |ref b=>
     have h3:(match bF (H b)with |some xs=>decide (xs.length<=60)&&xs.all aG|none=>false)=true:=h2;split at h3
     ·rename_i ys eb
      rw[aw,decide_eq_true_eq,bP]at h3;refine⟨a,z,b,ys,rfl,jc e,jc eb,h1,h3.1,h3.2,?_,?_⟩
      ·show(match bF (H a)with |some (.str z::_)=>z|_=>"")=z
       rw[e]
      ·show(match bF (H a)with |some [_,.ref b]=>(bF (H b)).elim 0 cF|_=>0)=ys.length
       rw[e];show(bF (H b)).elim 0 cF=ys.length;rw[eb];rfl
     ·cases h3
    |_=>cases h2
   |_=>cases h1
  ·cases h'
 |_=>cases h
noncomputable def cY(H:Hp):V->Bool
 |.ref a=>match cX (H a)with
  |some xs=>decide (xs.length<=40)&&(xs.all (bS H)&&(decide ((xs.map (aB H)).Nodup)&&decide (∀y∈xs,∀z∈xs,br H y=br H z)))
  |none=>false
 |_=>false
noncomputable def spT:Sp:=fun vs H Q _=>∃x,vs=[x]/\Kn4 H x/\∀H',aN H H'->Q (.bl (cY H x)) H'
theorem tP{G:Gam}{K:aa}(g1:G.fn "is_copy" 1=some (spC,[]))(v1:G.val "MOST_COPIES"=some (.int 40)):
  Sat G K spT pD oZ:=by
 rintro vs H Q E ⟨x,rfl,hk,q⟩;unfold pD;change wpB G K _ _ _ [some x,none,none] H;walk_at "wp";refine isi hk.1.1 .list ⟨_,rfl,?_⟩;rw[show Ty.t .list="list" from rfl];cases x with
 |ref a=>
  show if(!fS (fh (H a)) "list")=true then _ else _
  rw[Au];have q0:∀H',aN H H'->Q (.bl (match cX (H a)with |some xs=>decide (xs.length<=40)&&(xs.all (bS H)&&(decide ((xs.map (aB H)).Nodup)&&decide (∀y∈xs,∀z∈xs,br H y=br H z))) |none=>false)) H':=q;cases e0:cX (H a)with
  |none=>
   rw[e0]at q0;exact q0 H (aN.refl H)
  |some xs=>
   rw[e0]at q0;obtain⟨hl,hy⟩:=hk.2 a xs rfl e0;have hl':xs.length<=sizeLine:=aI hl wG;simp only[fG,js,bt,if_false];refine Or.inl ⟨a,xs,rfl,.inl (iW e0),_,v1,?_⟩;rw[uY];refine⟨_,rfl,?_⟩;by_cases hle:xs.length<=40
   ·rw[decide_eq_false (by omega:¬(40:Int)<xs.length),if_neg au]
    have qq:∀H',aN H H'->Q (.bl (xs.all (bS H)&&(decide ((xs.map (aB H)).Nodup)&&decide (∀y∈xs,∀z∈xs,br H y=br H z)))) H':=fun H' s'=>by
     have z:Q (.bl (decide (xs.length<=40)&&(xs.all (bS H)&&(decide ((xs.map (aB H)).Nodup)&&decide (∀y∈xs,∀z∈xs,br H y=br H z))))) H':=q0 H' s';rw[decide_eq_true hle,cy]at z;exact z
    have sq:∀{H1:Hp},aN H H1->SqL K H1 a xs:=fun s1=>s1.seq (iW e0);refine d5 (cf rfl (iW e0) (fJ cW hl' (fun H1 s1=>sq s1) (fun i v _=>v=.bl (bS H (xs.getD i .non))) (fun _ _ _ _ _ h=>h) (fun τ=>∃t,τ=[t]) ⟨none,rfl⟩ ?_ ?_))
    ·rintro i y τ H3 R hi ⟨t,rfl⟩ s3 hy3 k
     have ky:=hy y (aD hy3);exact⟨_,_,g1,y,rfl,y,rfl,ky.same s3,fun H4 s4=>k _ _ _ ⟨_,rfl⟩ s4 (by rw[getD_some hy3,mZ ky s3])⟩
    intro vs H2 l hvl hF s2 hl2;have e:=bool_list hvl hF;subst e;refine⟨l,_,rfl,SqL.of aE,_,rfl,?_⟩;rw[pF xs .non (bS H)];have s3:aN H (upd H2 l (.lst (((aM xs.length).map fun i=>bS H (xs.getD i .non)).map V.bl))):=s2.trans (aF hl2);generalize upd H2 l (.lst (((aM xs.length).map fun i=>bS H (xs.getD i .non)).map V.bl))=H3 at s3;cases ea:xs.all (bS H)with
    |false=>
     rw[ea,bY]at qq;rw[if_pos (by rfl)];exact qq H3 s3
    |true=>
     rw[ea,cy]at qq;rw[if_neg (by simp)];rw[bP]at ea;have sh:∀{i:Nat}{y:V},xs[i]? =some y->∃a z b ys,y=.ref a/\H a=some (.tup [.str z,.ref b])/\H b=some (.tup ys)/\aB H y=z/\br H y=ys.length:=fun hy3=>by
      obtain⟨a,z,b,ys,h1,h2,h3,_,_,_,h7,h8⟩:=je (ea _ (aD hy3));exact⟨a,z,b,ys,h1,h2,h3,h7,h8⟩
     refine d5 (cf rfl (sq s3) (fJ cW hl' (fun H1 s1=>sq (s3.trans s1)) (fun i v _=>v=.str (aB H (xs.getD i .non))) (fun _ _ _ _ _ h=>h) (fun τ=>∃t u,τ=[t,u]) ⟨none,none,rfl⟩ ?_ ?_))
     ·rintro i y τ H4 R hi ⟨t,u,rfl⟩ s4 hy3 k
      obtain⟨b,z,c,ys,rfl,h1,h2,h3,h4⟩:=sh hy3;refine⟨b,_,rfl,(s3.trans s4).tup (SqT.of h1),rfl,_,_,rfl,_,_,rfl,rfl,_,rfl,k _ _ _ ⟨_,_,rfl⟩ (aN.refl _) ?_⟩;rw[getD_some hy3,h3]
     intro vs1 H4 l1 hvl1 hF1 s4 hl4;have e1:vs1=xs.map fun y=>V.str (aB H y):=uH hvl1 hF1;subst e1;have s5:aN H (upd H4 l1 (.lst (xs.map fun y=>V.str (aB H y)))):=s3.trans (s4.trans (aF hl4));have n1:SqL K (upd H4 l1 (.lst (xs.map fun y=>V.str (aB H y)))) l1 (xs.map fun y=>V.str (aB H y)):=SqL.of aE;generalize upd H4 l1 (.lst (xs.map fun y=>V.str (aB H y)))=H5 at s5 n1;refine d5 (cf rfl (sq s5) (fJ cW hl' (fun H1 s1=>sq (s5.trans s1)) (fun i v _=>v=.int (br H (xs.getD i .non))) (fun _ _ _ _ _ h=>h) (fun τ=>∃t u,τ=[t,u]) ⟨none,none,rfl⟩ ?_ ?_))
     ·rintro i y τ H6 R hi ⟨t,u,rfl⟩ s6 hy3 k
      obtain⟨b,z,c,ys,rfl,h1,h2,h3,h4⟩:=sh hy3;refine⟨b,_,rfl,(s5.trans s6).tup (SqT.of h1),rfl,_,_,rfl,_,_,rfl,rfl,_,rfl,Or.inl ⟨c,ys,rfl,.inr ((s5.trans s6).tup (SqT.of h2)),k _ _ _ ⟨_,_,rfl⟩ (aN.refl _) ?_⟩⟩;rw[getD_some hy3,h4]
     intro vs2 H6 l2 hvl2 hF2 s6 hl6;have e2:vs2=xs.map fun y=>V.int (br H y):=uH hvl2 hF2;subst e2;have s7:aN H5 (upd H6 l2 (.lst (xs.map fun y=>V.int (br H y)))):=s6.trans (aF hl6);have n2:SqL K (upd H6 l2 (.lst (xs.map fun y=>V.int (br H y)))) l2 (xs.map fun y=>V.int (br H y)):=SqL.of aE;generalize upd H6 l2 (.lst (xs.map fun y=>V.int (br H y)))=H7 at s7 n2;have ek1:(xs.map fun y=>(dO (aB H y):Key)).map kV=xs.map fun y=>V.str (aB H y):=by rw[fq];rfl
     have ek2:(xs.map fun y=>(gw (br H y:Int):Key)).map kV=xs.map fun y=>V.int (br H y):=by rw[fq];rfl
     refine⟨l1,xs.map fun y=>(dO (aB H y):Key),rfl,by rw[ek1];exact s7.seq n1,by rw[aC];omega,fun c1 hc1=>?_⟩;refine .inr (.inr ⟨c1,_,rfl,aE,?_⟩);have s8:aN H7 (upd H7 c1 (_root_.Q.wm c1 (_root_.Q.met (xs.map fun y=>(dO (aB H y):Key))).length)):=aF hc1;generalize upd H7 c1 (_root_.Q.wm c1 (_root_.Q.met (xs.map fun y=>(dO (aB H y):Key))).length)=H8 at s8;refine Or.inl ⟨l1,_,rfl,.inl (s8.seq (s7.seq n1)),?_⟩;show ej K .Eq (.int ((_root_.Q.met (xs.map fun y=>(dO (aB H y):Key))).length:Int)) (.int ((xs.map fun y=>V.str (aB H y)).length:Int)) H8 _;rw[B3];refine⟨_,rfl,?_⟩;have hnd:decide (((_root_.Q.met (xs.map fun y=>(dO (aB H y):Key))).length:Int)=((xs.map fun y=>V.str (aB H y)).length:Int))=decide ((xs.map (aB H)).Nodup):=by
      rw[decide_eq_decide,aC];have hm:(xs.map fun y=>(dO (aB H y):Key)).Nodup↔(xs.map (aB H)).Nodup:=by
       have :(xs.map fun y=>(dO (aB H y):Key))=(xs.map (aB H)).map dO:=by rw[fq];rfl
       rw[this];exact qG _
      constructor
      ·intro z
       refine hm.mp (_root_.Q.sD ?_);rw[aC];exact Int.ofNat.inj z
      ·intro z
       rw[_root_.Q.zf (hm.mpr z),aC]
     rw[hnd];have s9:aN H H8:=s5.trans (s7.trans s8);cases en:decide ((xs.map (aB H)).Nodup)with
     |false=>
      rw[en,bY]at qq;rw[if_neg au];exact qq H8 s9
     |true=>
      rw[en,cy]at qq;rw[if_pos rfl];refine⟨l2,xs.map fun y=>(gw (br H y:Int):Key),rfl,by rw[ek2];exact s8.seq n2,by rw[aC];omega,fun c2 hc2=>?_⟩;refine .inr (.inr ⟨c2,_,rfl,aE,?_⟩);show ej K .LtE (.int ((_root_.Q.met (xs.map fun y=>(gw (br H y:Int):Key))).length:Int)) (.int 1) _ Q;rw[BI];have hone:decide (((_root_.Q.met (xs.map fun y=>(gw (br H y:Int):Key))).length:Int)<=1)=decide (∀y∈xs,∀z∈xs,br H y=br H z):=by
       rw[decide_eq_decide];have h1:((_root_.Q.met (xs.map fun y=>(gw (br H y:Int):Key))).length:Int)<=1↔(_root_.Q.met (xs.map fun y=>(gw (br H y:Int):Key))).length<=1:=by omega
       rw[h1,_root_.Q.met_one];constructor
       ·intro z y hy1 y' hy2
        have :=z _ (a8.mpr ⟨y,hy1,rfl⟩) _ (a8.mpr ⟨y',hy2,rfl⟩)
        injection this with this;omega
       ·intro z k1 hk1 k2 hk2
        obtain⟨y,hy1,rfl⟩:=a8.mp hk1;obtain⟨y',hy2,rfl⟩:=a8.mp hk2;rw[z y hy1 y' hy2]
      rw[hone];exact qq _ (s9.trans (aF hc2))
   ·rw[decide_eq_true (by omega:(40:Int)<xs.length),if_pos rfl]
    have q1:Q (.bl (decide (xs.length<=40)&&(xs.all (bS H)&&(decide ((xs.map (aB H)).Nodup)&&decide (∀y∈xs,∀z∈xs,br H y=br H z))))) H:=q0 H (aN.refl H);rw[decide_eq_false hle,bY]at q1;exact q1
 |_=>exact q H (aN.refl H)
noncomputable def XC(K:aa)(C:Addr):Prop:=bJ K (.ref C)=true/\PySem.W.excIn K C bmV "ValueError.__new__"=true
theorem Kn4.same{H H':Hp}{x:V}(h:Kn4 H x)(s:aN H H'):Kn4 H' x:=⟨h.1.same s,fun a xs e hx=>by
 subst e;have hx':cX (H a)=some xs:=by
  cases e:H a with
  |none=>exact absurd e h.1.1.some
  |some o=>rw[s a o e]at hx;exact hx
 obtain⟨l,k⟩:=h.2 a xs rfl hx';exact⟨l,fun y hy=>(k y hy).same s⟩⟩
theorem Bu:(1:Nat)<=sizeLine:=by decide
noncomputable def rQ(C:Addr):Sp:=fun vs H Q E=>∃x,vs=[x]/\Kn4 H x/\(cY H x=true->∀H',aN H H'->Q .non H')/\(cY H x=false->∀H',aN H H'->E (.ref C) none H')
theorem pT{G:Gam}{K:aa}{C:Addr}(g1:G.fn "is_table" 1=some (spT,[]))(v1:G.val "NoTable"=some (.ref C))(xc:XC K C):
  Sat G K (rQ C) mh lS:=by
 rintro vs H Q E ⟨x,rfl,hk,q1,q2⟩;unfold mh;change wpB G K _ _ _ [some x] H;walk_at "wp";refine⟨_,_,g1,x,rfl,hk,fun H1 s1=>⟨_,rfl,?_⟩⟩;cases e:cY H x with
 |true=>
  rw[if_neg (by simp)];exact q1 e H1 s1
 |false=>
  rw[if_pos (by rfl)];exact⟨C,v1,xc.1,xc.2,Bu,q2 e H1 s1⟩
noncomputable def count(H:Hp):V->Nat
 |.ref a=>match cX (H a)with
  |some (y::_)=>br H y
  |_=>0
 |_=>0
theorem fz{H:Hp}{x:V}(h:cY H x=true):∃a xs,x=.ref a/\cX (H a)=some xs/\xs.length<=40/\(∀y∈xs,bS H y=true)/\(xs.map (aB H)).Nodup/\∀y∈xs,br H y=count H x:=by
 cases x with
 |ref a=>
  have h':(match cX (H a)with |some xs=>decide (xs.length<=40)&&(xs.all (bS H)&&(decide ((xs.map (aB H)).Nodup)&&decide (∀y∈xs,∀z∈xs,br H y=br H z))) |none=>false)=true:=h;split at h'
  ·rename_i xs e
   rw[aw,aw,aw,decide_eq_true_eq,decide_eq_true_eq,decide_eq_true_eq,bP]at h';obtain⟨h1,h2,h3,h4⟩:=h';refine⟨a,xs,rfl,e,h1,h2,h3,fun y hy=>?_⟩;show _=(match cX (H a)with |some (y::_)=>br H y|_=>0);rw[e];cases xs with
   |nil=>cases hy
   |cons z r=>exact h4 y hy z (.head _)
  ·cases h'
 |_=>cases h
noncomputable def lh(H:Hp):V->List V
 |.ref a=>match bF (H a)with
  |some [_,.ref b]=>(bF (H b)).getD []
  |_=>[]
 |_=>[]
theorem kh{H:Hp}{x:V}(h:bS H x=true):∃a b,x=.ref a/\H a=some (.tup [.str (aB H x),.ref b])/\H b=some (.tup (lh H x))/\(lh H x).length=br H x/\∀y∈lh H x,aG y=true:=by
 obtain⟨a,z,b,ys,rfl,h1,h2,_,_,h6,h7,h8⟩:=je h;have e:lh H (.ref a)=ys:=by
  show(match bF (H a)with |some [_,.ref b]=>(bF (H b)).getD [] |_=>[])=ys;rw[h1];show(bF (H b)).getD []=ys;rw[h2];rfl
 refine⟨a,b,rfl,by rw[h7];exact h1,by rw[e];exact h2,by rw[e,h8],by rw[e];exact h6⟩
theorem cq{v:V}(h:aG v=true):v=.int 0\/v=.int 1:=by
 cases v with
 |int i=>
  have h':(i==0||i==1)=true:=h;rw[bC,beq_iff_eq,beq_iff_eq]at h';rcases h' with rfl|rfl
  ·exact .inl rfl
  ·exact .inr rfl
 |_=>cases h
theorem iY{J:It}{Hc:Hp->Prop}{g:TG}{tc:TT}{te:TE}{Q:VK}{τ0:L2.St}{H1:Hp}{xs:List V}(S:qk J xs.length (fun i x _=>xs[i]? =some x) Hc)(hn:xs.length<=sizeLine)(hc:∀H,aN H1 H->Hc H)
  (t:V->Bool)(f:V->V)(T:L2.St->Prop)(hT:T τ0)
  (step:∀x τ H3 (Rt:L2.St->V->Hp->Prop)(Rf:L2.St->Hp->Prop),x∈xs->T τ->aN H1 H3->(∀τ' H6,T τ'->aN H3 H6->t x=true->Rt τ' (f x) H6)->(∀τ' H6,T τ'->aN H3 H6->t x=false->Rf τ' H6)->
   g x τ H3 fun τ4 H4=>tc τ4 H4 fun b H5=>if b=true then te τ4 H5 (Rt τ4)else Rf τ4 H5)
  (fin:∀H2 l,aN H1 H2->H2 l=none->Q (.ref l) (upd H2 l (.lst ((xs.filter t).map f)))):yw J g tc te τ0 H1 Q:=by
 refine⟨fun i m τ acc H2=>m=xs.length-i/\i<=xs.length/\T τ/\acc=((xs.take i).filter t).map f/\aN H1 H2,⟨xs.length,by simp,aW _,hT,by simp,aN.refl _⟩,?_⟩;rintro i m τ acc H2 ⟨rfl,hi,ht,rfl,sm⟩;have q:=hc H2 sm;by_cases hlt:i<xs.length
 ·refine .inr ⟨S.go i H2 q hlt,fun τ' acc' H'=>T τ'/\acc'=((xs.take (i+1)).filter t).map f/\aN H1 H',fun τ' acc' H' ⟨a,b,c⟩=>⟨xs.length-(i+1),by omega,rfl,hlt,a,b,c⟩,fun x H3 y=>?_⟩
  obtain⟨y1,y2⟩:=S.yld i H2 x H3 q hlt y;have e:xs.take (i+1)=xs.take i++[x]:=by rw[da,y1];rfl
  have hlen:(((xs.take i).filter t).map f).length<=i:=by
   rw[aC];refine aI (bz _ _) ?_;rw[aA];omega
  refine step x τ H3 _ _ (aD y1) ht (sm.trans y2) (fun τ' H6 h1 h2 h3=>⟨by omega,h1,?_,(sm.trans y2).trans h2⟩) (fun τ' H6 h1 h2 h3=>⟨h1,?_,(sm.trans y2).trans h2⟩)
  ·rw[e,fO,kE]
   simp[h3]
  ·rw[e,fO,kE]
   simp[h3]
 ·have e:i=xs.length:=by omega
  subst e;rw[d8];exact .inl ⟨S.stop _ H2 q (aq _),fun l hl'=>fin H2 l sm hl'⟩
end Cp
namespace Lt
open PySem R
noncomputable def p8:List Str:=["_law_script","_law_k"]
noncomputable def kI:List Str:=["_law_script","_law_k"]
noncomputable def kT:CB:=
  (.cons (.iff (.cmp .Lt (.var 1) (.bfn .len (.cons (.var 0) .nil)))
  (.cons (.ret (.idx (.var 0) (.var 1)))
  .nil)
  .nil)
  (.cons (.ret (.con (.int 0)))
  .nil))
end Lt
namespace Lt
open PySem PySem.Spec PyProof.Rows L2 R Cp
theorem cmulR{i j:Int}(h0:0<=j)(h1:j<18446744073709551616):sZ i j:=.inr ⟨by omega,by omega⟩
theorem cmulL{i j:Int}(h0:0<=i)(h1:i<18446744073709551616):sZ i j:=.inl ⟨by omega,by omega⟩
noncomputable def wc(K:aa):Sp:=fun vs H Q _=>∃(a:Addr)(ns:List Int)(k:Nat),vs=[.ref a,.int k]/\SqL K H a (ns.map V.int)/\Q (.int (ns.getD k 0)) H
theorem wp_cell{G:Gam}{K:aa}:Sat G K (wc K) kT kI:=by
 rintro vs H Q E ⟨a,ns,k,rfl,hs,q⟩;unfold kT;change wpB G K _ _ _ [some (.ref a),some (.int k)] H;walk_at "wp";refine Or.inl ⟨a,_,rfl,.inl hs,?_⟩;show ej K .Lt (.int (k:Int)) (.int ((ns.map V.int).length:Int)) H _;rw[lt_ii,aC];refine⟨_,rfl,?_⟩;by_cases hk:k<ns.length
 ·rw[decide_eq_true (by omega:(k:Int)<(ns.length:Int)),if_pos rfl]
  refine .inl ⟨a,_,k,_,rfl,rfl,hs,f9 (j:=k) (v:=.int (ns.getD k 0)) ?_,q⟩;rw[bq,ae hk,ah,ae hk];rfl
 ·rw[decide_eq_false (by omega:¬(k:Int)<(ns.length:Int)),if_neg au]
  rw[ah,dA (by omega)]at q;exact q
theorem short{n:Nat}(h:n<=40):n<=sizeLine:=aI h (by decide)
end Lt
namespace Q
open PySem PySem.Spec PySem.W PyProof.Rows L2
theorem uv{ks:List Str}(nd:ks.Nodup):(ord ks).Perm (aM ks.length):=by
 unfold ord;split
 ·exact CV _
 ·have P:=(gm (oz nd) (by omega)).1
  have :=cn.mp P.perm
  simpa using this
theorem range_getD{α:Type}(d:α)(ys:List α):(aM ys.length).map (fun i=>ys.getD i d)=ys:=by
 apply cR
 ·simp
 ·intro i h1 h2
  simp[h2]
theorem fA{α:Type}(d:α){ks:List Str}{ys:List α}(nd:ks.Nodup)(hl:ks.length=ys.length):(sortBy d ks ys).Perm ys:=by
 unfold sortBy;have h:=(uv nd).map fun i=>ys.getD i d;rw[hl,range_getD]at h;exact h
theorem wk{α β:Type}(d:α)(f:α->β)(ks:List Str)(ys:List α):(sortBy d ks ys).map f=sortBy (f d) ks (ys.map f):=by
 unfold sortBy;rw[fq];apply fC;intro i _;show f (ys.getD i d)=(ys.map f).getD i (f d);rw[ah,ah,bq];cases ys[i]? <;>rfl
theorem iE{ks:List Str}(nd:ks.Nodup):(sortBy ("":Str) ks ks).Pairwise fun a b=>tlt a b=true:=by
 unfold sortBy ord;split
 ·rename_i h
  rw[range_getD]
  match ks,h with
  | [],_=>exact .nil
  | [x],_=>simp
  |_::_::_,h=>simp at h;omega
 ·rename_i h
  obtain⟨P,U,_⟩:=gm (oz nd) (by omega:1<=ks.length);rw[aX];intro i j hi hj hij;have hi':i<ks.length:=by simpa[P.size]using hi
  have hj':j<ks.length:=by simpa[P.size]using hj
  have u:=U i j hij hj';rw[dt,dt];have e:∀(k:Nat)(hk:k<(run (jN ks) (bw ks.length)).toList.length),(run (jN ks) (bw ks.length)).toList[k]=at' (run (jN ks) (bw ks.length)) k:=fun k hk=>by
   have hk':k<(run (jN ks) (bw ks.length)).size:=by simpa using hk
   simp[at',hk']
  rw[e,e];exact u
theorem yI{x y:Str}(a:tlt x y=true)(b:tlt y x=true):False:=by
 have c:=jY a b;unfold tlt at c;exact tJ _ (of_decide_eq_true c)
theorem kG:∀{l m:List Str},l.Perm m->l.Pairwise (fun a b=>tlt a b=true)->m.Pairwise (fun a b=>tlt a b=true)->l=m
 | [],m,p,_,_=>by rw[vH.mp p]
 |x::l,[],p,_,_=>by simpa using p.length_eq
 |x::l,y::m,p,h1,h2=>by
  rw[iT]at h1 h2;have e:x=y:=by
   by_cases e:x=y
   ·exact e
   ·have hx:x∈m:=by
     have :=p.mem_iff.mp (aH (a:=x) (l:=l))
     rcases aO.mp this with z|z
     ·exact absurd z e
     ·exact z
    have hy:y∈l:=by
     have :=p.mem_iff.mpr (aH (a:=y) (l:=m))
     rcases aO.mp this with z|z
     ·exact absurd z.symm e
     ·exact z
    exact(yI (h1.1 y hy) (h2.1 x hx)).elim
  subst e;rw[kG (List.perm_cons x |>.mp p) h1.2 h2.2]
theorem t7{α:Type}(d:α)(f:α->Str)(p:α->Bool){ys:List α}(nd:(ys.map f).Nodup):((sortBy d (ys.map f) ys).filter p).map f=sortBy ("":Str) ((ys.filter p).map f) ((ys.filter p).map f):=by
 have nd2:((ys.filter p).map f).Nodup:=nd.sublist (de.map _);refine kG ?_ ?_ (iE nd2)
 ·exact(((fA d nd (by simp)).filter p).map f).trans (fA ("":Str) nd2 rfl).symm
 ·have h:((sortBy d (ys.map f) ys).map f).Pairwise fun a b=>tlt a b=true:=by
   have r:=iE nd;unfold sortBy at r⊢;rw[fq];have e:(ord (ys.map f)).map (f∘fun i=>ys.getD i d)=(ord (ys.map f)).map fun i=>(ys.map f).getD i ("":Str):=by
    apply fC
    intro i hi;have hi':i<ys.length:=by
     have :=(uv nd).mem_iff.mp hi
     simpa using this
    show f (ys.getD i d)=(ys.map f).getD i ("":Str);rw[ah,ah,bq,ae hi'];rfl
   rw[e];exact r
  exact h.sublist (de.map _)
end Q
namespace Lt
open PySem PySem.Spec PyProof.Rows L2 R Cp
theorem zc{H H':Hp}{x:V}(h:Known H x)(s:aN H H'):aB H' x=aB H x:=by
 cases x with
 |ref a=>
  show(match bF (H' a)with |some (.str z::_)=>z|_=>"")=(match bF (H a)with |some (.str z::_)=>z|_=>"");cases e:H a with
  |none=>exact absurd e h.some
  |some o=>rw[s a o e]
 |_=>rfl
theorem md{H H':Hp}{x:V}(h:Kn3 H x)(s:aN H H'):br H' x=br H x:=by
 cases x with
 |ref a=>
  show(match bF (H' a)with |some [_,.ref b]=>(bF (H' b)).elim 0 cF|_=>0)=(match bF (H a)with |some [_,.ref b]=>(bF (H b)).elim 0 cF|_=>0);cases e:H a with
  |none=>exact absurd e h.1.1.some
  |some o=>
   rw[s a o e];cases o with
   |tup xs=>
    match xs with
    | []=>rfl
    | [_]=>rfl
    | [n,r]=>
     cases r with
     |ref b=>
      have k:=(h.2 a _ rfl e).2 (.ref b) (by simp);show(bF (H' b)).elim 0 cF=(bF (H b)).elim 0 cF;cases eb:H b with
      |none=>exact absurd eb k.1.1.some
      |some ob=>rw[s b ob eb]
     |_=>rfl
    |_::y::_::_=>cases y<;>rfl
   |_=>rfl
 |_=>rfl
theorem BE{H H':Hp}{a:Addr}(h:Known H (.ref a))(s:aN H H'):cX (H' a)=cX (H a):=by
 cases e:H a with
 |none=>exact absurd e h.some
 |some o=>rw[s a o e]
theorem vV{H H':Hp}{x:V}(h:Kn4 H x)(s:aN H H'):cY H' x=cY H x:=by
 cases x with
 |ref a=>
  show(match cX (H' a)with |some xs=>decide (xs.length<=40)&&(xs.all (bS H')&&(decide ((xs.map (aB H')).Nodup)&&decide (∀y∈xs,∀z∈xs,br H' y=br H' z))) |none=>false)=
   (match cX (H a)with |some xs=>decide (xs.length<=40)&&(xs.all (bS H)&&(decide ((xs.map (aB H)).Nodup)&&decide (∀y∈xs,∀z∈xs,br H y=br H z))) |none=>false)
  rw[BE h.1.1 s];cases e:cX (H a)with
  |none=>rfl
  |some xs=>
   have hy:=(h.2 a xs rfl e).2;have e1:xs.all (bS H')=xs.all (bS H):=by
    rw[fM,bP,bP];exact⟨fun z y hm=>by rw[<-mZ (hy y hm) s];exact z y hm,fun z y hm=>by rw[mZ (hy y hm) s];exact z y hm⟩
   have e2:xs.map (aB H')=xs.map (aB H):=fC fun y hm=>zc (hy y hm).1.1 s;have e3:decide (∀y∈xs,∀z∈xs,br H' y=br H' z)=decide (∀y∈xs,∀z∈xs,br H y=br H z):=by
    rw[decide_eq_decide];exact⟨fun w y hm z hz=>by rw[<-md (hy y hm) s,<-md (hy z hz) s];exact w y hm z hz,fun w y hm z hz=>by rw[md (hy y hm) s,md (hy z hz) s];exact w y hm z hz⟩
   show(decide (xs.length<=40)&&(xs.all (bS H')&&(decide ((xs.map (aB H')).Nodup)&&decide (∀y∈xs,∀z∈xs,br H' y=br H' z))))=(decide (xs.length<=40)&&(xs.all (bS H)&&(decide ((xs.map (aB H)).Nodup)&&decide (∀y∈xs,∀z∈xs,br H y=br H z))));rw[e1,e2,e3]
 |_=>rfl
theorem isiX{K:aa}{H:Hp}{a C D:Addr}{b:Bool}{Q:VK}(e:H a=some (B0 a (.ref C)))(o:jP K C=true)(k:bI K (.ref C) (.ref D)=some b)(q:Q (.bl b) H):rBf K .isinstance [.ref a,.ref D] H Q:=
 .inr (.inr ⟨a,C,_,_,b,rfl,e,o,.inr ⟨D,rfl,rfl⟩,k,q⟩)
theorem isiV{K:aa}{H:Hp}{a C:Addr}{b:Bool}{Q:VK}(e:H a=some (B0 a (.ref C)))(o:jP K C=true)(k:bI K (.ref C) (.type "ValueError")=some b)(q:Q (.bl b) H):rBf K .isinstance [.ref a,.ty "ValueError"] H Q:=
 .inr (.inr ⟨a,C,_,_,b,rfl,e,o,.inl ⟨_,rfl,rfl⟩,k,q⟩)
mutual
theorem l6:∀d:D,eqD d d=true
 |.non=>rfl
 |.bl b=>by cases b<;>rfl
 |.int i=>by show(i==i)=true;simp
 |.str x=>by show(x==x)=true;simp
 |.tup ds=>mU ds
 |.lst ds=>mU ds
theorem mU:∀ds:List D,iX ds ds=true
 | []=>rfl
 |d::ds=>by show(eqD d d&&iX ds ds)=true;rw[l6 d,mU ds];rfl
end
end Lt
namespace Kc
open PySem PySem.Spec PyProof.Rows L2 R Cp Lt
theorem gR{J:It}{n:Nat}{it:Nat->V->Hp->Prop}{Hc:Hp->Prop}{g:TG}{tb:TS}{D:Ends}{σ:L2.St}{H:Hp}(S:qk J n it Hc)(Pv:Nat->L2.St->Hp->Prop)(h0:Pv 0 σ H)(hl:∀i σ H,i<=n->Pv i σ H->Hc H)
  (hs:∀i x σ H H' (D2:Ends),i<n->Pv i σ H->it i x H'->aN H H'->(∀σ2 H2,Pv (i+1) σ2 H2->D2.nx σ2 H2)->D2.rt=D.rt->g x σ H' fun σ2 H2=>tb D2 σ2 H2)(hd:∀σ H,Pv n σ H->D.nx σ H):ForB J g tb D σ H:=
 for_seq S Pv h0 hl (fun i x σ H H' a b c d=>hs i x σ H H' _ a b c d (fun _ _ h=>h) rfl) hd
theorem hJ{us:List Value}(h:us.length=1):∃a,us=[a]:=by
 cases us with
 |nil=>exact nomatch h
 |cons a r=>exact⟨a,by rw[bO.mp (mG h)]⟩
theorem jD{us:List Value}(h:us.length=2):∃a b,us=[a,b]:=by
 cases us with
 |nil=>exact nomatch h
 |cons a r=>
  obtain⟨b,e⟩:=hJ (mG h);exact⟨a,b,by rw[e]⟩
theorem Ak{us:List Value}(h:us.length=3):∃a b c,us=[a,b,c]:=by
 cases us with
 |nil=>exact nomatch h
 |cons a r=>
  obtain⟨b,c,e⟩:=jD (mG h);exact⟨a,b,c,by rw[e]⟩
theorem dB{α:Type}{F:α->Prop}{vs:List V}{n:Nat}(h:∃a,F a)(k:∀a,F a->vs.length=n):vs.length=n:=let⟨a,f⟩:=h;k a f
theorem jb{P:Prop}{l vs:List V}{n:Nat}(h:vs=l/\P)(e:l.length=n):vs.length=n:=by rw[h.1];exact e
end Kc
namespace K21
open PySem PySem.Spec PyProof.Rows L2 R Cp Lt Kc
noncomputable def Dr(H:Hp)(nf:Nat->Str)(n:Nat)(ys:List V):Prop:=∀(i:Nat) y,ys[i]? =some y->∃b r zs,y=.ref b/\H b=some (.tup [.str (nf i),.ref r])/\H r=some (.tup zs)/\zs.length=n/\∀z∈zs,aG z=true
theorem ma{H:Hp}{nf:Nat->Str}{n:Nat}{ys:List V}(hnf:∀i,dZ (nf i)=true)(d:Dr H nf n ys)(hn:n<=60){i:Nat}{y:V}(e:ys[i]? =some y):bS H y=true/\aB H y=nf i/\br H y=n/\Kn3 H y:=by
 obtain⟨b,r,zs,rfl,h1,h2,h3,h4⟩:=d i y e;have ar:b9 H (.ref r)=true:=by
  show(match bF (H r)with |some xs=>decide (xs.length<=60)&&xs.all aG|none=>false)=true;rw[h2];show(decide (zs.length<=60)&&zs.all aG)=true;rw[decide_eq_true (by omega),cy,bP];exact h4
 have hl:(nf i).length<=20000:=by
  have :=hnf i
  unfold dZ at this;rw[aw,decide_eq_true_eq]at this;omega
 refine⟨?_,?_,?_,⟨mS h1,fun z e=>nomatch e⟩,fun a xs e hx=>?_⟩
 ·show(match bF (H b)with |some [n,r]=>isName n&&b9 H r|_=>false)=true
  rw[h1];show(dZ (nf i)&&b9 H (.ref r))=true;rw[hnf,ar];rfl
 ·show(match bF (H b)with |some (.str z::_)=>z|_=>("":Str))=_
  rw[h1];rfl
 ·show(match bF (H b)with |some [_,.ref b]=>(bF (H b)).elim 0 cF|_=>0)=n
  rw[h1];show(bF (H r)).elim 0 cF=n;rw[h2];exact h3
 ·injection e with e
  subst e;rw[h1]at hx;cases hx;refine⟨by show 2<=20000;decide,fun y hy=>?_⟩;simp only[aO,d9,or_false]at hy;rcases hy with rfl|rfl
  ·exact⟨⟨o4,fun z e=>by injection e with e;rw[<-e];exact hl⟩,fun a xs e=>nomatch e⟩
  ·refine⟨⟨mS h2,fun z e=>nomatch e⟩,fun a xs e hx=>?_⟩
   injection e with e;subst e;rw[h2]at hx;cases hx;refine⟨by omega,fun z hz=>?_⟩;rcases cq (h4 z hz)with rfl|rfl
   ·exact⟨ll,fun z e=>nomatch e⟩
   ·exact⟨ll,fun z e=>nomatch e⟩
theorem vd{H:Hp}{nf:Nat->Str}{n:Nat}{ys:List V}{t:Addr}(hnf:∀i,dZ (nf i)=true)(hinj:∀i j,i<ys.length->j<ys.length->nf i=nf j->i=j)(ht:H t=some (.lst ys))(d:Dr H nf n ys)(hl:ys.length<=40)(hn:n<=60):Kn4 H (.ref t)/\cY H (.ref t)=true/\(∀y∈ys,bS H y=true)/\∀y∈ys,br H y=n:=by
 have at':∀y∈ys,∃i,ys[i]? =some y:=fun y hy=>cO.mp hy;have cp:∀y∈ys,bS H y=true:=fun y hy=>let⟨i,e⟩:=at' y hy;(ma hnf d hn e).1;have ct:∀y∈ys,br H y=n:=fun y hy=>let⟨i,e⟩:=at' y hy;(ma hnf d hn e).2.2.1;refine⟨⟨⟨sG ht,fun z e=>nomatch e⟩,fun a xs e hx=>?_⟩,?_,cp,ct⟩
 ·injection e with e
  subst e;rw[ht]at hx;cases hx;exact⟨by omega,fun y hy=>let⟨i,e⟩:=at' y hy;(ma hnf d hn e).2.2.2⟩
 ·show(match cX (H t)with |some xs=>decide (xs.length<=40)&&(xs.all (bS H)&&(decide ((xs.map (aB H)).Nodup)&&decide (∀y∈xs,∀z∈xs,br H y=br H z))) |none=>false)=true
  rw[ht];show(decide (ys.length<=40)&&(ys.all (bS H)&&(decide ((ys.map (aB H)).Nodup)&&decide (∀y∈ys,∀z∈ys,br H y=br H z))))=true;rw[decide_eq_true hl,cy,aw,aw,bP,decide_eq_true_eq,decide_eq_true_eq];refine⟨cp,?_,fun y hy z hz=>by rw[ct y hy,ct z hz]⟩;show List.Pairwise (fun a b=>a≠b) _;rw[aX];intro i j hi hj hij e;rw[aC]at hi hj;rw[dt,dt,(ma hnf d hn (ae hi)).2.1,(ma hnf d hn (ae hj)).2.1]at e;have :=hinj i j hi hj e;omega
end K21
namespace K22
open PySem PySem.Spec PyProof.Rows L2 R Cp Lt Kc K21
section
variable {G:Gam}{K:aa}
section
variable {E:XS}{D2:Ends}{H:Hp}{a nd lk fr sm:Addr}{ns:List Int}{n k:Nat}{sd d0:Int}{ys ls:List V}
theorem uZ{ns:List Int}(hk':k<ns.length):(ns.map V.int)[k]? =some (.int (ns.getD k 0)):=by
 rw[bq,ae hk',ah,ae hk'];rfl
end
end
end K22
namespace Lm
open PySem PySem.Spec PySem.W PyProof.Rows L2 Q
noncomputable abbrev Kp(h h':Heap):Prop:=∀b o,h.get? b=some o->h'.get? b=some o
section
variable {prog:Program}{w:World}{A:Around}{E:Value->Shared->Prop}{s:Shared}
theorem Cg{Q:Value->Shared->Prop}{qual x:Str}{params:Arguments}{scope:Scope}{pm ctv k:Value}{c' f b:Addr}{p1 p2 p3:Pos}{j:Nat}{its:Array Value}
  (hf:s.heap.get? f=some (kla_obj "<lambda>" qual params (.Subscript (.Name x p1) (.Constant (.int 0) j p2) p3) scope [] pm c' ctv))(hc:s.heap.CodeRec (.ref c') qual)(hroom:A.depth<gT)(hnl:s.heap.NoLimit)
  (hb:∀v,lE (kla_fn "<lambda>" qual params (.Subscript (.Name x p1) (.Constant (.int 0) j p2) p3) scope [] pm (.ref c') ctv) ⟨[v],[]⟩=pure [(x,v)])
  (hx:scope.names.lookup x=some .local)(hd:(x==("__debug__":Str))=false)(hk:scope.kind=.function)(hcell:∀y∈scope.names,y.2≠.cell)(hco:scope.isCoroutine=false)(hgen:scope.isGenerator=false)
  (ht:IsTup s.heap b its)(h0:its[0]? =some k)(h:∀h' t',Kp s.heap h'->Q k {s with heap:=h',toks:=t'}):wpAny (model prog w) A (call (.ref f) [.ref b]) Q E s:=by
 refine qm (kla_callFunE hroom hf rfl hco hgen rfl hc ?_);rw[hb];refine ak (wpAny_newFunctionEnv hcell (fun y hy=>?_) (fun h₁ hns hsb=>⟨hnl.fresh _ hsb,?_⟩) hk)
 ·have e:y=(x,.ref b):=by simpa using hy
  rw[e];exact hx
 have hk₁:Kp s.heap h₁:=fun b o e=>hsb.extBut b o (a0 (ay e)) (ag _ e);refine kla_codeExpr (Subscript_ (zJ (wpAny_loadName_local hk hx hns (v:=.ref b) (by simp) ?_) hd));refine wpAny_Constant_int ?_;have ht':IsTup h₁ b its:=by
  obtain⟨o,e,c⟩:=ht;exact⟨o,hk₁ _ _ e,c⟩
 have hsz:0<its.size:=by
  rcases Nat.eq_zero_or_pos its.size with z|z
  ·rw[Array.getElem?_eq_none (by omega)]at h0;cases h0
  ·exact z
 exact mq (x:=k) ht'.typeIs slot_tuple_getitem.lookup
  (getItem_tuple (j:=0) (Q:=fun r s'=>r=k/\_) ht' (by decide) (by decide) (by rw[seqIndex_of (by decide) (by omega)];rfl) h0 ⟨rfl,h _ _ hk₁⟩) rfl
noncomputable def Keys(prog:Program)(w:World)(A:Around)(f:Value)(vs:List Value)(ks:List Str)(h0:Heap):Prop:=
 ∀(i:Nat)(v:Value)(k:Str),vs[i]? =some v->ks[i]? =some k->∀(s1:Shared)(E:Value->Shared->Prop)(Q':Value->Shared->Prop),Kp h0 s1.heap->
  (∀t h' t',Kp s1.heap h'->Q' (.str k t) {s1 with heap:=h',toks:=t'})->wpAny (model prog w) A (call f [v]) Q' E s1
theorem strs_snoc{k:Str}{t:Tok}:∀{vs:List Value}{ks:List Str},tj vs ks->tj (vs++[.str k t]) (ks++[k])
 |_,_,.nil=>.cons k t .nil
 |_,_,.cons y u h=>.cons y u (strs_snoc h)
theorem xA{a kS:Addr}{kv out:List Value}{e e1:Nat}{st:SortSt}{P:vG->Shared->Prop}(hout:(arrOf st).map (·.2)=cS out)(hz:out.length<64)(hkz:kv.length<64)(hf:cB st=none)
  (hk:s.heap.get? kS=some (seqObj "list" kv.toArray e))(ha:s.heap.get? a=some (seqObj "list" #[] e1))(hne:kS≠a)
  (h:∀h' c,(∀b o,b≠a->b≠kS->s.heap.get? b=some o->h'.get? b=some o)->h'.get? a=some (seqObj "list" out.toArray c)->P (.done (.ret .none)) {s with heap:=h'}):
  wpAny (model prog w) A (ksk_tail a false e1 (.ref kS) st) P E s:=by
 have s1:=dE s.heap kS (bf fun _=>(#[]:Array Value));have ha1:(s.heap.update kS (bf fun _=>(#[]:Array Value))).get? a=some (seqObj "list" #[] e1):=(s1.2 a (dD hne)).trans ha;have s2:=dE (s.heap.update kS (bf fun _=>(#[]:Array Value))) a (bf fun _=>cS out);obtain⟨c2,hc2⟩:∃c2,((s.heap.update kS (bf fun _=>(#[]:Array Value))).update a (bf fun _=>cS out)).get? a=some (seqObj "list" (cS out) c2):=⟨_,mC ha1 fun _=>cS out⟩;unfold ksk_tail;try dsimp only
 rw[hout];refine af (fX hk rfl ?_ (by rw[av];exact i8 hkz) (aW _));refine af (wpAny_letGo ?_);refine af (nY ha1 rfl ?_);refine af (fX ha1 rfl ?_ (aW _) (by simpa using xD hz));rw[hf];simp only[bne_self_eq_false,bt,if_false];exact ak (h _ c2 (fun b o h1 h2 q=>(s2.2 b h1).trans ((s1.2 b h2).trans q)) hc2)
theorem end_ok{a kS:Addr}{kv vs:List Value}{ks:List Str}{e e1:Nat}{P:vG->Shared->Prop}(nd:ks.Nodup)(r:tj kv ks)(hl:ks.length=vs.length)(h64:vs.length<64)
  (hk:s.heap.get? kS=some (seqObj "list" kv.toArray e))(ha:s.heap.get? a=some (seqObj "list" #[] e1))(hne:kS≠a)
  (h:∀h' c,(∀b o,b≠a->b≠kS->s.heap.get? b=some o->h'.get? b=some o)->h'.get? a=some (seqObj "list" (fI (jN ks) vs).toArray c)->P (.done (.ret .none)) {s with heap:=h'}):
  wpAny (model prog w) A (ksk_end a false vs.toArray e1 (.ref kS) (cS kv)) P E s:=by
 have hv:vs.toArray.size=vs.length:=by simp
 have hkl:=oE r;have hlen:kv.length=vs.length:=hkl.trans hl;unfold ksk_end;simp only[bt,if_false];by_cases hn:vs.length<2
 ·have eo:fI (jN ks) vs=vs:=if_pos hn
  rw[eo]at h;rw[if_pos (by rw[hv];exact hn),if_pos (by rw[hv];exact hn)];refine af (ak (af ?_));rw[StateT.run_pure];refine ak (xA (out:=vs) ?_ h64 (by omega) rfl hk ha hne h);show(kv.toArray.zip vs.toArray).map (·.2)=vs.toArray;apply CY;simp[List.map_snd_zip,hlen]
 ·have h2:2<=vs.length:=by omega
  have eo:fI (jN ks) vs=(run (jN ks) (bw vs.length)).toList.map fun i=>vs.getD i .none:=if_neg hn;rw[eo]at h;rw[if_neg (by rw[hv];exact hn),if_neg (by rw[hv];exact hn)];obtain⟨κ,hk1,hk2⟩:=zI (prog:=prog) (w:=w) (A:=A) (h0:=s.heap) r (by omega) s (fun _ _ q=>q);have T:Tot (jN ks) vs.length:=by rw[<-hl];exact oz nd
  obtain⟨P1,U1,O1⟩:=gm T (by omega:1<=vs.length);refine af (hk1 _ _ (af ?_));have key:=kat_run (prog:=prog) (w:=w) (A:=A) (E:=E) (κ:=κ) (ks:=kv) (vs:=vs) (s:=s)
   (Q:=fun st' s'=>s'=s/\arrOf st'=(run (jN ks) (bw vs.length)).map (kas_item (kv.toArray.zip vs.toArray))/\cB st'=none)
   (G:=fun p s'=>s'=s/\p=run (jN ks) (bw vs.length)) hlen h2 h64
   (fun p st' s' _ e1 e2 e3=>⟨e3.1,by rw[e1,e3.2],e2⟩)
   (wp_run (S:=fun s'=>s'=s) (fun i j C s' hi hj hij hs hC=>by
    subst hs;exact hk2 i j C (by omega) (by omega) hij (hC _ rfl)) _ _ O1 rfl fun s' hs=>⟨hs,rfl⟩)
  refine dk key ?_ fun _ _ z=>z;rintro⟨⟨⟩,st'⟩ s' ⟨rfl,har,hf⟩;exact xA (kat_snds hlen har) (by rw[aC,ax,P1.size];exact h64) (by omega) hf hk ha hne h
theorem AF{a:Addr}{n:Nat}{h0:Heap}{f:Value}{vs:List Value}{ks:List Str}{P:vG->Shared->Prop}(nd:ks.Nodup)(hl:ks.length=vs.length)(ho:s.heap.get? a=some (seqObj "list" vs.toArray n))
  (k0:∀b o,h0.get? b=some o->s.heap.get? b=some o/\b≠a)(h64:vs.length<64)(ky:Keys prog w A f vs ks h0)
  (h:∀h' t' c,(∀b o,b≠a->s.heap.get? b=some o->h'.get? b=some o)->h'.get? a=some (seqObj "list" (fI (jN ks) vs).toArray c)->P (.done (.ret .none)) {s with heap:=h',toks:=t'}):
  wpAny (model prog w) A (ksk_tree a f false) P E s:=by
 have hv:vs.toArray.size=vs.length:=by simp
 have ha0:a<s.heap.objs.size:=ay ho;have s1:=dE s.heap a (bf fun _=>(#[]:Array Value));obtain⟨e1,ho1⟩:∃e1,(s.heap.update a (bf fun _=>(#[]:Array Value))).get? a=some (seqObj "list" #[] e1):=⟨_,mC ho fun _=> #[]⟩;unfold ksk_tree;refine af (listItems_at ho rfl ?_);refine af (fX ho rfl ?_ (by rw[hv];exact i8 h64) (aW _));refine af (nY ho1 rfl ?_);refine af (wpAny_newTuple ?_ (show vs.length<=_ from i8 h64));refine af (pM ?_ (aW _));refine cZ ?_;have ha1:((s.heap.update a (bf fun _=>(#[]:Array Value))).push (seqObj "tuple" vs.toArray 0)).get? a=some (seqObj "list" #[] e1):=ag _ ho1;have kp1:∀b o,b≠a->s.heap.get? b=some o->((s.heap.update a (bf fun _=>(#[]:Array Value))).push (seqObj "tuple" vs.toArray 0)).get? b=some o:=fun b o hb q=>ag _ ((s1.2 b hb).trans q);have hsz:s.heap.objs.size<((s.heap.update a (bf fun _=>(#[]:Array Value))).push (seqObj "tuple" vs.toArray 0)).objs.size:=by rw[size_push',pQ];omega
 show wpAny _ _ (ksk_rest a f false vs.toArray e1 (.ref ((s.heap.update a (bf fun _=>(#[]:Array Value))).push (seqObj "tuple" vs.toArray 0)).objs.size)) _ _
  {s with heap:=((s.heap.update a (bf fun _=>(#[]:Array Value))).push (seqObj "tuple" vs.toArray 0)).push (seqObj "list" #[] 0)}
 generalize(s.heap.update a (bf fun _=>(#[]:Array Value))).push (seqObj "tuple" vs.toArray 0)=h1 at ha1 kp1 hsz⊢;have hne:h1.objs.size≠a:=iP (iQ ha0 hsz);unfold ksk_rest;refine af (ee ?_)
 first
  |rw[List.forIn_toArray]
  | (rw[<-CW];simp only[CM])
  |rw[<-CW]
 refine af (ksk_fold (fun i s'=>∃h2 t2 kv e,s'={s with heap:=h2,toks:=t2}/\tj kv (ks.take i)/\h2.get? h1.objs.size=some (seqObj "list" (cS kv) e)/\h2.get? a=some (seqObj "list" #[] e1)/\∀b o,b≠a->s.heap.get? b=some o->h2.get? b=some o)
  vs 0 _ ⟨_,s.toks,[],0,rfl,by rw[fc];exact .nil,aK _ rfl,ag _ ha1,fun b o hb q=>ag _ (kp1 b o hb q)⟩ ?_ ?_)
 ·rintro j x s' hx ⟨h2,t2,kv,e,rfl,r,hk,ha,kp⟩
  rw[dm]at r;have hj:j<vs.length:=(aU.mp hx).1;have hkj:ks[j]? =some (ks[j]'(by omega)):=ae (by omega);have hkv:kv.length=j:=by rw[oE r,aA];omega
  refine af (pN (ky j x _ hx hkj _ _ _ (fun b o q=>kp b o (k0 b o q).2 (k0 b o q).1) fun t h3 t3 k3=>?_));have s3:=dE h3 h1.objs.size (bf (·.push (dF (ks[j]'(by omega)) t)));have ea:(cS kv).push (dF (ks[j]'(by omega)) t)=cS (kv++[dF (ks[j]'(by omega)) t]):=by simp
  obtain⟨c2,hc2⟩:∃c2,(h3.update h1.objs.size (bf (·.push (dF (ks[j]'(by omega)) t)))).get? h1.objs.size=some (seqObj "list" (cS (kv++[dF (ks[j]'(by omega)) t])) c2):=⟨_,by rw[<-ea];exact mC (k3 _ _ hk) (·.push _)⟩;try dsimp only
  refine af (fX (k3 _ _ hk) rfl ?_ (by rw[av];exact i8 (by omega)) (aI (zQ (bV ..)) (by rw[av];exact xD (by omega))));refine ak ⟨rfl,_,t3,kv++[dF (ks[j]'(by omega)) t],c2,rfl,?_,hc2,(s3.2 a (dD hne)).trans (k3 _ _ ha),fun b o hb q=>(s3.2 b (a0 (iQ (ay q) hsz))).trans (k3 _ _ (kp b o hb q))⟩;rw[dm,da,hkj];exact strs_snoc r
 ·rintro s' ⟨h2,t2,kv,e,rfl,r,hk,ha,kp⟩
  rw[dm,cJ (by omega)]at r;try dsimp only
  refine af (listItems_at hk rfl ?_);exact end_ok nd r hl h64 hk ha hne fun h' c k q=>h h' t2 c (fun b o hb z=>k b o hb (a0 (iQ (ay z) hsz)) (kp b o hb z)) q
theorem wg{l q:Addr}{vs:List Value}{ks:List Str}{Q:Value->Shared->Prop}(nd:ks.Nodup)(hlk:ks.length=vs.length)(hl:s.heap.IsList l vs.toArray)(h64:vs.length<64)(ky:Keys prog w A.in1.in1 (.ref q) vs ks s.heap)
  (h:∀h' t' c,Kp s.heap h'->h'.get? (s.heap.objs.size+1)=some (seqObj "list" (fI (jN ks) vs).toArray c)->Q (.ref (s.heap.objs.size+1)) {s with heap:=h',toks:=t'}):
  wpAny (model prog w) A (call (.builtin "sorted") [.ref l] [(aV "key",.ref q)]) Q E s:=by
 refine call_function_entry_kw kind_sorted plain_sorted entry_sorted (ksk_s1 _ _) ?_;unfold Builtin.«sorted»;refine af (m:=checkCount "sorted" 1 1 _) (ak ?_);refine af (collect_list hl ?_ (by simpa using i8 h64));refine af (pM ?_ (show vs.length<=_ from i8 h64));have hz:((s.heap.push (seqObj "list" #[] 0)).update s.heap.objs.size (bf (·++vs.toArray))).objs.size=s.heap.objs.size+1:=by rw[pQ,size_push']
 have kp:Kp s.heap ((s.heap.push (seqObj "list" #[] 0)).update s.heap.objs.size (bf (·++vs.toArray))):=fun b o e=>by
  have hb:=ay e;rw[bb _ _ (iP hb)];exact ag _ e
 have hg:(((s.heap.push (seqObj "list" #[] 0)).update s.heap.objs.size (bf (·++vs.toArray))).push (seqObj "list" vs.toArray 0)).get? (s.heap.objs.size+1)=some (seqObj "list" vs.toArray 0):=by
  rw[<-hz];exact aK _ rfl
 show wpAny _ _ _ _ _ {s with heap:=((s.heap.push (seqObj "list" #[] 0)).update s.heap.objs.size (bf (·++vs.toArray))).push (seqObj "list" vs.toArray 0)};rw[hz];have kp2:Kp s.heap (((s.heap.push (seqObj "list" #[] 0)).update s.heap.objs.size (bf (·++vs.toArray))).push (seqObj "list" vs.toArray 0)):=fun b o e=>ag _ (kp b o e);generalize((s.heap.push (seqObj "list" #[] 0)).update s.heap.objs.size (bf (·++vs.toArray))).push (seqObj "list" vs.toArray 0)=h1 at hg kp2⊢;refine af (cZ (wpAny_call_entry_kw slot_list_sort ⟨_,hg,rfl⟩ entry_list_sort ?_ (ksk_l1 _ _)));show wpAny (model prog w) A.in1.in1 (Builtin.«list.sort» ⟨[.ref (s.heap.objs.size+1)],[(aV "key",.ref q)]⟩) _ _ _;rw[ksk_t1];exact AF (s:={s with heap:=h1}) nd hlk hg (fun b o e=>⟨kp2 b o e,a0 (dP (ay e))⟩) h64 ky fun h' t' c k z=>⟨_,rfl,ak ⟨_,rfl,h h' t' c (fun b o e=>k b o (a0 (dP (ay e))) (kp2 b o e)) z⟩⟩
end
structure Tb where
 P:Addr
 pos:Pos
 q:Str
noncomputable def Tab(T:Tb)(H:Hp):Prop:=H T.P=some (.tbl #[])\/∃c' oc u vs t,H T.P=some (.tbl #[rawInt T.pos.line,rawInt T.pos.col,.ref c'])/\H c'=some (.frz oc u)/\oc.data=.fields vs/\vs[1]? =some (.str T.q t)
structure Gr(T:Tb)(H H':Hp):Prop where
 keep:∀b o,b≠T.P->H b=some o->H' b=some o
 tab:Tab T H->Tab T H'
theorem Gr.refl(T:Tb)(H:Hp):Gr T H H:=⟨fun _ _ _ e=>e,fun t=>t⟩
theorem Gr.trans{T:Tb}{H H1 H2:Hp}(a:Gr T H H1)(b:Gr T H1 H2):Gr T H H2:=⟨fun c o n e=>b.keep c o n (a.keep c o n e),fun t=>b.tab (a.tab t)⟩
theorem Gr.of{T:Tb}{H H':Hp}(e:aN H H'):Gr T H H':=
 ⟨fun b o _ q=>e b o q,fun t=>by
  rcases t with t|⟨c',oc,u,vs,tk,h1,h2,h3,h4⟩
  ·exact .inl (e _ _ t)
  ·exact .inr ⟨c',oc,u,vs,tk,e _ _ h1,e _ _ h2,h3,h4⟩⟩
theorem Tab.ne{T:Tb}{H:Hp}(t:Tab T H){b:Addr}{o:HO}(e:H b=some o)(n:∀ps,o≠.tbl ps):b≠T.P:=by
 intro z;subst z;rcases t with t|⟨c',oc,u,vs,tk,h1,h2,h3,h4⟩
 ·rw[t]at e;exact n _ (a9 e).symm
 ·rw[h1]at e;exact n _ (a9 e).symm
section
variable {K:aa}{T:Tb}{H H':Hp}{a:Addr}{xs:List V}
theorem Gr.at(g:Gr T H H')(t:Tab T H){o:HO}(e:H a=some o)(n:∀ps,o≠.tbl ps):H' a=some o:=g.keep a o (t.ne e n) e
theorem Gr.lst(g:Gr T H H')(t:Tab T H)(e:H a=some (.lst xs)):H' a=some (.lst xs):=g.at t e fun _ z=>by cases z
theorem Gr.tR(g:Gr T H H')(t:Tab T H)(e:H a=some (.tup xs)):H' a=some (.tup xs):=g.at t e fun _ z=>by cases z
theorem Gr.frz(g:Gr T H H')(t:Tab T H){o:Obj}{u:HO}(e:H a=some (.frz o u)):H' a=some (.frz o u):=g.at t e fun _ z=>by cases z
theorem Gr.seq(g:Gr T H H')(t:Tab T H)(h:SqL K H a xs):SqL K H' a xs:=by
 rcases h with(h|⟨o,h⟩) |h
 ·exact .inl (.inl (g.lst t h))
 ·exact .inl (.inr ⟨o,g.frz t h⟩)
 ·exact .inr h
end
theorem un_tab{P:Program}{w:World}{fs:List Addr}{H:Hp}{h h':Heap}{p c':Addr}{oc:Obj}{ps more:Array Value}(hok:HOk P w H h)(hx:∀b o,b≠p->h.get? b=some o->h'.get? b=some o)(hP:H p=some (.tbl ps))(hge:h.objs.size<=c')
  (hp':h'.get? p=some (tabObj (ps++more)))(hc:h'.get? c'=some oc):
  Un fs [] H (upd (upd H c' (.frz oc (.ext fun _=>True))) p (.tbl (ps++more))) h h'/\HOk P w (upd (upd H c' (.frz oc (.ext fun _=>True))) p (.tbl (ps++more))) h':=by
 have hn:H c'=none:=hok.fresh hge;have ne:c'≠p:=dD (bD hP hn);have out:∀{b:Addr}{o:HO},H b=some o->b≠p->upd (upd H c' (.frz oc (.ext fun _=>True))) p (.tbl (ps++more)) b=some o:=fun{b o} e n=>by
  rw[bo n,bo (bD e hn)];exact e
 have nt:∀{b:Addr}{o:HO},H b=some o->(∀vs,o≠.tbl vs)->b≠p:=fun{b o} e n z=>by
  subst z;rw[hP]at e;exact n _ (a9 e).symm
 refine⟨⟨fun b o e n _ _=>hx b o (fun z=>by rw[z,hP]at n;cases n) e,fun b o e n _ _=>⟨o.slots,hx b o (fun z=>by rw[z,hP]at n;cases n) e⟩,fun b o e n _=>?_,fun b o e _=>?_,fun b xs e=>out e (nt e fun _ z=>by cases z),
  fun b o u e=>out e (nt e fun _ z=>by cases z),fun b vs e=>?_⟩,fun b o e=>?_⟩
 ·have hb:b≠p:=fun z=>by rw[z,hP]at n;cases n
  rw[bo hb,bo (a0 (aS (ay e) hge))];exact n
 ·by_cases hb:b=p
  ·exact⟨_,by rw[hb];exact hp'⟩
  ·exact⟨o,hx b o hb e⟩
 ·by_cases hb:b=p
  ·subst hb
   rw[hP]at e;cases e;exact⟨more,aE⟩
  ·exact⟨#[],by rw[out e hb];simp⟩
 ·by_cases hb:b=p
  ·subst hb
   rw[aE]at e;cases e;exact hp'
  ·rw[bo hb]at e
   by_cases hc2:b=c'
   ·subst hc2
    rw[aE]at e;cases e;exact⟨hc,trivial,⟨_,hc⟩,fun _ _ _ _=>trivial⟩
   ·rw[bo hc2]at e
    refine(hok b o e).oH (fun d v hd q=>hx d v ?_ q) (fun d q=>out q (nt q fun _ z=>by cases z)) fun d xs q=>out q (nt q fun _ z=>by cases z);rcases hd with z|z
    ·rw[z];exact hb
    ·exact nt z fun _ y=>by cases y
noncomputable def BM(mg:Str->Option Value)(h:Heap):Prop:=∃bm ob,mg "__builtins__"=some (.ref bm)/\bm≠jw/\bm≠bh/\h.get? bm=some ob/\ob.cls=.type "module"/\ob.dict=some jw/\ob.data=.plain
noncomputable def rSortK(K:aa)(T:Tb):List V->Hp->VK->Prop:=fun xs H Q=>∃a ys ks,xs=[V.ref a]/\SqL K H a ys/\ks.length<64/\ks.Nodup/\ki H ys ks/\Tab T H/\
 ∀H2 l,Gr T H H2->H2 l=none->Q (.ref l) (upd H2 l (.lst (sortBy .non ks ys)))
noncomputable def oA(K:aa)(T:Tb)(te:TE):TE:=fun σ H Q=>nr te tW σ H fun xs H1=>rSortK K T xs H1 Q
structure Cu(env:Env)(params:Arguments)(x:Str)(body:Expr)(scope:Scope):Prop where
 cl:zM scope env=pure []
 df:defaultsOf params env=([],[])
 bd:∀(qual:Str)(pm ctv v:Value)(c':Addr),lE (kla_fn "<lambda>" qual params body scope [] pm (.ref c') ctv) ⟨[v],[]⟩=pure [(x,v)]
 lk:scope.names.lookup x=some .local
 dbg:(x==("__debug__":Str))=false
 kd:scope.kind=.function
 nc:∀y∈scope.names,y.2≠.cell
 co:scope.isCoroutine=false
 gn:scope.isGenerator=false
section
variable {X:Cx}{e:Expr}{te:TE}{T:Tb}{c:Addr}{p kp pos p1 p2 p3:Pos}{x:Str}{j:Nat}{params:Arguments}{scope:Scope}
theorem yd{prog:Program}{w:World}{A:Around}{H:Hp}{s:Shared}{f c':Addr}{qual:Str}{pm ctv:Value}(O:Cu X.env params x (.Subscript (.Name x p1) (.Constant (.int 0) j p2) p3) scope)(ok:HOk X.prog X.w H s.heap)
  (hf:s.heap.get? f=some (kla_obj "<lambda>" qual params (.Subscript (.Name x p1) (.Constant (.int 0) j p2) p3) scope [] pm c' ctv))(hc:s.heap.CodeRec (.ref c') qual)(hroom:A.depth<gT)(hnl:s.heap.NoLimit):
  ∀{ys:List V}{ks:List Str}{vs:List Value},ki H ys ks->bU ys vs->Keys prog w A (.ref f) vs ks s.heap
 |_,_,_,.nil,.nil=>fun i v k h1=>by simp at h1
 |_,_,_,.cons y t,.cons r q=>by
  intro i v k h1 h2 s1 E Q' kp hq;cases i with
  |zero=>
   obtain⟨a,rest,rfl,ea⟩:=y;cases r;have e1:v=cu a:=by simpa using h1.symm
   subst e1;obtain⟨_,its,rv,o,g1,g2,n,g3⟩:=ok a _ ea;cases rv with
   |cons r0 _=>
    obtain⟨tk,rfl⟩:=r0;obtain rfl:=a9 h2;exact Cg (kp _ _ hf) (hc.keeps kp) hroom (hnl.keeps kp) (fun v=>O.bd _ _ _ v _) O.lk O.dbg O.kd O.nc O.co O.gn ⟨o,kp _ _ g1,g2,n,g3⟩ (by simp) fun h' t' k'=>hq tk h' t' k'
  |succ i=>exact yd O ok hf hc hroom hnl t q i v k (by simpa using h1) (by simpa using h2) s1 E Q' kp hq
theorem qC{pins:List (Addr×Obj)}{σ:L2.St}{H:Hp}{s:Shared}{Q:VK}{a f c':Addr}{ys:List V}{ks:List Str}{pm ctv:Value}(O:Cu X.env params x (.Subscript (.Name x p1) (.Constant (.int 0) j p2) p3) scope)(I:Inv X pins σ H s)
  (hf:s.heap.get? f=some (kla_obj "<lambda>" T.q params (.Subscript (.Name x p1) (.Constant (.int 0) j p2) p3) scope [] pm c' ctv))(hc:s.heap.CodeRec (.ref c') T.q)(hroom:X.A.depth<gT)
  (hq:SqL X.K H a ys)(h64:ks.length<64)(nd:ks.Nodup)(hk:ki H ys ks)(q:∀l,H l=none->Q (.ref l) (upd H l (.lst (sortBy .non ks ys)))):
  wpAny (model X.prog X.w) X.A (call (.builtin "sorted") [.ref a] [(aV "key",.ref f)]) (EP X pins σ Q) X.xe s:=by
 obtain⟨its,r',pl,hz⟩:=I.list hq;have hl:ks.length=ys.length:=nq hk;have hlen:=r'.length;have hv:ks.length=its.length:=by omega
 refine wg nd hv pl.isList (by omega) (yd (A:=X.A.in1.in1) O I.hok hf hc hroom I.nolimit hk r') fun h' t' cc k hc'=>?_;have hz2:(sortBy V.non ks ys).length<=sizeLine:=by
  unfold sortBy;rw[aC,ord_len ks nd];omega
 exact⟨.ref (s.heap.objs.size+1),_,I.laid (t':=t') k (jq _) (show dN X.prog X.w _ _ _ (.lst (sortBy .non ks ys))from⟨hz2,_,cc,Bt nd hl r',hc'⟩),rfl,q _ (I.hok.fresh (jq _))⟩
theorem Bg(he:PE X e te)(hs:bB [e] X.env=(false,eval e X.env)::bB [] X.env)(hg:Gl X "sorted")(hm:X.mg "sorted"=none)(hcode:X.env.code=.ref c)(hC:CodeHd X.base c T.P)(hq:X.env.qual++"<lambda>"=T.q)(hb:BM X.mg X.base)
  (O:Cu X.env params x (.Subscript (.Name x p1) (.Constant (.int 0) j p2) p3) scope)(hroom:X.A.depth<gT):
  PE X (.Call (.Name "sorted" p) [e] [⟨some (aV "key"),.Lambda params (.Subscript (.Name x p1) (.Constant (.int 0) j p2) p3) scope T.pos,kp⟩] pos) (oA X.K T te):=by
 intro pins s σ H Q I h;refine eO (mR (u:=.builtin "sorted") I hg hm (by decide+kernel) ?_);refine callWith_kw (thn (iu he lj hs pos pins s σ H _ I h) fun us s1 ⟨vs,H1,I1,r,a,ys,ks,ev,sq,h64,nd,hk,tb,q⟩=>?_) (by rw[hs];rfl) (by rw[hs];rfl);subst ev;obtain⟨u,rfl,rx⟩:=vals1 r;cases rx;obtain⟨bm,ob,b1,b2,b0,b3,b4,b5,b6⟩:=hb;have hgs:s1.heap.Ns bh X.mg:=I1.mod.glob.keeps I1.bk;have hbP:bm≠T.P:=fun z=>by
  have n:=(I1.bs _ _ b3).2;rw[z]at n;rcases tb with t|⟨_,_,_,_,_,t,_⟩<;>(rw[t]at n;cases n)
 have hgP:bh≠T.P:=fun z=>by
  obtain⟨o,es,ep,g1,g2,_⟩:=I1.mod.glob;have n:=(I1.bs _ _ g1).2;rw[z]at n;rcases tb with t|⟨_,_,_,_,_,t,_⟩<;>(rw[t]at n;cases n)
 have hB:s1.heap.BuiltinsAt X.mg T.P:=⟨bm,ob,b1,b2,b0,hbP,I1.bk _ _ b3,b4,b5,b6⟩;refine kws_cons (kla_eval O.df ?_);rw[hq];rcases tb with t|⟨c',oc,u,vs,tk,t,hcT,hoc,hvs⟩
 ·refine kla_makeFunction (mg:=X.mg) O.cl I1.ok.glob hgs hcode (hC.keeps I1.bk) (ps:= #[]) (I1.hok _ _ t) True.intro rfl hgP hB fun c' ctv h' tk hx hge hlt hrec htb=>kws_nil ?_
  obtain⟨c2,oc,vs,t2,ec,hoc,hd,hv⟩:=hrec;cases ec;have hx':∀b o,b≠T.P->s1.heap.get? b=some o->(h'.push (kla_obj "<lambda>" T.q params (.Subscript (.Name x p1) (.Constant (.int 0) j p2) p3) scope [] ((X.mg "__name__").getD .none) c' ctv)).get? b=some o:=fun b o n e=>ag _ (hx b o n e);obtain⟨un,ok⟩:=un_tab (fs:=frs X.stack) I1.hok hx' t hge (ag _ htb) (ag _ hoc);have I2:=I1.call (g':=s1.gens) (t':=tk) (d':=s1.drawn) un ok I1.bare (fun b z=>absurd z (by simp));have tb1:Tab T H1:=.inl t;have gr:Gr T H1 (upd (upd H1 c' (.frz oc (.ext fun _=>True))) T.P (.tbl (#[]++ #[rawInt T.pos.line,rawInt T.pos.col,cu c']))):=by
   have hn:H1 c'=none:=I1.hok.fresh hge;refine⟨fun b o n e=>by rw[bo n,bo (bD e hn)];exact e,fun _=>.inr ⟨c',oc,.ext fun _=>True,vs,t2,?_,?_,hd,hv⟩⟩
   ·rw[aE];simp
   ·rw[bo (dD (bD t hn)),aE]
  exact qC O I2 (aK _ rfl) ⟨c',oc,vs,t2,rfl,ag _ hoc,hd,hv⟩ hroom (gr.seq tb1 sq) h64 nd (Paired.qb hk fun v k ⟨b,rest,e1,e2⟩=>⟨b,rest,e1,gr.tR tb1 e2⟩) (q _ · gr)
 ·refine kla_makeFunctionHit (mg:=X.mg) O.cl I1.ok.glob hgs hcode (hC.keeps I1.bk) (I1.hok _ _ t) (by simp[TriplesOk,rawInt]) (cv:=.ref c') (by simp[codeAmong,rawInt]) hB fun ctv h' tk hk' hsz=>kws_nil ?_
  have I2:=I1.call (H':=H1) (h':=h'.push (kla_obj "<lambda>" T.q params (.Subscript (.Name x p1) (.Constant (.int 0) j p2) p3) scope [] ((X.mg "__name__").getD .none) c' ctv)) (g':=s1.gens) (t':=tk) (d':=s1.drawn) (ch:=[])
   (Un.kept fun b o e=>ag _ (hk' b o e)) (I1.hok.kept fun b o e=>ag _ (hk' b o e)) I1.bare (fun b z=>absurd z (by simp))
  exact qC O I2 (aK _ rfl) ⟨c',oc,vs,_,rfl,ag _ (hk' _ _ (I1.hok _ _ hcT).1),hoc,hvs⟩ hroom sq h64 nd hk fun l hl=>q H1 l (Gr.refl _ _) hl
end
end Lm
namespace Lm
open PySem PySem.Spec PySem.W PyProof.Rows L2 Q R
noncomputable def lZ(lx:Str)(p:Pos):Arguments:={posonlyargs:=[],args:=[⟨lx,none,p⟩],vararg:=none,kwonlyargs:=[],kw_defaults:=[],kwarg:=none,defaults:=[]}
noncomputable def isArg(lx:Str):List Arg->Bool
 |x::r=>r.isEmpty&&(x.annotation.isNone&&x.arg==lx)
 | []=>false
noncomputable def qR(lx:Str)(a:Arguments):Bool:=a.posonlyargs.isEmpty&&(a.vararg.isNone&&(a.kwonlyargs.isEmpty&&(a.kw_defaults.isEmpty&&(a.kwarg.isNone&&(a.defaults.isEmpty&&isArg lx a.args)))))
theorem gK{a b:Bool}(h:(a&&b)=true):a=true/\b=true:=by rwa [aw]at h
theorem emp{α:Type}{l:List α}(h:l.isEmpty=true):l=[]:=List.isEmpty_iff.mp h
theorem non{α:Type}{l:Option α}(h:l.isNone=true):l=none:=fi.mp h
theorem wJ{lx:Str}{a:Arguments}(h:qR lx a=true):∃p,a=lZ lx p:=by
 obtain⟨po,ar,va,ko,kd,kw,df⟩:=a;obtain⟨h1,h⟩:=gK h;obtain⟨h2,h⟩:=gK h;obtain⟨h3,h⟩:=gK h;obtain⟨h4,h⟩:=gK h;obtain⟨h5,h⟩:=gK h;obtain⟨h6,h⟩:=gK h;cases ar with
 |nil=>exact(au h).elim
 |cons x r=>
  obtain⟨h7,h⟩:=gK h;obtain⟨h8,h9⟩:=gK h;obtain⟨y,an,p⟩:=x;cases emp h1;cases non h2;cases emp h3;cases emp h4;cases non h5;cases emp h6;cases emp h7;cases non h8;cases eq_of_beq h9;exact⟨p,rfl⟩
noncomputable def lq(lx:Str)(sc:Scope):Bool:=decide (sc.names=[(lx,.local)])&&(decide (sc.kind=.function)&&(decide (sc.isCoroutine=false)&&(decide (sc.isGenerator=false)&&(lx==("__debug__":Str))==false)))
noncomputable def isNm(lx:Str):Expr->Bool
 |.Name x _=>x==lx
 |_=>false
theorem yf{lx:Str}{e:Expr}(h:isNm lx e=true):∃p,e=.Name lx p:=by
 cases e with
 |Name x p=>cases eq_of_beq h;exact⟨p,rfl⟩
 |_=>exact(au h).elim
noncomputable def isZero:Expr->Bool
 |.Constant c _ _=>decide (c=.int 0)
 |_=>false
theorem zm{e:Expr}(h:isZero e=true):∃j p,e=.Constant (.int 0) j p:=by
 cases e with
 |Constant c j p=>cases of_decide_eq_true h;exact⟨j,p,rfl⟩
 |_=>exact(au h).elim
noncomputable def yg(lx:Str):Expr->Bool
 |.Subscript a b _=>isNm lx a&&isZero b
 |_=>false
theorem wK{lx:Str}{e:Expr}(h:yg lx e=true):∃p1 j p2 p3,e=.Subscript (.Name lx p1) (.Constant (.int 0) j p2) p3:=by
 cases e with
 |Subscript a b p=>
  obtain⟨h1,h2⟩:=gK h;obtain⟨p1,rfl⟩:=yf h1;obtain⟨j,p2,rfl⟩:=zm h2;exact⟨_,_,_,_,rfl⟩
 |_=>exact(au h).elim
noncomputable def Cd(lx:Str)(pos:Pos):Expr->Bool
 |.Lambda params body scope lp=>decide (lp=pos)&&(qR lx params&&(lq lx scope&&yg lx body))
 |_=>false
theorem zy{lx:Str}{pos:Pos}{e:Expr}(h:Cd lx pos e=true):∃pa scope p1 j p2 p3,e=.Lambda (lZ lx pa) (.Subscript (.Name lx p1) (.Constant (.int 0) j p2) p3) scope pos/\lq lx scope=true:=by
 cases e with
 |Lambda params body scope lp=>
  obtain⟨h1,h⟩:=gK h;obtain⟨h2,h⟩:=gK h;obtain⟨h3,h4⟩:=gK h;cases of_decide_eq_true h1;obtain⟨pa,rfl⟩:=wJ h2;obtain⟨p1,j,p2,p3,rfl⟩:=wK h4;exact⟨_,_,_,_,_,_,rfl,h3⟩
 |_=>exact(au h).elim
noncomputable def chkKw(lx:Str)(pos:Pos):List Keyword->Bool
 |k::r=>r.isEmpty&&(decide (k.arg=some (aV "key"))&&Cd lx pos k.value)
 | []=>false
noncomputable def Ce(sc:Scope)(N:List Str)(ce:CE)(lx:Str)(pos:Pos):Expr->Bool
 |.Call f es ks _=>isNm "sorted" f&&(kC sc "sorted"&&(lA sc N (.cons ce .nil) es&&chkKw lx pos ks))
 |_=>false
noncomputable def chkTg(sc:Scope)(N:List Str)(i:Nat):List Expr->Bool
 |g::r=>r.isEmpty&&qg sc N true (.name i) g
 | []=>false
noncomputable def Cf(sc:Scope)(N:List Str)(i:Nat)(ce:CE)(lx:Str)(pos:Pos):Stmt->Bool
 |.Assign ts v _=>chkTg sc N i ts&&Ce sc N ce lx pos v
 |_=>false
theorem zz{sc:Scope}{N:List Str}{i:Nat}{ce:CE}{lx:Str}{pos:Pos}{s:Stmt}(h:Cf sc N i ce lx pos s=true):∃g e pa scope p1 j p2 p3 p kp cp sp,s=.Assign [g] (.Call (.Name "sorted" p) [e] [⟨some (aV "key"),.Lambda (lZ lx pa) (.Subscript (.Name lx p1) (.Constant (.int 0) j p2) p3) scope pos,kp⟩] cp) sp/\
  qg sc N true (.name i) g=true/\kC sc "sorted"=true/\di sc N ce e=true/\lq lx scope=true:=by
 cases s with
 |Assign ts v sp=>
  obtain⟨h1,h2⟩:=gK h;cases ts with
  |nil=>exact(au h1).elim
  |cons g r=>
   obtain⟨h3,h4⟩:=gK h1;cases emp h3;cases v with
   |Call f es ks cp=>
    obtain⟨h5,h2⟩:=gK h2;obtain⟨h6,h2⟩:=gK h2;obtain⟨h7,h8⟩:=gK h2;obtain⟨p,rfl⟩:=yf h5;obtain⟨e,r',rfl,h9,h10⟩:=iZ h7;cases jU h10;cases ks with
    |nil=>exact(au h8).elim
    |cons k ks=>
     obtain⟨h11,h12⟩:=gK h8;obtain⟨h13,h14⟩:=gK h12;cases emp h11;obtain⟨ka,kv,kp⟩:=k;cases of_decide_eq_true h13;obtain⟨pa,scope,p1,j,p2,p3,e1,h15⟩:=zy h14;cases e1;exact⟨_,_,_,_,_,_,_,_,_,_,_,_,rfl,h4,h6,h9,h15⟩
   |_=>exact(au h2).elim
 |_=>exact(au h).elim
noncomputable def chkK(sc:Scope)(N:List Str)(c1:CS)(i:Nat)(ce:CE)(lx:Str)(pos:Pos)(c2:CB):List Stmt->Bool
 |s1::r=>chkS sc N c1 s1&&rst r
 | []=>false
where rst:List Stmt->Bool
 |s2::rest=>Cf sc N i ce lx pos s2&&m5 sc N c2 rest
 | []=>false
section
variable {P:Program}{w:World}{K:aa}{mg:Str->Option Value}{base:Heap}
theorem BV{x qual:Str}{st:Stmt}{f c:Addr}{fd:eZ}{N ps:List Str}{k:Nat}{G:Gam}{sp:Sp}{c1:CS}{i:Nat}{ce:CE}{lx:Str}{c2:CB}{T:Tb}(F:Fun K x qual st f fd)(hd:lQ N ps (aQ st)=true)
  (hc:chkK (aQ st) N c1 i ce lx T.pos c2 (bj st)=true)(hcd:fd.code=.ref c)(hC:CodeHd base c T.P)(hq:qual++".<locals>."++"<lambda>"=T.q)(hb:BM mg base)
  (hbd:∀(p:Pos)(body:Expr)(scope:Scope)(qual:Str)(pm ctv v:Value)(c':Addr),lE (kla_fn "<lambda>" qual (lZ lx p) body scope [] pm (.ref c') ctv) ⟨[v],[]⟩=pure [(lx,v)])
  (g:GOk P w K mg base (CXx P w) k G)(len:∀vs H Q E,sp vs H Q E->vs.length=ps.length)
  (h:∀vs H Q E,sp vs H Q E->pW (wpS G K (fun _=>E) c1) (pW (rO (oA K T (wpE G K (fun _=>E) ce)) (kJ i)) (wpB G K (fun _=>E) c2)) {nx:=fun _ H'=>Q .non H',rt:=Q} (start N vs) H):hV P w K mg base (CXx P w) (k+1) f fd ps sp:=by
 have S:=uw hd;obtain⟨oc,od,kV,doc,pm,an,cdv,ct,osl,rfl,lk,hcd'⟩:=F.ex;have ecd:cdv=.ref c:=hcd;subst ecd;refine fn_of lk hcd' S len fun A outer s H vs Q E hr hsp=>?_;have o:Ok (CXx P w) G (fun _=>E) (aQ st) N true (qe (CXx P w) P w K mg base N qual (aQ st) f (.ref c) A outer s H E):=
  {names:=rfl,top:=fun _=>⟨rfl,rfl,rfl⟩,nd:=S.nd,loc:=fun _ z=>z,cel:=fun _ z=>z,fre:=fun y z=>absurd rfl (S.nofree _ (aY z)),glo:=fun _ z=>z,all:=fun _ _=>rfl,own:=fun _ _=>rfl,calm:=rfl,
   hu:=by have :=hr.units;show _+50<cLine;exact Nat.lt_of_le_of_lt (Nat.add_le_add_left (by decide) _) this
   val:=g.val
   fn:=fun y n sp' dvs e=>by
    obtain⟨f',fd',ps',ds',j,hj,F',hm,hk,hb,hv⟩:=g.fn y n sp' dvs e;exact⟨f',fd',ps',ds',j,F',hr.mono hj,hm,hk,hb,hv⟩
   ini:=fun y n C sp' dvs e=>by
    obtain⟨f',fd',ps',ds',j,hj,M,F',hm,hb,hv⟩:=g.ini y n C sp' dvs e;exact⟨f',fd',ps',ds',j,M,F',hr.mono hj,hm,hb,hv⟩
   dic:=g.dic
   mak:=fun y n C sp' dvs e=>by
    obtain⟨f',fd',ps',ds',j,hj,M,F',hm,hb,hv⟩:=g.mak y n C sp' dvs e;exact⟨f',fd',ps',ds',j,M,F',hr.mono hj,hm,hb,hv⟩
   mth:=fun y n C sp' dvs e=>by
    obtain⟨f',fd',ps',ds',j,hj,c,M,F',hb,hv⟩:=g.mth y n C sp' dvs e;exact⟨f',fd',ps',ds',j,c,M,F',hr.mono hj,hb,hv⟩
   blt:=g.blt,px:=yA,pass:=rk,made:=rm,madeX:=pE,cx:=rfl}
 refine⟨_,?_,h vs H Q E hsp⟩;generalize hB:bj st=body at hc;cases body with
 |nil=>exact(au hc).elim
 |cons s1 r=>
  obtain⟨h1,hc⟩:=gK hc;cases r with
  |nil=>exact(au hc).elim
  |cons s2 rest=>
  obtain⟨h2,h3⟩:=gK hc;obtain⟨g',e,pa,scope,p1,j,p2,p3,p,kp,cp,sp',rfl,h4,h6,h7,h12⟩:=zz h2;obtain⟨n1,h12⟩:=gK h12;obtain⟨n2,h12⟩:=gK h12;obtain⟨n3,h12⟩:=gK h12;obtain⟨n4,n5⟩:=gK h12;rw[decide_eq_true_eq]at n1 n2 n3 n4;have hG:=mJ (CX:=CXx P w) (fun _ _ _ _ _ z=>zv z) (.name i) _ o h4;refine lN (AB (fun _ _ _ _ _ z=>zv z) c1 s1 o (fun _ _ _ _ _=>S.kind) h1) (lN ?_ (lg (fun _ _ _ _ _ z=>zv z) c2 rest o (fun _ _ _ _ _=>S.kind) h3));refine wx (Bg (c:=c) (T:=T) (bA (fun _ _ _ _ _ z=>zv z) ce e o h7) (cL h7 [] _) (o.gl h6) (g.blt _ (by decide+kernel)) rfl hC hq hb ?_ ?_) hG (uB rfl _ _ _) (oX h4 (fg _) _) (by rw[lR h4];rfl)
  ·refine⟨?_,rfl,fun qual pm ctv v c'=>hbd pa _ _ qual pm ctv v c',by rw[n1];simp,by simpa using n5,n2,?_,n3,n4⟩
   ·unfold zM
    rw[n1];rfl
   ·rw[n1]
    intro z hz;have :z=(lx,cU.local):=by simpa using hz
    rw[this];exact fun z=>by cases z
  ·exact hr.depth
end
noncomputable def hU(K:aa)(tabs:List Addr)(a:Addr)(vs:List Value)(ns:List Int):Hp:=fun b=>
 if b∈tabs then some (.tbl #[])else if b=a/\K.lookup a=none then some (.frz {cls:=.type "list",data:=.seq vs.toArray} (.lst (ns.map V.int)))else none
theorem zh{P:Program}{w:World}{K:aa}{mg mb:Str->Option Value}{CX:CXT}{k:Nat}{fa a:Addr}{fd:eZ}{x:Str}{sp:Sp}{s₁:Shared}{vs:List Value}{ns:List Int}{tabs:List Addr}(KX:K.In s₁.heap)
  (hns:s₁.heap.Ns bh mg)(hb:s₁.heap.Ns jw mb)(hbb:∀x:Str,x≠"__name__"->mb x=fK x)(hlim:s₁.heap.NoLimit)(hg:s₁.gens= #[])(ha:s₁.heap.get? a=some {cls:=.type "list",data:=.seq vs.toArray})
  (hi:IntsAre vs ns) (hl:ns.length<=sizeLine) (hr:iM k yx) (hT:∀p∈tabs,s₁.heap.get? p=some (tabObj #[])/\isCodeTable s₁.heap p/\K.lookup p=none)
  (F:∀base:Heap,K.In base->base.Ns bh mg->(∀b o,s₁.heap.get? b=some o->o.cls≠.none->o.cls≠.type "list"->base.get? b=some o)->hV P w K mg base CX k fa fd [x] sp)
  (hbind:∀(s:Shared)(u:Value),BindsTo s fd ⟨[u],[]⟩ [(x,u)])
  (hsp:∀H:Hp,(∀p∈tabs,H p=some (.tbl #[]))->SqL K H a (ns.map V.int)->sp [.ref a] H (fun v _=>v=.bl true) fun _ _ _=>False) (hCX:∀H e s',CX [] H s₁ (fun _ _ _=>False) e s'->False):
  mw (model P w) yx (.call (.ref fa) ⟨[.ref a],[]⟩) (fun r s'=>r=.ok (.ret (.bool true))/\OldK s₁.heap s'.heap/\s'.os=s₁.os/\kB s'.gens) s₁:=by
 have rv:=qu hi;have lenV:=hi.length;have cases3:∀b,(b∈tabs/\hU K tabs a vs ns b=some (.tbl #[]))\/(b=a/\K.lookup a=none/\hU K tabs a vs ns b=some (.frz {cls:=.type "list",data:=.seq vs.toArray} (.lst (ns.map V.int))))\/hU K tabs a vs ns b=none:=fun b=>by
  unfold hU;by_cases h1:b∈tabs
  ·exact .inl ⟨h1,if_pos h1⟩
  ·rw[if_neg h1]
   by_cases h2:b=a/\K.lookup a=none
   ·exact .inr (.inl ⟨h2.1,h2.2,if_pos h2⟩)
   ·exact .inr (.inr (if_neg h2))
 have tabH:∀p∈tabs,hU K tabs a vs ns p=some (.tbl #[]):=fun p hp=>if_pos hp;have haT:a∉tabs:=fun z=>by
  have :=(hT a z).1
  rw[ha]at this;cases this
 --what is neither a table nor a list is not tracked
 have untr:∀{b:Addr}{o:Obj},s₁.heap.get? b=some o->o.cls≠.none\/(∃es ep,o.data=.dict es ep)->o.cls≠.type "list"\/(∃es ep,o.data=.dict es ep)->hU K tabs a vs ns b=none:=fun{b o} e h1 h2=>by
  rcases cases3 b with⟨q,_⟩ |⟨rfl,_⟩ |q
  ·have :=(hT b q).1
   rw[e]at this;cases this;rcases h1 with z|⟨_,_,z⟩
   ·exact absurd rfl z
   ·cases z
  ·rw[ha]at e;cases e
   rcases h2 with z|⟨_,_,z⟩
   ·exact absurd rfl z
   ·cases z
  ·exact q
 have nsK:∀{b:Addr}{m:Str->Option Value},s₁.heap.Ns b m->(uS s₁.heap (hU K tabs a vs ns)).Ns b m:=fun{b m} ⟨o,es,ep,e,d,r⟩=>⟨o,es,ep,o8 e (untr e (.inr ⟨_,_,d⟩) (.inr ⟨_,_,d⟩)),d,r⟩;have hKb:K.In (uS s₁.heap (hU K tabs a vs ns)):=fun b o e=>o8 (KX b o e) (by
  rcases cases3 b with⟨q,_⟩ |⟨rfl,z,_⟩ |q
  ·rw[(hT b q).2.2]at e;cases e
  ·rw[z]at e;cases e
  ·exact q)
 have hok:HOk P w (hU K tabs a vs ns) s₁.heap:=fun b o e=>by
  rcases cases3 b with⟨q,z⟩ |⟨rfl,_,z⟩ |z
  ·rw[z]at e;cases e
   exact(hT b q).1
  ·rw[z]at e;cases e
   exact⟨ha,by rw[aC];exact hl,vs,_,rv,ha⟩
  ·rw[z]at e;cases e
 have hS:SqL K (hU K tabs a vs ns) a (ns.map V.int):=by
  cases hk:K.lookup a with
  |none=>
   refine .inl (.inr ⟨{cls:=.type "list",data:=.seq vs.toArray},?_⟩);unfold hU;rw[if_neg haT,if_pos ⟨rfl,hk⟩]
  |some o=>
   have e:=KX a o hk;rw[ha]at e;cases e;exact .inr ⟨_,vs.toArray,_,hk,rfl,rfl,rfl,by rw[av,lenV];exact hl,by simpa using rv⟩
 have hM:Mod K mg (uS s₁.heap (hU K tabs a vs ns)):=⟨hKb,nsK hns,⟨mb,nsK hb,hbb⟩,let⟨mc,h1,h2⟩:=hlim;⟨mc,nsK h1,h2⟩⟩;have e0:Env0 P w K mg (uS s₁.heap (hU K tabs a vs ns)) yx [] s₁ (hU K tabs a vs ns):=⟨rfl,hM,fun b o e=>of_hidT e,zQ (zq _ _),trivial,fun b hb=>absurd (show b∈([]:List Addr)from hb) (by simp),hok,.of_eq hg⟩;have f0:=F _ hKb (nsK hns) fun b o e h1 h2=>o8 e (untr e (.inl h1) (.inl h2));refine jg (f0.run yx [] s₁ (hU K tabs a vs ns) ⟨[.ref a],[]⟩ [.ref a] [.ref a] _ _ hr e0 (hbind s₁ (.ref a)) (.cons rfl .nil) (hsp _ tabH hS)) fun r s' h=>?_;cases r with
 |error e=>exact(hCX _ e s' h).elim
 |ok fl=>
  cases fl with
  |next =>exact iS h
  |brk=>exact iS h
  |cont=>exact iS h
  |ret u=>
   obtain⟨v,H',os,bare,un,hok',r',q⟩:=h;have q':v=.bl true:=q;subst q';obtain rfl:u=ti true:=r';have kept:∀b o,s₁.heap.get? b=some o->b∉tabs->s'.heap.get? b=some o:=fun b o e nt=>by
    rcases cases3 b with⟨z,_⟩ |⟨rfl,_,z⟩ |z
    ·exact absurd z nt
    ·have z2:=un.frzs b _ _ z
     obtain⟨e2,_⟩:=hok' b _ z2;rw[ha]at e;cases e;exact e2
    ·exact un.keep b o e z (by intro z;exact absurd (show b∈([]:List Addr)from z) (by simp)) (by simp)
   have grown:∀b∈tabs,∃more,s'.heap.get? b=some (tabObj (#[]++more)):=fun b hb=>by
    obtain⟨more,z⟩:=un.tbls b _ (tabH b hb);exact⟨more,hok' b _ z⟩
   refine⟨rfl,⟨fun b o e=>?_,fun b o e=>?_⟩,os,bare⟩
   ·by_cases hb:b∈tabs
    ·obtain⟨e1,ct,_⟩:=hT b hb
     rw[e]at e1;cases e1;obtain⟨more,z⟩:=grown b hb;exact .inr (.inl ⟨ct,rfl,#[],more,rfl,z⟩)
    ·exact .inl (kept b o e hb)
   ·by_cases hb:b∈tabs
    ·obtain⟨more,z⟩:=grown b hb
     exact⟨_,z⟩
    ·exact⟨o,kept b o e hb⟩
theorem bm_of{mg:Str->Option Value}{h:Heap}(hg:h.Ns bh mg)(hb:∃bm ob,mg "__builtins__"=some (.ref bm)/\bm≠jw/\h.get? bm=some ob/\ob.cls=.type "module"/\ob.dict=some jw/\ob.data=.plain):BM mg h:=by
 obtain⟨bm,ob,b1,b2,b3,b4,b5,b6⟩:=hb;refine⟨bm,ob,b1,b2,fun q=>?_,b3,b4,b5,b6⟩;obtain⟨o,es,ep,e,hd,_⟩:=hg;rw[q,e]at b3;cases b3;rw[hd]at b6;cases b6
theorem Ab{l:PySem.W.OpenLaw}{n k:Nat}{q:Program}{loose:List Str}{XP:(Str->Option Value)->Heap->Prop}{YP:World->Heap->Prop}{d:DefRec}{K:Params->aa}{CX:CXT}{sp:aa->Sp}{x:Str}{tabs:List Addr}
  (hn:l.most=some n)(hn2:n<=sizeLine)(hdf:d.params.defaults=[])(hr:iM k yx)(hY:∀(w:World)(h:Heap),YP w h->(K w.params).In h)
  (hT:∀(w:World)(s₀:Shared)(mg mb:Str->Option Value)(h:Heap),Ground q loose [] XP w s₀ mg mb h->YP w h->∀p∈tabs,h.get? p=some (tabObj #[])/\isCodeTable h p/\(K w.params).lookup p=none)
  (F:∀(w:World)(mg:Str->Option Value)(fa:Addr)(h:Heap),(K w.params).In h->h.Ns bh mg->mg d.name=some (.ref fa)->
   ∃fd:eZ,(∀(s:Shared)(u:Value),BindsTo s fd ⟨[u],[]⟩ [(x,u)])/\
    ∀base:Heap,(K w.params).In base->base.Ns bh mg->BM mg base->hV l.prog w (K w.params) mg base CX k fa fd [x] (sp (K w.params)))
  (hsp:∀(K:aa)(H:Hp)(a:Addr)(ns:List Int),ns.length<=n->(∀p∈tabs,H p=some (.tbl #[]))->SqL K H a (ns.map V.int)->sp K [.ref a] H (fun v _=>v=.bl true) fun _ _ _=>False)
  (hCX:∀(H:Hp)(s:Shared)(e:Value)(s':Shared),CX [] H s (fun _ _ _=>False) e s'->False):
  PySem.W.WalkO q loose XP YP l.row.toRowW d [] (fun f vs=>PySem.call f vs):=by
 refine Att.vi hn hdf fun w s₀ s₁ mg mb fa o pm cd doc a vs ns G Y ho hd hcd hmg hobj hints hlen hg=>?_;have KX:=hY w _ Y;obtain⟨fd,hb,hF⟩:=F w mg fa _ KX G.T.g hmg;have hbm:=bm_of G.T.g G.T.bmain;refine zh KX G.T.g G.T.b G.T.builtins G.T.nolimit hg hobj hints (aI hlen hn2) hr (hT w s₀ mg mb _ G Y) (fun base k1 k2 k3=>hF base k1 k2 ?_) hb (fun H t S=>hsp _ H a ns hlen t S) fun H e s'=>hCX H s₁ e s';obtain⟨bm,ob,b1,b2,b0,b3,b4,b5,b6⟩:=hbm;exact⟨bm,ob,b1,b2,b0,k3 bm ob b3 (by rw[b4];nofun) (by rw[b4];decide),b4,b5,b6⟩
end Lm
namespace Cp
open PySem PySem.Spec PyProof.Rows L2 R Lm
noncomputable def lO:List Str:=["table"]
noncomputable def gQ:List Str:=["table","ordered"]
noncomputable def iK:CS:=.expr (.call "need_table" (.cons (.var 0) .nil))
noncomputable def iJ:CB:=.cons (.ret (.comp ["name","readings"] [] (.tup (.cons (.name 0) (.cons (.name 1) .nil))) (.seq (.var 1)) .no (.tup (.cons (.var 0) (.cons (.bfn .tuple (.cons (.bfn .list (.cons (.var 1) .nil)) .nil)) .nil))))) .nil
theorem _root_.Lm.Gr.free{T:Tb}{H H':Hp}(g:Gr T H H')(t:Tab T H){l:Addr}(h:H' l=none):H l=none:=by
 cases e:H l with
 |none=>rfl
 |some o=>
  by_cases n:l=T.P
  ·rcases g.tab t with z|⟨_,_,_,_,_,z,_⟩
   ·rw[n,z]at h;cases h
   ·rw[n,z]at h;cases h
  ·rw[g.keep l o n e]at h;cases h
noncomputable def srt(H:Hp):V->List V
 |.ref a=>match cX (H a)with
  |some ys=>_root_.Q.sortBy .non (ys.map (aB H)) ys
  |none=>[]
 |_=>[]
noncomputable def Copied(H H':Hp)(us zs:List V):Prop:=zs.length=us.length/\∀(i:Nat) z,zs[i]? =some z->∃b r,z=.ref b/\H' b=some (.tup [.str (aB H (us.getD i .non)),.ref r])/\H' r=some (.tup (lh H (us.getD i .non)))
noncomputable def rR(C:Addr)(T:Tb):Sp:=fun vs H Q E=>∃x,vs=[x]/\Kn4 H x/\Tab T H/\(cY H x=true->∀H' l zs,Gr T H H'->H l=none->H' l=some (.lst zs)->Copied H H' (srt H x) zs->Q (.ref l) H')/\(cY H x=false->∀H',aN H H'->E (.ref C) none H')
theorem tk_of{H H':Hp}(s:aN H H'):∀{xs:List V},(∀y∈xs,bS H y=true)->_root_.Q.ki H' xs (xs.map (aB H))
 | [],_=>.nil
 |y::xs,h=>by
  obtain⟨a,b,e,h1,_⟩:=kh (h y (.head _));exact .cons ⟨a,_,e,s _ _ h1⟩ (tk_of s fun z hz=>h z (.tail _ hz))
theorem pS{G:Gam}{K:aa}{C:Addr}{T:Tb}(g1:G.fn "need_table" 1=some (rQ C,[])):
  ∀vs H Q E,rR C T vs H Q E->pW (R.wpS G K (fun _=>E) iK) (pW (rO (oA K T (wpE G K (fun _=>E) (.var 0))) (kJ 1)) (wpB G K (fun _=>E) iJ)) {nx:=fun _ H'=>Q .non H',rt:=Q} (L2.start gQ vs) H:=by
 rintro vs H Q E ⟨x,rfl,hk,tb,q1,q2⟩;unfold iK iJ;change pW _ _ _ [some x,none] H;unfold oA;walk_at "wp";refine⟨_,_,g1,x,rfl,hk,fun e H1 s1=>?_,q2⟩;obtain⟨a,ys,rfl,h1,h2,h3,h4,h5⟩:=fz e;have tb1:Tab T H1:=(Gr.of s1).tab tb;refine⟨a,ys,ys.map (aB H),rfl,s1.seq (iW h1),by rw[aC];omega,h4,tk_of s1 h3,tb1,fun H2 l gr hl=>?_⟩;have eu:srt H (.ref a)=_root_.Q.sortBy V.non (ys.map (aB H)) ys:=by
  show(match cX (H a)with |some ys=>_root_.Q.sortBy V.non (ys.map (aB H)) ys|none=>[])=_;rw[h1]
 have zp:(_root_.Q.sortBy V.non (ys.map (aB H)) ys).Perm ys:=_root_.Q.fA V.non h4 (by simp);have q0:=q1 e;rw[eu]at q0;generalize _root_.Q.sortBy V.non (ys.map (aB H)) ys=us at zp q0⊢;have gr0:Gr T H (upd H2 l (.lst us)):=(Gr.of s1).trans (gr.trans (Gr.of (aF hl)));have el:upd H2 l (.lst us) l=some (.lst us):=aE;generalize upd H2 l (.lst us)=H3 at gr0 el⊢;have hul:us.length<=40:=by rw[zp.length_eq];exact h2
 refine d5 (cf rfl (SqL.of el) (fJ cW (aI hul (by decide)) (fun H4 s4=>SqL.of (s4 _ _ el)) (fun i v H'=>∃b r,v=V.ref b/\H' b=some (.tup [.str (aB H (us.getD i .non)),.ref r])/\H' r=some (.tup (lh H (us.getD i .non))))
  (fun i v H4 H5 s5 ⟨b,r,z1,z2,z3⟩=>⟨b,r,z1,s5 _ _ z2,s5 _ _ z3⟩) (fun τ=>∃t u,τ=[t,u]) ⟨none,none,rfl⟩ ?_ ?_))
 ·rintro j y τ H4 R hi ⟨t,u,rfl⟩ s4 hy k
  have hm:y∈ys:=zp.mem_iff.mp (aD hy);obtain⟨b,c,rfl,k1,k2,k3,k4⟩:=kh (h3 y hm);have f1:=s4 _ _ (gr0.tR tb k1);have f2:=s4 _ _ (gr0.tR tb k2);refine⟨b,_,rfl,SqT.of f1,rfl,_,_,rfl,_,_,rfl,rfl,?_⟩;walk_at "wp";refine⟨c,_,rfl,.inr (SqT.of f2),fun l1 hl1=>⟨l1,_,rfl,.inl ⟨SqL.of aE,fun r hr=>⟨aI (by simp :_<=2) (by decide),fun p hp=>k _ _ _ ⟨_,_,rfl⟩ ((aF hl1).trans ((aF hr).trans (aF hp))) ?_⟩⟩⟩⟩;rw[getD_some hy];exact⟨p,r,rfl,aE,by rw[bo (bD aE hp)];exact aE⟩
 ·intro vs H4 l2 hvl hF s4 hl2
  have gr4:Gr T H H4:=gr0.trans (Gr.of s4);have s5:aN H4 (upd H4 l2 (.lst vs)):=aF hl2;refine q0 _ l2 vs (gr4.trans (Gr.of s5)) (gr4.free tb hl2) aE ⟨hvl,fun i z hz=>?_⟩;obtain⟨b,r,z1,z2,z3⟩:=hF i z hz;exact⟨b,r,z1,s5 _ _ z2,s5 _ _ z3⟩
end Cp
namespace K22
open PySem PySem.Spec PyProof.Rows L2 R Cp Lt Kc K21 Lm
noncomputable def cd(H:Hp)(y:V):Str×List V:=(aB H y,lh H y)
noncomputable def rowsOf(H:Hp)(x:V):List (Str×List V):=(srt H x).map (cd H)
theorem iF{H:Hp}{b r:Addr}{z:Str}{zs:List V}(h1:H b=some (.tup [.str z,.ref r]))(h2:H r=some (.tup zs)):cd H (.ref b)=(z,zs):=by
 have e1:aB H (.ref b)=z:=by
  show(match bF (H b)with |some (.str z::_)=>z|_=>("":Str))=_;rw[h1];rfl
 have e2:lh H (.ref b)=zs:=by
  show(match bF (H b)with |some [_,.ref b]=>(bF (H b)).getD [] |_=>[])=zs;rw[h1];show(bF (H r)).getD []=zs;rw[h2];rfl
 unfold cd;rw[e1,e2]
theorem xB{H:Hp}{t:Addr}{ys:List V}(h:cX (H t)=some ys):srt H (.ref t)=_root_.Q.sortBy .non (ys.map (aB H)) ys:=by
 show(match cX (H t)with |some ys=>_root_.Q.sortBy V.non (ys.map (aB H)) ys|none=>[])=_;rw[h]
theorem qH{H:Hp}{x:V}(h:bS H x=true):dZ (aB H x)=true:=by
 obtain⟨_,_,_,_,_,_,_,h4,_,_,h7,_⟩:=je h;rw[h7];exact h4
theorem xj{H H':Hp}{x:V}{l:Addr}{zs:List V}(e:cY H x=true)(el:H' l=some (.lst zs))(c:Copied H H' (srt H x) zs):
  Kn4 H' (.ref l)/\cY H' (.ref l)=true/\count H' (.ref l)=count H x/\zs.map (cd H')=rowsOf H x:=by
 obtain⟨a,ys,rfl,h1,h2,h3,h4,h5⟩:=fz e;have eu:=xB h1;have zp:(srt H (.ref a)).Perm ys:=by rw[eu];exact _root_.Q.fA V.non h4 (by simp)
 unfold rowsOf;generalize srt H (.ref a)=us at c zp⊢;have hul:us.length<=40:=by rw[zp.length_eq];exact h2
 have hu:∀u∈us,bS H u=true/\br H u=count H (.ref a):=fun u hm=>⟨h3 u (zp.mem_iff.mp hm),h5 u (zp.mem_iff.mp hm)⟩;have nd:(us.map (aB H)).Nodup:=(zp.map (aB H)).nodup_iff.mpr h4;have get:∀{i:Nat}{z:V},zs[i]? =some z->us[i]? =some (us.getD i .non)/\us.getD i .non∈us:=fun{i z} hz=>by
  have hi:i<us.length:=by
   have :=(aU.mp hz).1
   rw[<-c.1];exact this
  have e:us[i]? =some (us.getD i .non):=by rw[ah,ae hi];rfl
  exact⟨e,aD e⟩
 let nf:Nat->Str:=fun i=>if i<us.length then aB H (us.getD i .non)else "a"
 have hnf:∀i,dZ (nf i)=true:=fun i=>by
  show dZ (if i<us.length then aB H (us.getD i .non)else "a")=true;split
  ·rename_i hi
   have e:us[i]? =some (us.getD i .non):=by rw[ah,ae hi];rfl
   exact qH (hu _ (aD e)).1
  ·decide+kernel
 have dr:Dr H' nf (count H (.ref a)) zs:=fun i z hz=>by
  obtain⟨b,r,hb,h6,h7⟩:=c.2 i z hz;obtain⟨g1,g2⟩:=get hz;have hi:i<us.length:=(aU.mp g1).1;obtain⟨c1,c2⟩:=hu _ g2;obtain⟨_,_,_,_,_,k3,k4⟩:=kh c1;refine⟨b,r,_,hb,?_,h7,by rw[k3,c2],k4⟩;show H' b=some (.tup [.str (if i<us.length then aB H (us.getD i .non)else "a"),.ref r]);rw[if_pos hi];exact h6
 have hn60:ys=[]\/count H (.ref a)<=60:=by
  cases ys with
  |nil=>exact .inl rfl
  |cons y r=>
   right
   rw[<-h5 y (.head _)];obtain⟨_,_,_,_,_,_,_,_,h60,_,_,h8⟩:=je (h3 y (.head _));rw[h8];exact h60
 have hinj:∀i j,i<zs.length->j<zs.length->nf i=nf j->i=j:=fun i j hi hj e=>by
  rw[c.1]at hi hj;have e':(if i<us.length then aB H (us.getD i .non)else "a")=(if j<us.length then aB H (us.getD j .non)else "a"):=e;rw[if_pos hi,if_pos hj]at e';have g:∀k (hk:k<us.length),(us.map (aB H))[k]'(by simpa using hk)=aB H (us.getD k .non):=fun k hk=>by
   rw[dt,ah,ae hk];rfl
  rw[<-g i hi,<-g j hj]at e';exact(du nd).mp e'
 have hz0:zs=[]↔us=[]:=by
  rw[<-bO,c.1,bO]
 have map_eq:zs.map (cd H')=us.map (cd H):=by
  apply ji
  intro i;rw[bq,bq];cases hz:zs[i]? with
  |none=>
   have :us.length<=i:=by
    have :=List.getElem?_eq_none_iff.mp hz
    rw[c.1]at this;exact this
   rw[dA this];rfl
  |some z=>
   obtain⟨b,r,rfl,h6,h7⟩:=c.2 i z hz;rw[(get hz).1];show some (cd H' (.ref b))=some (cd H (us.getD i .non));rw[iF h6 h7];rfl
 rcases hn60 with hy|hn60
 ·have hus:us=[]:=by rw[hy]at zp;exact List.perm_nil.mp zp
  have hzs:=hz0.mpr hus;subst hzs;have dr0:Dr H' nf 0 []:=fun i y e=>by simp at e
  obtain⟨t1,t2,_,_⟩:=vd hnf (fun i j hi=>absurd hi (by simp)) el dr0 (by simp) (by decide);refine⟨t1,t2,?_,map_eq⟩;have e1:count H' (.ref l)=0:=by
   show(match cX (H' l)with |some (y::_)=>br H' y|_=>0)=0;rw[el];rfl
  have e2:count H (.ref a)=0:=by
   show(match cX (H a)with |some (y::_)=>br H y|_=>0)=0;rw[h1,hy]
  rw[e1,e2]
 ·obtain⟨t1,t2,_,t4⟩:=vd hnf hinj el dr (by rw[c.1];exact hul) hn60
  refine⟨t1,t2,?_,map_eq⟩;cases zs with
  |nil=>
   have hus:=hz0.mp rfl;have hy:ys=[]:=by rw[hus]at zp;exact vH.mp zp
   have e1:count H' (.ref l)=0:=by
    show(match cX (H' l)with |some (y::_)=>br H' y|_=>0)=0;rw[el];rfl
   have e2:count H (.ref a)=0:=by
    show(match cX (H a)with |some (y::_)=>br H y|_=>0)=0;rw[h1,hy]
   rw[e1,e2]
  |cons z r=>
   show(match cX (H' l)with |some (y::_)=>br H' y|_=>0)=_;rw[el];exact t4 z (.head _)
end K22
namespace M4
open Q
variable {f:Nat->Int}{n:Nat}{grp:Nat->Nat}(hf:∀p,p<n->f p=0\/f p=1)
include hf
end M4
namespace K32
open PySem PySem.Spec PyProof.Rows L2 R Cp Lt Kc K21 K22 Lm M4
theorem AI{n:Nat}:qk (Itr 0 n) (nats n).length (fun i x _=>(nats n)[i]? =some x) (fun _=>True) where
 go:=fun i H h hi=>fB.go i H h (by simpa[nats]using hi)
 stop:=fun i H h hi=>fB.stop i H h (by simpa[nats]using hi)
 yld:=fun i H x H' h hi y=>by
  have hi':i<n:=by simpa[nats]using hi
  obtain⟨e,s⟩:=fB.yld i H x H' h hi' y;refine⟨?_,s⟩;subst e;unfold nats;rw[bq,List.getElem?_range hi',zR];rfl
theorem Paired.snoc{α β:Type}{F:α->β->Prop}{a:α}{b:β}(h:F a b){l:List α}{m:List β}(p:Paired F l m):Paired F (l++[a]) (m++[b]):=by
 induction p with
 |nil=>exact .cons h .nil
 |cons x r ih=>exact .cons x ih
end K32
namespace K32
open PySem R
noncomputable def um:List Str:=["table","name"]
noncomputable def nu:List Str:=["table","name"]
noncomputable def kK:CB:=
  (.cons (.iff (.or (.not (.call "is_name" (.cons (.var 1) .nil))) (.not (.bfn .any (.cons (.comp ["copy"] [1] (.name 0) (.seq (.var 0)) .no (.cmp .Eq (.var 1) (.idx (.var 0) (.con (.int 0))))) .nil))))
  (.cons (.rais "NoName" (.cons (.con (.str "this is no name of a copy of the table")) .nil))
  .nil)
  .nil)
  .nil)
noncomputable def nJ:CB:=
  (.cons (.expr (.call "need_table" (.cons (.var 0) .nil)))
  kK)
noncomputable def yY:List Str:=["table","name"]
noncomputable def qI:List Str:=["table","name","found"]
noncomputable def nH:CB:=
  (.cons (.ret (.idx (.var 2) (.con (.int 0))))
  .nil)
noncomputable def nI:CB:=
  (.cons (.asgc 2 (.comp ["other","readings"] [1] (.tup (.cons (.name 0) (.cons (.name 1) .nil))) (.seq (.call "table_list" (.cons (.var 0) .nil))) (.yes (.cmp .Eq (.var 0) (.var 2))) (.var 1)))
  nH)
noncomputable def qV:CB:=
  (.cons (.expr (.call "need_name" (.cons (.var 0) (.cons (.var 1) .nil))))
  nI)
end K32
namespace K32
open PySem PySem.Spec PyProof.Rows L2 R Cp Lt Kc K21 K22 Lm
noncomputable def uX(H:Hp)(x y:V):Prop:=∃(a:Addr)(ys:List V)(z:Str)(c:V),x=.ref a/\cX (H a)=some ys/\y=.str z/\c∈ys/\aB H c=z
noncomputable def lK(C CN:Addr):Sp:=fun vs H Q E=>∃x y,vs=[x,y]/\Kn4 H x/\Known H y/\(∀z,y=.str z->z.length<=20000)/\(cY H x=false->∀H',aN H H'->E (.ref C) none H')/\
 (cY H x=true->(uX H x y->∀H',aN H H'->Q .non H')/\(¬uX H x y->∀H',aN H H'->E (.ref CN) none H'))
theorem yF{G:Gam}{K:aa}{C CN:Addr}(g1:G.fn "need_table" 1=some (rQ C,[]))(g2:G.fn "is_name" 1=some (spN,[]))(v1:G.val "NoName"=some (.ref CN))(xc:XC K CN):
  Sat G K (lK C CN) nJ nu:=by
 rintro vs H Q E ⟨x,y,rfl,hk,ky,hyl,q1,q2⟩;unfold nJ;change wpB G K _ _ _ [some x,some y] H;walk_at "wp";refine⟨_,_,g1,x,rfl,hk,fun e H1 s1=>?_,q1⟩;obtain⟨qy,qn⟩:=q2 e;obtain⟨a,ys,rfl,h1,h2,h3,h4,h5⟩:=fz e;unfold kK;walk_at "wp";refine⟨_,_,g2,y,rfl,(ky.same s1).1,hyl,fun H2 s2=>⟨_,rfl,?_⟩⟩;have s2:aN H H2:=s1.trans s2;cases hn:isName y with
 |false=>
  rw[if_pos (by simp)];have hno:¬uX H (.ref a) y:=by
   rintro⟨a',ys',z,c,e1,e2,rfl,hc,e4⟩;cases e1;rw[h1]at e2;cases e2;have :=qH (h3 c hc);rw[e4]at this;rw[show isName (V.str z)=dZ z from rfl,this]at hn;cases hn
  exact⟨CN,v1,xc.1,xc.2,short (by simp),qn hno H2 s2⟩
 |true=>
  rw[if_neg (by simp)];obtain⟨z,rfl⟩:∃z,y=.str z:=by
   cases y with
   |str z=>exact⟨z,rfl⟩
   |_=>cases hn
  have et:SqL K H2 a ys:=s2.seq (iW h1);refine d5 (cf rfl et (fJ cW (short h2) (fun H3 s3=>s3.seq et) (fun i v _=>∃c,ys[i]? =some c/\v=.bl (decide (z=aB H c))) (fun _ _ _ _ _ h=>h) (fun τ=>∃u,τ=[u,some (.str z)]) ⟨none,rfl⟩ ?_ ?_))
  ·rintro i c τ H3 R hi ⟨u,rfl⟩ s3 hc kk
   obtain⟨b,r,rfl,k1,k2,k3,k4⟩:=kh (h3 c (aD hc));walk_at "wp";refine .inr (.inl ⟨b,_,0,_,rfl,rfl,SqT.of (s3 _ _ (s2 _ _ k1)),rfl,?_⟩);walk_at "wp";exact kk _ _ _ ⟨_,rfl⟩ (aN.refl _) ⟨_,hc,rfl⟩
  ·intro vs H3 l hvl hF s3 hl3
   have ev:vs=(ys.map fun c=>decide (z=aB H c)).map V.bl:=by
    apply ji
    intro i;rw[bq,bq];by_cases hi:i<vs.length
    ·obtain⟨c,hc,hv⟩:=hF i _ (ae hi)
     rw[ae hi,hv,hc];rfl
    ·rw[dA (by omega),dA (by omega)]
     rfl
   rw[ev];have s4:=s2.trans (s3.trans (aF (o:=.lst ((ys.map fun c=>decide (z=aB H c)).map V.bl)) hl3));refine⟨l,_,rfl,SqL.of aE,_,rfl,?_⟩;have ea:(ys.map fun c=>decide (z=aB H c)).any id=true↔uX H (.ref a) (.str z):=by
    rw[List.any_map,gO];constructor
    ·rintro⟨c,hc,e⟩
     exact⟨a,ys,z,c,rfl,h1,rfl,hc,(of_decide_eq_true e).symm⟩
    ·rintro⟨a',ys',z',c,e1,e2,e3,hc,e4⟩
     cases e1;rw[h1]at e2;cases e2;cases e3;exact⟨c,hc,decide_eq_true e4.symm⟩
   by_cases hh:uX H (.ref a) (.str z)
   ·rw[ea.mpr hh,if_neg (by simp)]
    exact qy hh _ s4
   ·rw[eU.mpr fun z=>hh (ea.mp z),if_pos (by simp)]
    exact⟨CN,v1,xc.1,xc.2,short (by simp),qn hh _ s4⟩
noncomputable def rdV(H:Hp):V->V
 |.ref a=>match bF (H a)with
  |some [_,r]=>r
  |_=>.non
 |_=>.non
theorem AX{H:Hp}{b:Addr}{x r:V}(h:H b=some (.tup [x,r])):rdV H (.ref b)=r:=by
 show(match bF (H b)with |some [_,r]=>r|_=>V.non)=r;rw[h];rfl
noncomputable def wb(C CN:Addr)(T:Tb):Sp:=fun vs H Q E=>∃x y,vs=[x,y]/\Kn4 H x/\Known H y/\(∀z,y=.str z->z.length<=20000)/\Tab T H/\(cY H x=false->∀H',aN H H'->E (.ref C) none H')/\
 (cY H x=true->(¬uX H x y->∀H',aN H H'->E (.ref CN) none H')/\
  (uX H x y->∀(a:Addr)(ys:List V)(c:V) H' r,x=.ref a->cX (H a)=some ys->c∈ys->y=.str (aB H c)->Gr T H H'->H' r=some (.tup (lh H c))->Q (.ref r) H'))
theorem vL{G:Gam}{K:aa}{C CN:Addr}{T:Tb}(g1:G.fn "need_name" 2=some (lK C CN,[]))(g2:G.fn "table_list" 1=some (rR C T,[])):
  Sat G K (wb C CN T) qV qI:=by
 rintro vs H Q E ⟨x,y,rfl,hk,ky,hyl,tb,q1,q2⟩;unfold qV;change wpB G K _ _ _ [some x,some y,none] H;walk_at "wp";refine⟨_,_,g1,x,y,rfl,hk,ky,hyl,q1,fun e=>⟨fun hh H1 s1=>?_,(q2 e).1⟩⟩;have q:=(q2 e).2 hh;obtain⟨a,ys,rfl,h1,h2,h3,h4,h5⟩:=fz e;obtain⟨a',ys',z,c0,e1,e2,rfl,hc0,e4⟩:=hh;cases e1;rw[h1]at e2;cases e2;have e':cY H1 (.ref a)=true:=by rw[vV hk s1];exact e
 unfold nI;walk_at "wp";refine d5 ?_;walk_at "wp";refine⟨_,_,g2,_,rfl,.ref a,rfl,hk.same s1,(Gr.of s1).tab tb,fun _ H2 l zs gr hl el cpd=>.inl ⟨l,rfl,⟨zs,SqL.of el⟩,?_⟩,fun z'=>by(rw[e']at z';cases z')⟩;have gr0:Gr T H H2:=(Gr.of s1).trans gr;have h1':cX (H1 a)=some ys:=by
  obtain⟨a',ys',ea,k1,_⟩:=fz e';cases ea;have hs:=s1.seq (K:=K) (iW h1);cases eh:H a with
  |none=>rw[eh]at h1;cases h1
  |some o=>rw[s1 _ _ eh,<-eh];exact h1
 have ecd:∀c∈ys,aB H1 c=aB H c/\lh H1 c=lh H c:=fun c hc=>by
  obtain⟨b,r,rfl,k1,k2,_⟩:=kh (h3 c hc);have e1:=iF k1 k2;have e2:=iF (s1 _ _ k1) (s1 _ _ k2);exact⟨congrArg tH (e2.trans e1.symm),congrArg Prod.snd (e2.trans e1.symm)⟩
 have hn1:ys.map (aB H1)=ys.map (aB H):=fC fun c hc=>(ecd c hc).1;have zp:(srt H1 (.ref a)).Perm ys:=by
  rw[xB h1'];exact _root_.Q.fA V.non (by rw[hn1];exact h4) (by simp)
 generalize srt H1 (.ref a)=us at cpd zp;have hzl:zs.length<=40:=by rw[cpd.1,zp.length_eq];exact h2
 have at2:∀(i:Nat) y,zs[i]? =some y->∃b r c,y=.ref b/\c∈ys/\us[i]? =some c/\H2 b=some (.tup [.str (aB H c),.ref r])/\H2 r=some (.tup (lh H c)):=fun i y hy=>by
  obtain⟨b,r,rfl,k1,k2⟩:=cpd.2 i y hy;have hi:i<us.length:=by rw[<-cpd.1];exact(aU.mp hy).1
  have eu:us.getD i .non=us[i]:=by rw[ah,ae hi];rfl
  have hc:us[i]∈ys:=zp.mem_iff.mp (bp hi);rw[eu,(ecd _ hc).1]at k1;rw[eu,(ecd _ hc).2]at k2;exact⟨b,r,us[i],rfl,hc,ae hi,k1,k2⟩
 have atm:∀y∈zs,∃b r c,y=.ref b/\c∈ys/\H2 b=some (.tup [.str (aB H c),.ref r])/\H2 r=some (.tup (lh H c)):=fun y hy=>by
  obtain⟨i,hi⟩:=cO.mp hy;obtain⟨b,r,c,h1,h2,_,h3⟩:=at2 i y hi;exact⟨b,r,c,h1,h2,h3⟩
 refine iY cW (short hzl) (fun H3 s3=>s3.seq (SqL.of el)) (fun y=>decide (aB H2 y=z)) (rdV H2) (fun τ=>∃u v,τ=[u,v,some (.str z)]) ⟨none,none,rfl⟩ ?_ ?_
 ·rintro y τ H3 Rt Rf hy ⟨u,v,rfl⟩ s3 kt kf
  obtain⟨b,r,c,rfl,hc,k1,k2⟩:=atm y hy;refine⟨b,_,rfl,SqT.of (s3 _ _ k1),rfl,_,_,rfl,_,_,rfl,rfl,?_⟩;walk_at "wp";have en:aB H2 (.ref b)=aB H c:=congrArg tH (iF k1 k2);have er:rdV H2 (.ref b)=.ref r:=AX k1;rw[<-en,<-er];by_cases h:aB H2 (.ref b)=z
  ·rw[decide_eq_true h,if_pos rfl]
   exact kt _ _ ⟨_,_,rfl⟩ (aN.refl _) (decide_eq_true h)
  ·rw[decide_eq_false h,if_neg au]
   exact kf _ _ ⟨_,_,rfl⟩ (aN.refl _) (decide_eq_false h)
 ·intro H3 p s3 hp
  have ex:∃y∈zs,aB H2 y=z:=by
   obtain⟨i,hi,e5⟩:=aZ.mp (zp.mem_iff.mpr hc0);have hi':i<zs.length:=by rw[cpd.1];exact hi
   obtain⟨b,r,c,e6,hc,eu,k1,k2⟩:=at2 i zs[i] (ae hi');refine⟨zs[i],bp hi',?_⟩;rw[ae hi,e5]at eu;cases eu;rw[e6,show aB H2 (.ref b)=aB H c0 from congrArg tH (iF k1 k2),e4]
  obtain⟨y0,hy0,ey0⟩:=ex;cases hf:zs.filter (fun y=>decide (aB H2 y=z))with
  |nil=>
   have :y0∈zs.filter fun y=>decide (aB H2 y=z):=bM.mpr ⟨hy0,decide_eq_true ey0⟩;rw[hf]at this;cases this
  |cons y rest=>
   have hy:y∈zs.filter fun y=>decide (aB H2 y=z):=by rw[hf];exact .head _
   obtain⟨hy1,hy2⟩:=bM.mp hy;obtain⟨b,r,c,rfl,hc,k1,k2⟩:=atm y hy1;rw[cT,AX k1];unfold nH;walk_at "wp";refine .inl ⟨p,_,0,_,rfl,rfl,SqL.of aE,f9 (j:=0) rfl,?_⟩;have en:aB H2 (.ref b)=aB H c:=congrArg tH (iF k1 k2);exact q a ys c _ r rfl h1 hc (by rw[<-en,of_decide_eq_true hy2]) (gr0.trans (Gr.of (s3.trans (aF hp)))) ((s3.trans (aF hp)) _ _ k2)
end K32
namespace K02
open PySem PySem.Spec PyProof.Rows L2 R Cp Lt Lm
theorem kn1_ref{H:Hp}{p:Addr}(h:Known H (.ref p)):Kn1 H (.ref p):=⟨h,fun z e=>nomatch e⟩
theorem kn4_lst{H:Hp}{p:Addr}{xs:List V}(h:H p=some (.lst xs))(hl:xs.length<=20000)(hy:∀y∈xs,Kn3 H y):Kn4 H (.ref p):=⟨kn1_ref (sG h),fun a ys e g=>by
 injection e with e;subst e;rw[h]at g;cases g;exact⟨hl,hy⟩⟩
noncomputable def Sh(H:Hp)(ws:List V)(L:List (Str×List V)):Prop:=Paired (fun w l=>∃b r,w=V.ref b/\H b=some (.tup [.str l.1,.ref r])/\H r=some (.tup l.2)/\∀y∈l.2,aG y=true) ws L
theorem Sh.same{H H':Hp}{ws:List V}{L:List (Str×List V)}(h:Sh H ws L)(s:aN H H'):Sh H' ws L:=Paired.qb h fun w l ⟨b,r,e1,e2,e3,e4⟩=>⟨b,r,e1,s _ _ e2,s _ _ e3,e4⟩
theorem Sh.gr{T:Tb}{H H':Hp}{ws:List V}{L:List (Str×List V)}(h:Sh H ws L)(g:Gr T H H')(t:Tab T H):Sh H' ws L:=Paired.qb h fun w l ⟨b,r,e1,e2,e3,e4⟩=>⟨b,r,e1,g.tR t e2,g.tR t e3,e4⟩
noncomputable def rdD:V->D
 |.int i=>.int i
 |_=>.non
noncomputable def toD(l:Str×List V):D:=.tup [.str l.1,.tup (l.2.map rdD)]
theorem lM{K:aa}{H:Hp}:∀{rs:List V},(∀y∈rs,aG y=true)->gL K H (rs.map rdD) rs
 | [],_=>rfl
 |y::rs,h=>by
  refine⟨y,rs,rfl,?_,lM fun z hz=>h z (.tail _ hz)⟩;rcases cq (h y (.head _))with rfl|rfl<;>rfl
theorem o9:∀{rs:List V},(∀y∈rs,aG y=true)->fV (rs.map rdD)=0
 | [],_=>rfl
 |y::rs,h=>by
  have e:=o9 (rs:=rs) fun z hz=>h z (.tail _ hz);rcases cq (h y (.head _))with rfl|rfl<;>(show max 0 (fV (rs.map rdD))=0;rw[e];rfl)
theorem xH{K:aa}{H:Hp}:∀{ws:List V}{L:List (Str×List V)},Sh H ws L->gL K H (L.map toD) ws
 |_,_,.nil=>rfl
 |_,_,.cons ⟨b,r,e1,e2,e3,e4⟩ t=>⟨_,_,rfl,⟨b,_,e1,SqT.of e2,_,_,rfl,rfl,_,_,rfl,⟨r,_,rfl,SqT.of e3,lM e4⟩,rfl⟩,xH t⟩
theorem yi{H:Hp}:∀{ws:List V}{L:List (Str×List V)},Sh H ws L->fV (L.map toD)<=2
 |_,_,.nil=>by decide
 |_,_,.cons ⟨b,r,e1,e2,e3,e4⟩ t=>by
  have :=yi t
  show max (max 0 (max (fV (_:List D)+1) 0)+1) (fV _)<=2;rw[o9 e4];omega
noncomputable def say(H:Hp)(us:List V):List (Str×List V):=us.map fun u=>(aB H u,lh H u)
theorem qD{H:Hp}:∀{us:List V},(∀u∈us,bS H u=true)->Sh H us (say H us)
 | [],_=>.nil
 |u::us,h=>by
  obtain⟨a,b,e,h1,h2,_,h4⟩:=kh (h u (.head _));exact .cons ⟨a,b,e,h1,h2,h4⟩ (qD fun z hz=>h z (.tail _ hz))
theorem BL{K:aa}{H:Hp}{l:Addr}{xs:List V}{Q:VK}(h:H l=some (.lst xs))(q:Q (.bl true) H):rBf K .isinstance [.ref l,.ty (Ty.t .list)] H Q:=by
 refine isi (sG h) .list ?_;have e:fS (tyName H (.ref l)) (Ty.t .list)=true:=by show fS (fh (H l)) "list"=true;rw[h];rfl
 rw[e];exact q
theorem isi_tup{K:aa}{H:Hp}{l:Addr}{xs:List V}{Q:VK}(h:H l=some (.tup xs))(q:Q (.bl true) H):rBf K .isinstance [.ref l,.ty (Ty.t .tuple)] H Q:=by
 refine isi (mS h) .tuple ?_;have e:fS (tyName H (.ref l)) (Ty.t .tuple)=true:=by show fS (fh (H l)) "tuple"=true;rw[h];rfl
 rw[e];exact q
theorem srt_lst{H:Hp}{h:Addr}{ws:List V}(e:H h=some (.lst ws)):srt H (.ref h)=_root_.Q.sortBy V.non (ws.map (aB H)) ws:=by
 show(match cX (H h)with |some ys=>_root_.Q.sortBy V.non (ys.map (aB H)) ys|none=>[])=_;rw[e];rfl
end K02
namespace K11
open PySem PySem.Spec PyProof.Rows L2 R Cp Lt Lm K02
theorem iL{H:Hp}:∀{ws:List V}{L:List (Str×List V)}{i:Nat}{w:V},Sh H ws L->ws[i]? =some w->∃l,L[i]? =some l/\∃b r,w=V.ref b/\H b=some (.tup [.str l.1,.ref r])/\H r=some (.tup l.2)/\∀y∈l.2,aG y=true
 |_,_,0,w,.cons p t,e=>by
  cases e;exact⟨_,rfl,p⟩
 |_,_,i+1,w,.cons p t,e=>by
  obtain⟨l,e1,h⟩:=iL (i:=i) t (by simpa using e);exact⟨l,by simpa using e1,h⟩
end K11
namespace K12
open PySem PySem.Spec PyProof.Rows L2 R Cp Lt Lm K02 K11
theorem sh_copy{H:Hp}{w:V}{l:Str×List V}(h:∃b r,w=V.ref b/\H b=some (.tup [.str l.1,.ref r])/\H r=some (.tup l.2)/\∀y∈l.2,aG y=true)(hn:dZ l.1=true)(hl:l.2.length<=60):
  bS H w=true/\aB H w=l.1/\br H w=l.2.length/\Kn3 H w:=by
 obtain⟨b,r,rfl,h1,h2,h4⟩:=h;have ar:b9 H (.ref r)=true:=by
  show(match bF (H r)with |some xs=>decide (xs.length<=60)&&xs.all aG|none=>false)=true;rw[h2];show(decide (l.2.length<=60)&&l.2.all aG)=true;rw[decide_eq_true hl,cy,bP];exact h4
 have hz:l.1.length<=20000:=by
  have :=hn
  unfold dZ at this;rw[aw,decide_eq_true_eq]at this;omega
 refine⟨?_,?_,?_,⟨mS h1,fun z e=>nomatch e⟩,fun a xs e hx=>?_⟩
 ·show(match bF (H b)with |some [n,r]=>isName n&&b9 H r|_=>false)=true
  rw[h1];show(dZ l.1&&b9 H (.ref r))=true;rw[hn,ar];rfl
 ·show(match bF (H b)with |some (.str z::_)=>z|_=>("":Str))=_
  rw[h1];rfl
 ·show(match bF (H b)with |some [_,.ref b]=>(bF (H b)).elim 0 cF|_=>0)=l.2.length
  rw[h1];show(bF (H r)).elim 0 cF=l.2.length;rw[h2];rfl
 ·injection e with e
  subst e;rw[h1]at hx;cases hx;refine⟨by show 2<=20000;decide,fun y hy=>?_⟩;simp only[aO,d9,or_false]at hy;rcases hy with rfl|rfl
  ·exact⟨⟨o4,fun z e=>by injection e with e;rw[<-e];exact hz⟩,fun a xs e=>nomatch e⟩
  ·refine⟨⟨mS h2,fun z e=>nomatch e⟩,fun a xs e hx=>?_⟩
   injection e with e;subst e;rw[h2]at hx;cases hx;refine⟨by omega,fun z hz=>?_⟩;rcases cq (h4 z hz)with rfl|rfl
   ·exact⟨ll,fun z e=>nomatch e⟩
   ·exact⟨ll,fun z e=>nomatch e⟩
structure Good(L:List (Str×List V)):Prop where
 len:L.length<=40
 nm:∀l∈L,dZ l.1=true
 rd:∀l∈L,∀y∈l.2,aG y=true
 nd:(L.map (·.1)).Nodup
 ct:∃n≤60,∀l∈L,l.2.length=n
theorem oK{H:Hp}{ws:List V}{L:List (Str×List V)}(sh:Sh H ws L)(hn:∀l∈L,dZ l.1=true)(hl:∀l∈L,l.2.length<=60):ws.map (aB H)=L.map (·.1)/\∀w∈ws,bS H w=true/\Kn3 H w/\∃l∈L,br H w=l.2.length:=by
 induction sh with
 |nil=>exact⟨rfl,fun w h=>nomatch h⟩
 | @cons w l ws L h t ih=>
  obtain⟨e,k⟩:=ih (fun l h=>hn l (aJ _ h)) (fun l h=>hl l (aJ _ h));obtain⟨c1,c2,c3,c4⟩:=sh_copy h (hn l aH) (hl l aH);refine⟨by rw[cT,cT,e,c2],fun x hx=>?_⟩;rcases aO.mp hx with rfl|hx
  ·exact⟨c1,c4,l,aH,c3⟩
  ·obtain⟨a,b,l',hl',d⟩:=k x hx
   exact⟨a,b,l',aJ _ hl',d⟩
theorem jF{H:Hp}{ws:List V}{L:List (Str×List V)}(sh:Sh H ws L):ws.length=L.length:=mz sh
theorem oJ{H:Hp}{t:Addr}{ws:List V}{L:List (Str×List V)}(ht:H t=some (.lst ws))(sh:Sh H ws L)(g:Good L):Kn4 H (.ref t)/\cY H (.ref t)=true/\∀y∈ws,bS H y=true:=by
 obtain⟨n,hn,hc⟩:=g.ct;obtain⟨e,k⟩:=oK sh g.nm fun l hl=>by rw[hc l hl];exact hn
 have hwl:ws.length<=40:=by rw[jF sh];exact g.len
 have cp:∀y∈ws,bS H y=true:=fun y hy=>(k y hy).1;have ct:∀y∈ws,br H y=n:=fun y hy=>let⟨_,_,l,hl,z⟩:=k y hy;z.trans (hc l hl);refine⟨kn4_lst ht (by omega) fun y hy=>(k y hy).2.1,?_,cp⟩;show(match cX (H t)with |some xs=>decide (xs.length<=40)&&(xs.all (bS H)&&(decide ((xs.map (aB H)).Nodup)&&decide (∀y∈xs,∀z∈xs,br H y=br H z))) |none=>false)=true;rw[ht];show(decide (ws.length<=40)&&(ws.all (bS H)&&(decide ((ws.map (aB H)).Nodup)&&decide (∀y∈ws,∀z∈ws,br H y=br H z))))=true;rw[decide_eq_true hwl,cy,aw,aw,bP,decide_eq_true_eq,decide_eq_true_eq];exact⟨cp,by rw[e];exact g.nd,fun y hy z hz=>by rw[ct y hy,ct z hz]⟩
end K12
namespace K82
open PySem R
noncomputable def oR:List Str:=["table","name"]
noncomputable def jJ:List Str:=["table","name"]
noncomputable def jV:CB:=
  (.cons (.expr (.call "need_name" (.cons (.var 0) (.cons (.var 1) .nil))))
  (.cons (.ret (.comp ["copy"] [1] (.name 0) (.seq (.var 0)) (.yes (.cmp .NotEq (.idx (.var 0) (.con (.int 0))) (.var 1))) (.var 0)))
  .nil))
end K82
namespace K82
open PySem PySem.Spec PyProof.Rows L2 R Cp Lt Lm K02 K11 K12
noncomputable abbrev Row:=Str×List V
noncomputable def sL(L:List Row):List Row:=_root_.Q.sortBy (("":Str),([]:List V)) (L.map (·.1)) L
theorem j4{L:List Row}(nd:(L.map (·.1)).Nodup):(sL L).Perm L:=_root_.Q.fA _ nd (by simp)
theorem sh_cd{H:Hp}{ys:List V}{L:List Row}(sh:Sh H ys L):ys.map (K22.cd H)=L:=by
 induction sh with
 |nil=>rfl
 | @cons w l ws L h t ih=>
  obtain⟨b,r,rfl,h1,h2,h3⟩:=h;rw[cT,ih,K22.iF h1 h2]
theorem rows_sL{H:Hp}{t:Addr}{ys:List V}{L:List Row}(et:H t=some (.lst ys))(sh:Sh H ys L)(g:Good L):K22.rowsOf H (.ref t)=sL L:=by
 obtain⟨n,hn,hc⟩:=g.ct;obtain⟨e,_⟩:=oK sh g.nm fun l hl=>by rw[hc l hl];exact hn
 unfold K22.rowsOf sL;rw[srt_lst et,_root_.Q.wk,sh_cd sh,e];rfl
structure Tl(H:Hp)(t:Addr)(ys:List V)(L:List Row):Prop where
 et:H t=some (.lst ys)
 sh:Sh H ys L
 gd:Good L
theorem Tl.same{H H':Hp}{t:Addr}{ys:List V}{L:List Row}(h:Tl H t ys L)(s:aN H H'):Tl H' t ys L:=⟨s _ _ h.et,h.sh.same s,h.gd⟩
noncomputable def spWo(C CN:Addr):Sp:=fun vs H Q E=>∃t ys L x,vs=[.ref t,x]/\Tl H t ys L/\Known H x/\(∀z,x=.str z->z.length<=20000)/\((∀z,x=.str z->z∉L.map (·.1))->∀H',aN H H'->E (.ref CN) none H')/\
 ∀z,x=.str z->z∈L.map (·.1)->∀H' t' ys',aN H H'->Tl H' t' ys' (L.filter fun l=>decide (l.1≠z))->Q (.ref t') H'
theorem vb{L:List Row}(g:Good L)(p:Row->Bool):Good (L.filter p):=
 ⟨aI (bz _ _) g.len,fun l h=>g.nm l (bM.mp h).1,fun l h=>g.rd l (bM.mp h).1,g.nd.sublist (lI _ de),let⟨n,a,b⟩:=g.ct;⟨n,a,fun l h=>b l (bM.mp h).1⟩⟩
theorem yM{H:Hp}{ys:List V}{L:List Row}{p:V->Bool}{q:Row->Bool}(sh:Sh H ys L)(h:∀(w:V)(l:Row),(∃b r,w=V.ref b/\H b=some (.tup [.str l.1,.ref r])/\H r=some (.tup l.2)/\∀y∈l.2,aG y=true)->p w=q l):Sh H (ys.filter p) (L.filter q):=by
 induction sh with
 |nil=>exact .nil
 | @cons w l ws L hw t ih=>
  rw[fu,fu,h w l hw];split
  ·exact .cons hw ih
  ·exact ih
theorem fY{H:Hp}{t:Addr}{ys:List V}{L:List Row}(tl:Tl H t ys L){z:Str}:K32.uX H (.ref t) (.str z)↔z∈L.map (·.1):=by
 obtain⟨n,hn,hc⟩:=tl.gd.ct;obtain⟨e,_⟩:=oK tl.sh tl.gd.nm fun l hl=>by rw[hc l hl];exact hn
 rw[<-e];constructor
 ·rintro⟨a,ys',z',c,e1,e2,e3,e4,e5⟩
  injection e1 with e1;subst e1;injection e3 with e3;subst e3;rw[tl.et]at e2;cases e2;exact a8.mpr ⟨c,e4,e5⟩
 ·intro h
  obtain⟨c,hc1,hc2⟩:=a8.mp h;exact⟨t,ys,z,c,rfl,by rw[tl.et];rfl,rfl,hc1,hc2⟩
theorem wp_wo{G:Gam}{K:aa}{C CN:Addr}(g1:G.fn "need_name" 2=some (K32.lK C CN,[])):
  Sat G K (spWo C CN) jV jJ:=by
 rintro vs H Q E ⟨t,ys,L,x,rfl,tl,hk,hx,q1,q2⟩;unfold jV;change wpB G K _ _ _ [some (.ref t),some x] H;walk_at "wp";obtain⟨k1,k2,_⟩:=oJ tl.et tl.sh tl.gd;refine⟨_,_,g1,.ref t,x,rfl,k1,hk,hx,(fun e=>by rw[k2]at e;cases e),fun _=>⟨fun hn H1 s1=>?_,fun hn H1 s1=>?_⟩⟩
 ·have tl1:=tl.same s1
  obtain⟨z,rfl⟩:∃z,x=.str z:=by
   obtain⟨_,_,z,_,_,_,e,_⟩:=hn;exact⟨z,e⟩
  have hyl:ys.length<=40:=by rw[jF tl.sh];exact tl.gd.len
  refine d5 (cf rfl (SqL.of tl1.et) (iY (xs:=ys) cW (short hyl) (fun H2 s2=>SqL.of (s2 _ _ tl1.et)) (fun y=>decide (aB H1 y≠z)) id (fun τ=>∃t,τ=[t,some (.str z)]) ⟨none,rfl⟩ ?_ ?_))
  ·rintro y τ H3 Rt Rf hy ⟨t0,rfl⟩ s3 kt kf
   obtain⟨i,hi⟩:=dJ hy;obtain⟨l,el,b,r',rfl,hb,hr',_⟩:=iL tl1.sh hi;have en:aB H1 (.ref b)=l.1:=by
    show(match bF (H1 b)with |some (.str z::_)=>z|_=>("":Str))=_;rw[hb];rfl
   walk_at "wp"
   refine .inr (.inl ⟨b,_,0,.str l.1,rfl,rfl,SqT.of (s3 _ _ hb),rfl,?_⟩);refine ne_ss.mpr ⟨_,rfl,?_⟩;by_cases e:l.1=z
   ·rw[if_neg (by rw[e];simp)]
    exact kf _ _ ⟨_,rfl⟩ (aN.refl _) (by rw[en,e];simp)
   ·rw[if_pos (by simp[e])]
    exact kt _ _ ⟨_,rfl⟩ (aN.refl _) (by rw[en];simp[e])
  ·intro H2 m s2 hm
   rw[List.map_id];have s3:=aF (o:=.lst (ys.filter fun y=>decide (aB H1 y≠z))) hm;have sh1:Sh H1 (ys.filter fun y=>decide (aB H1 y≠z)) (L.filter fun l=>decide (l.1≠z)):=yM tl1.sh fun w l ⟨b,r,e1,e2,_,_⟩=>by
    subst e1;rw[show aB H1 (.ref b)=l.1 from by
     show(match bF (H1 b)with |some (.str z::_)=>z|_=>("":Str))=_;rw[e2];rfl]
   exact q2 z rfl ((fY tl).mp hn) _ m _ (s1.trans (s2.trans s3)) ⟨aE,sh1.same (s2.trans s3),vb tl.gd _⟩
 ·refine q1 (fun z e hz=>?_) H1 s1
  subst e;exact hn ((fY tl).mpr hz)
end K82
namespace K85
open PySem PySem.Spec PyProof.Rows L2 R Cp Lt Lm K02 K11 K12
noncomputable abbrev Tri:=_root_.Q.Tri
noncomputable abbrev Row:=K82.Row
noncomputable def bel(R:List Row)(own:List V)(p:Nat):List Str:=(R.filter fun l=>decide (l.2.take p=own.take p)).map (·.1)
noncomputable def abv(R:List Row)(own:List V)(p:Nat):List Str:=(R.filter fun l=>decide (l.2.drop p=own.drop p)).map (·.1)
noncomputable def mM(p:Nat)(up:List Str)(o:Str):List Tri:=(up.filter fun u=>decide (u≠o)).map fun u=>((p:Int),o,u)
noncomputable def uE(R:List Row)(own:List V)(p:Nat):List Tri:=(bel R own p).flatMap (mM p (abv R own p))
noncomputable def mix(R:List Row)(own:List V)(n:Nat):List Tri:=(aM n).flatMap fun k=>uE R own (k+1)
theorem ya{R:List Row}{own:List V}{p:Nat}{o:Str}:o∈bel R own p↔∃l∈R,l.1=o/\l.2.take p=own.take p:=by
 unfold bel;simp only[a8,bM,decide_eq_true_eq];exact⟨fun⟨l,⟨a,b⟩,c⟩=>⟨l,a,c,b⟩,fun⟨l,a,b,c⟩=>⟨l,⟨a,c⟩,b⟩⟩
theorem yb{R:List Row}{own:List V}{p:Nat}{o:Str}:o∈abv R own p↔∃l∈R,l.1=o/\l.2.drop p=own.drop p:=by
 unfold abv;simp only[a8,bM,decide_eq_true_eq];exact⟨fun⟨l,⟨a,b⟩,c⟩=>⟨l,a,c,b⟩,fun⟨l,a,b,c⟩=>⟨l,⟨a,c⟩,b⟩⟩
noncomputable def Is(R:List Row)(own:List V)(n:Nat)(x:Tri):Prop:=∃k<n,x.1=((k+1:Nat):Int)/\x.2.2≠x.2.1/\(∃l∈R,l.1=x.2.1/\l.2.take (k+1)=own.take (k+1))/\∃l∈R,l.1=x.2.2/\l.2.drop (k+1)=own.drop (k+1)
theorem mem_mix{R:List Row}{own:List V}{n:Nat}{x:Tri}:x∈mix R own n↔Is R own n x:=by
 obtain⟨p,o,u⟩:=x;unfold mix uE mM Is;simp only[fo,bX,a8,bM,decide_eq_true_eq,tB];constructor
 ·rintro⟨k,hk,o',ho,u',⟨hu,hn⟩,rfl,rfl,rfl⟩
  exact⟨k,hk,rfl,hn,ya.mp ho,yb.mp hu⟩
 ·rintro⟨k,hk,rfl,hn,ho,hu⟩
  exact⟨k,hk,o,ya.mpr ho,u,⟨yb.mpr hu,hn⟩,rfl,rfl,rfl⟩
theorem mix_up{R:List Row}{own:List V}{n:Nat}(up:(R.map (·.1)).Pairwise fun a b=>_root_.Q.tlt a b=true):(mix R own n).Pairwise fun a b=>_root_.Q.t3 a b=true:=by
 have u1:∀f:Row->Bool,((R.filter f).map (·.1)).Pairwise fun a b=>_root_.Q.tlt a b=true:=fun f=>up.sublist (lI _ de);unfold mix;rw[gM];refine⟨fun k _=>?_,?_⟩
 ·unfold uE
  rw[gM];refine⟨fun o _=>?_,?_⟩
  ·unfold mM
   rw[dH];refine((u1 _).sublist (de)).imp fun{a b} h=>?_;exact _root_.Q.k7.mpr (.inr ⟨rfl,.inr ⟨rfl,h⟩⟩)
  ·refine(u1 _).imp fun{a b} h x hx y hy=>?_
   obtain⟨u,_,rfl⟩:=a8.mp hx;obtain⟨v,_,rfl⟩:=a8.mp hy;exact _root_.Q.k7.mpr (.inr ⟨rfl,.inl h⟩)
 ·refine aX.mpr fun i j hi hj hij x hx y hy=>?_
  rw[List.getElem_range]at hx hy;unfold uE at hx hy;obtain⟨a,_,hx⟩:=fo.mp hx;obtain⟨b,_,hy⟩:=fo.mp hy;obtain⟨u,_,rfl⟩:=a8.mp hx;obtain⟨v,_,rfl⟩:=a8.mp hy;exact _root_.Q.k7.mpr (.inl (by show((i+1:Nat):Int)<((j+1:Nat):Int);omega))
noncomputable def fits(own:List V)(a b:List V)(p:Nat):Bool:=decide (a.take p=own.take p/\b.drop p=own.drop p)
noncomputable def l9(own:List V)(a b:Row)(m:Nat):List Tri:=((aM m).filter fun k=>fits own a.2 b.2 (k+1)).map fun k=>(((k+1:Nat):Int),a.1,b.1)
noncomputable def may(z:Str)(a b:Row):Bool:=decide (a.1≠b.1/\a.1≠z/\b.1≠z)
noncomputable def mW(z:Str)(own:List V)(n:Nat)(a b:Row):List Tri:=if may z a b then l9 own a b n else[]
noncomputable def sI(L:List Row)(z:Str)(own:List V)(n:Nat)(a:Row):List Tri:=L.flatMap (mW z own n a)
noncomputable def due(L:List Row)(z:Str)(own:List V)(n:Nat):List Tri:=L.flatMap (sI L z own n)
theorem jM{z:Str}{own:List V}{n:Nat}{a b:Row}{x:Tri}:x∈mW z own n a b↔a.1≠b.1/\a.1≠z/\b.1≠z/\∃k<n,x=(((k+1:Nat):Int),a.1,b.1)/\a.2.take (k+1)=own.take (k+1)/\b.2.drop (k+1)=own.drop (k+1):=by
 unfold mW may l9 fits;by_cases h:a.1≠b.1/\a.1≠z/\b.1≠z
 ·rw[if_pos (decide_eq_true h)]
  simp only[a8,bM,bX,decide_eq_true_eq];constructor
  ·rintro⟨k,⟨hk,h1,h2⟩,rfl⟩
   exact⟨h.1,h.2.1,h.2.2,k,hk,rfl,h1,h2⟩
  ·rintro⟨_,_,_,k,hk,rfl,h1,h2⟩
   exact⟨k,⟨hk,h1,h2⟩,rfl⟩
 ·rw[if_neg (by simpa using h)]
  constructor
  ·exact fun e=>absurd e d9
  ·rintro⟨h1,h2,h3,_⟩
   exact absurd ⟨h1,h2,h3⟩ h
theorem mem_due{L:List Row}{z:Str}{own:List V}{n:Nat}{x:Tri}:x∈due L z own n↔Is (L.filter fun l=>decide (l.1≠z)) own n x:=by
 unfold due sI;simp only[fo,jM];unfold Is;simp only[bM,decide_eq_true_eq];constructor
 ·rintro⟨a,ha,b,hb,h1,h2,h3,k,hk,rfl,h4,h5⟩
  exact⟨k,hk,rfl,fun e=>h1 e.symm,⟨a,⟨ha,h2⟩,rfl,h4⟩,b,⟨hb,h3⟩,rfl,h5⟩
 ·obtain⟨p,o,u⟩:=x
  rintro⟨k,hk,e,hn,⟨a,⟨ha,h2⟩,e1,h4⟩,b,⟨hb,h3⟩,e2,h5⟩;simp only at e hn e1 e2;subst e e1 e2;exact⟨a,ha,b,hb,fun z=>hn z.symm,h2,h3,k,hk,rfl,h4,h5⟩
theorem B5{L:List Row}{z:Str}{own:List V}{n:Nat}(nd:(L.map (·.1)).Nodup):(due L z own n).Nodup:=by
 have nd':L.Pairwise fun a b=>a.1≠b.1:=dH.mp nd;unfold due sI;rw[fe,gM];refine⟨fun a _=>?_,nd'.imp fun{a b} h x hx y hy=>?_⟩
 ·rw[gM]
  refine⟨fun b _=>?_,nd'.imp fun{b c} h x hx y hy=>?_⟩
  ·unfold mW
   split
   ·unfold l9
    rw[dH];refine(fe.mp (jA.sublist de)).imp fun{i j} h e=>h ?_;have :=(eQ e).1;omega
   ·exact .nil
  ·obtain⟨_,_,_,k,_,rfl,_⟩:=jM.mp hx
   obtain⟨_,_,_,k',_,rfl,_⟩:=jM.mp hy;intro e;exact h (eQ (eQ e).2).2
 ·obtain⟨c,_,hx⟩:=fo.mp hx
  obtain⟨d,_,hy⟩:=fo.mp hy;obtain⟨_,_,_,k,_,rfl,_⟩:=jM.mp hx;obtain⟨_,_,_,k',_,rfl,_⟩:=jM.mp hy;intro e;exact h (eQ (eQ e).2).1
theorem up_nd{l:List Tri}(h:l.Pairwise fun a b=>_root_.Q.t3 a b=true):l.Nodup:=fe.mpr (h.imp fun{a b} h e=>by rw[e,_root_.Q.vX]at h;cases h)
theorem is_mem{R R':List Row}{own:List V}{n:Nat}{x:Tri}(h:∀l,l∈R↔l∈R'):Is R own n x↔Is R' own n x:=by
 unfold Is;simp only[h]
theorem due_eq{L:List Row}{z:Str}{own:List V}{n:Nat}{qs:List Tri}(nd:(L.map (·.1)).Nodup)(p:qs.Perm (due L z own n))(up:qs.Pairwise fun a b=>_root_.Q.t3 a b=true):qs=mix ((K82.sL L).filter fun l=>decide (l.1≠z)) own n:=by
 have rs:((K82.sL L).map (·.1)).Pairwise fun a b=>_root_.Q.tlt a b=true:=by
  have h:=_root_.Q.t7 (("",[]):Row) (·.1) (fun _=>true) nd;have ft:∀l:List Row,l.filter (fun _=>true)=l:=fun l=>List.filter_eq_self.mpr fun _ _=>rfl;rw[ft,ft]at h;unfold K82.sL;rw[h];exact _root_.Q.iE nd
 have mu:(mix ((K82.sL L).filter fun l=>decide (l.1≠z)) own n).Pairwise fun a b=>_root_.Q.t3 a b=true:=mix_up (rs.sublist (lI _ de));refine _root_.Q.jG (r:=_root_.Q.t3) (fun x _ y _ h=>?_) ((List.perm_ext_iff_of_nodup (p.nodup_iff.mpr (B5 nd)) (up_nd mu)).mpr fun x=>?_) up mu
 ·rw[<-Bool.not_eq_true]
  intro k;have :=_root_.Q.oD h k;rw[_root_.Q.vX]at this;cases this
 ·rw[p.mem_iff,mem_due,mem_mix]
  refine is_mem fun l=>?_;simp only[bM,(K82.j4 nd).mem_iff]
theorem gu{α β:Type}{f:α->List β}{c:Nat}:∀{l:List α},(∀x∈l,(f x).length<=c)->(l.flatMap f).length<=l.length*c
 | [],_=>aW _
 |x::l,h=>by
  rw[List.flatMap_cons,ai,a7,Nat.succ_mul];have h1:=h x (.head _);have h2:=gu (l:=l) fun y hy=>h y (.tail _ hy);omega
theorem lL{Rw:List Row}(h:Rw.length<=22)(f:Row->Bool):((Rw.filter f).map (·.1)).length<=22:=by
 rw[aC];exact aI (bz _ _) h
theorem x9{Rw:List Row}{own:List V}{k:Nat}(h:Rw.length<=22)(hk:k<=8):(mix Rw own k).length<=4000:=by
 have h1:∀p,(uE Rw own p).length<=22*22:=fun p=>aI (gu fun o _=>by
  unfold mM;rw[aC];exact aI (bz _ _) (lL h _)) (gx (lL h _) (aq _))
 have h2:(mix Rw own k).length<=(aM k).length*(22*22):=gu fun p _=>h1 _;rw[eR]at h2;omega
theorem due_len{L:List Row}{z:Str}{own:List V}{n:Nat}(hl:L.length<=22)(hn:n<=8):(due L z own n).length<=4000:=by
 have h1:∀a,(sI L z own n a).length<=L.length*8:=fun a=>gu fun b _=>by
  unfold mW;split
  ·unfold l9
   rw[aC];refine aI (bz _ _) ?_;rw[eR];exact hn
  ·exact aW _
 have h2:(due L z own n).length<=L.length*(L.length*8):=gu fun a _=>h1 a;have h3:L.length*(L.length*8)<=22*(22*8):=gx hl (gx hl (aq _));omega
end K85
namespace K82
open PySem PySem.Spec PyProof.Rows L2 R Cp Lt Lm K02 K11 K12
theorem Am{H:Hp}{l:Addr}{zs:List V}(el:H l=some (.lst zs))(e:cY H (.ref l)=true):Sh H zs (zs.map (K22.cd H)):=by
 obtain⟨a,ys,e1,h1,h2,h3,_⟩:=fz e;injection e1 with e1
 subst e1;rw[el]at h1;cases h1;exact qD h3
theorem zr{L L':List Row}(p:L'.Perm L)(g:Good L):Good L':=
 ⟨by rw[p.length_eq];exact g.len,fun l h=>g.nm l (p.mem_iff.mp h),fun l h=>g.rd l (p.mem_iff.mp h),(p.map _).nodup_iff.mpr g.nd,let⟨n,a,b⟩:=g.ct;⟨n,a,fun l h=>b l (p.mem_iff.mp h)⟩⟩
end K82
namespace K84
open PySem R
noncomputable def uu:List Str:=["_law_script","_law_k"]
noncomputable def nA:List Str:=["_law_script","_law_k"]
noncomputable def nO:CB:=
  (.cons (.iff (.and (.cmp .Eq (.bin .Mod (.bin .FloorDiv (.idx (.var 0) (.con (.int 0))) (.con (.int 64))) (.con (.int 2))) (.con (.int 1))) (.cmp .Gt (.idx (.var 0) (.var 1)) (.bin .Pow (.con (.int 10)) (.con (.int 12)))))
  (.cons (.ret (.bin .Mod (.idx (.var 0) (.var 1)) (.bin .Pow (.con (.int 10)) (.con (.int 30)))))
  .nil)
  .nil)
  (.cons (.ret (.bin .Mod (.bin .Mult (.bin .Add (.idx (.var 0) (.var 1)) (.con (.int 1))) (.bin .Add (.con (.int 48271)) (.bin .Mult (.bin .Mult (.con (.int 7919)) (.var 1)) (.var 1)))) (.con (.int 2147483629))))
  .nil))
end K84
namespace K84
open PySem PySem.Spec PyProof.Rows L2 R Cp Lt Kc K21 K22 Lm
section
variable {G:Gam}{K:aa}
noncomputable def rS(K:aa):Sp:=fun vs H Q _=>∃(a:Addr)(ns:List Int)(k:Nat),vs=[.ref a,.int k]/\SqL K H a (ns.map V.int)/\k<ns.length/\k<=100/\∀d:Int,0<=d->Q (.int d) H
theorem Aa:Sat G K (rS K) nO nA:=by
 rintro vs H Q E ⟨a,ns,k,rfl,ha,hk,hk1,q⟩;unfold nO;change wpB G K _ _ _ [some (.ref a),some (.int k)] H;walk_at "wp";have h0:(ns.map V.int)[0]? =some (.int (ns.getD 0 0)):=uZ (by omega);have hk':(ns.map V.int)[k]? =some (.int (ns.getD k 0)):=uZ hk;generalize ns.getD 0 0=c0 at h0;generalize ns.getD k 0=c at hk';have at':∀{Q':VK},Q' (.int c) H->rIx K (.ref a) (.int k) H Q':=fun h=>.inl ⟨a,_,k,_,rfl,rfl,ha,f9 hk',h⟩;have last:∀{Q':VK},(∀d:Int,0<=d->Q' (.int d) H)->rIx K (.ref a) (.int k) H fun x H1=>i9 K Operator.Add x (V.int 1) H1 fun x H1=>sZ 7919 ↑k/\sZ (7919*↑k) ↑k/\i9 K Operator.Mult x (V.int (48271+7919*↑k*↑k)) H1 fun x H1=>i9 K Operator.Mod x (V.int 2147483629) H1 Q':=fun{Q'} h=>by
  refine at' ?_;have hkk:0<=7919*(k:Int)*k/\7919*(k:Int)*k<=79190000:=by
   have h1:0<=(k:Int)*k:=Int.mul_nonneg (by omega) (by omega);have h2:(k:Int)*k<=100*100:=Int.mul_le_mul (by omega) (by omega) (by omega) (by decide);rw[Int.mul_assoc];omega
  walk_at "wp"
  exact⟨cmulL (by decide) (by decide),cmulR (by omega) (by omega),cmulR (by omega) (by omega),by decide,h _ (dM _ (by decide))⟩
 refine .inl ⟨a,_,0,_,rfl,rfl,ha,f9 (j:=0) h0,?_⟩;walk_at "wp";refine⟨⟨by decide,by decide⟩,by decide,?_⟩;by_cases h1:c0/64%2=1
 ·rw[if_pos (decide_eq_true h1)]
  refine at' ⟨⟨by decide,by decide,by decide⟩,?_⟩;walk_at "wp";by_cases h2:(10:Int)^Int.toNat 12<c
  ·rw[if_pos (decide_eq_true h2)]
   refine at' ⟨⟨by decide,by decide,by decide⟩,?_⟩;walk_at "wp";exact⟨by decide,q _ (dM _ (by decide))⟩
  ·rw[if_neg (by simpa using h2)]
   exact last q
 ·rw[if_neg (by simpa using h1),if_neg au]
  exact last q
theorem Cm(x:Int):x%2=0\/x%2=1:=by omega
end
end K84
namespace K85
open PySem R
noncomputable def p_mixed:List Str:=["table","name"]
noncomputable def xZ:List Str:=["table","name","node","copies","found","place","below","above","one"]
noncomputable def qW:CB:=
  (.cons (.ret (.var 4))
  .nil)
noncomputable def jW:CB:=
  (.cons (.forr (.name 8) (.seq (.var 6))
  (.cons (.expr (.meth1 .extend (.var 4) (.comp ["other"] [5,8] (.name 0) (.seq (.var 7)) (.yes (.cmp .NotEq (.var 0) (.var 2))) (.tup (.cons (.var 1) (.cons (.var 2) (.cons (.var 0) .nil)))))))
  .nil))
  .nil)
noncomputable def iz:CB:=
  (.cons (.asgc 7 (.comp ["other","readings"] [2,5] (.tup (.cons (.name 0) (.cons (.name 1) .nil))) (.seq (.var 3)) (.yes (.cmp .Eq (.cut (.var 1) (.yes (.var 3)) .no) (.cut (.var 2) (.yes (.var 3)) .no))) (.var 0)))
  jW)
noncomputable def qX:CB:=
  (.cons (.forr (.name 5) (.range2 (.con (.int 1)) (.bfn .len (.cons (.var 2) .nil)))
  (.cons (.asgc 6 (.comp ["one","readings"] [2,5] (.tup (.cons (.name 0) (.cons (.name 1) .nil))) (.seq (.var 3)) (.yes (.cmp .Eq (.cut (.var 1) .no (.yes (.var 3))) (.cut (.var 2) .no (.yes (.var 3))))) (.var 0)))
  iz))
  qW)
noncomputable def qY:CB:=
  (.cons (.asg (.name 4) (.lst .nil))
  qX)
noncomputable def qZ:CB:=
  (.cons (.asg (.name 3) (.call "without_copy" (.cons (.call "table_list" (.cons (.var 0) .nil)) (.cons (.var 1) .nil))))
  qY)
noncomputable def yp:CB:=
  (.cons (.asg (.name 2) (.call "node_of" (.cons (.var 0) (.cons (.var 1) .nil))))
  qZ)
end K85
namespace K85
open PySem PySem.Spec PyProof.Rows L2 R Cp Lt Lm K02 K11 K12 Kc
theorem ym:∀{xs ys:List V},(∀y∈xs,aG y=true)->(∀y∈ys,aG y=true)->iX (xs.map rdD) (ys.map rdD)=decide (xs=ys)
 | [],[],_,_=>rfl
 | [],_::_,_,_=>rfl
 |_::_,[],_,_=>rfl
 |a::xs,b::ys,h,k=>by
  show(eqD (rdD a) (rdD b)&&iX (xs.map rdD) (ys.map rdD))=_;rw[ym (fun y hy=>h y (.tail _ hy)) (fun y hy=>k y (.tail _ hy))];have e:eqD (rdD a) (rdD b)=decide (a=b):=by
   rcases cq (h a (.head _))with rfl|rfl<;>rcases cq (k b (.head _))with rfl|rfl<;>rfl
  rw[e,fM,aw,decide_eq_true_eq,decide_eq_true_eq,decide_eq_true_eq,zY]
theorem pk(xs:List V)(k:Nat):mY xs none (some (k:Int))=xs.take k:=by
 unfold mY;rw[HT.iq];show(xs.drop 0).take (min k xs.length-0)=_;rw[lH,zP,List.take_eq_take_iff];omega
theorem jT(xs:List V)(k:Nat)(h:k<=xs.length):mY xs (some (k:Int)) none=xs.drop k:=by
 unfold mY;rw[HT.iq];show(xs.drop (min k xs.length)).take (xs.length-min k xs.length)=_;rw[kU h,cJ (by simp)]
theorem B2{K:aa}{H:Hp}{a b:Addr}{xs ys:List V}{Q:VK}(ha:SqT K H a xs)(hb:SqT K H b ys)(hx:∀y∈xs,aG y=true)(hy:∀y∈ys,aG y=true)(q:Q (.bl (decide (xs=ys))) H):ej K .Eq (.ref a) (.ref b) H Q:=by
 refine⟨.tup (xs.map rdD),.tup (ys.map rdD),⟨a,_,rfl,ha,lM hx⟩,⟨b,_,rfl,hb,lM hy⟩,?_,?_⟩
 ·show fV (xs.map rdD)+1<=30
  rw[o9 hx];decide
 ·rw[show eqD (.tup (xs.map rdD)) (.tup (ys.map rdD))=decide (xs=ys)from ym hx hy]
  exact q
theorem Cc{J:It}{Hc:Hp->Prop}{g:TG}{tc:TT}{te:TE}{Q:VK}{τ0:L2.St}{H1:Hp}{xs:List V}(S:qk J xs.length (fun i x _=>xs[i]? =some x) Hc)(hn:xs.length<=sizeLine)(hc:∀H,aN H1 H->Hc H)
  (t:V->Bool)(F:V->V->Hp->Prop)(Fm:∀x v H H',aN H H'->F v x H->F v x H')(T:L2.St->Prop)(hT:T τ0)
  (step:∀x τ H3 (Rt:L2.St->V->Hp->Prop)(Rf:L2.St->Hp->Prop),x∈xs->T τ->aN H1 H3->(∀τ' v H6,T τ'->aN H3 H6->t x=true->F v x H6->Rt τ' v H6)->(∀τ' H6,T τ'->aN H3 H6->t x=false->Rf τ' H6)->
   g x τ H3 fun τ4 H4=>tc τ4 H4 fun b H5=>if b=true then te τ4 H5 (Rt τ4)else Rf τ4 H5)
  (fin:∀vs H2 l,aN H1 H2->H2 l=none->Paired (fun v x=>F v x H2) vs (xs.filter t)->Q (.ref l) (upd H2 l (.lst vs))):yw J g tc te τ0 H1 Q:=by
 refine⟨fun i m τ acc H2=>m=xs.length-i/\i<=xs.length/\T τ/\Paired (fun v x=>F v x H2) acc ((xs.take i).filter t)/\aN H1 H2,⟨xs.length,by simp,aW _,hT,.nil,aN.refl _⟩,?_⟩;rintro i m τ acc H2 ⟨rfl,hi,ht,pr,sm⟩;have q:=hc H2 sm;by_cases hlt:i<xs.length
 ·refine .inr ⟨S.go i H2 q hlt,fun τ' acc' H'=>T τ'/\Paired (fun v x=>F v x H') acc' ((xs.take (i+1)).filter t)/\aN H1 H',fun τ' acc' H' ⟨a,b,c⟩=>⟨xs.length-(i+1),by omega,rfl,hlt,a,b,c⟩,fun x H3 y=>?_⟩
  obtain⟨y1,y2⟩:=S.yld i H2 x H3 q hlt y;have e:xs.take (i+1)=xs.take i++[x]:=by rw[da,y1];rfl
  have hlen:acc.length<=i:=by
   rw[mz pr];refine aI (bz _ _) ?_;rw[aA];omega
  have s3:=sm.trans y2;refine step x τ H3 _ _ (aD y1) ht s3 (fun τ' v H6 h1 h2 h3 h4=>⟨by omega,h1,?_,s3.trans h2⟩) (fun τ' H6 h1 h2 h3=>⟨h1,?_,s3.trans h2⟩)
  ·rw[e,fO]
   simp only[fu,h3,if_true,rF];exact K32.Paired.snoc (F:=fun v x=>F v x H6) h4 (Paired.qb pr fun v x f=>Fm x v _ _ (y2.trans h2) f)
  ·rw[e,fO]
   simp only[fu,h3,rF,cM,bt,if_false];exact Paired.qb pr fun v x f=>Fm x v _ _ (y2.trans h2) f
 ·have e:i=xs.length:=by omega
  subst e;rw[d8]at pr;exact .inl ⟨S.stop _ H2 q (aq _),fun l hl'=>fin acc H2 l sm hl' pr⟩
theorem t9{H H':Hp}{l:Addr}{o:HO}(s:aN H H')(n:H l=none):aN H (upd H' l o):=fun b o' e=>by
 rw[bo (fun z=>by rw[z,n]at e;cases e)];exact s b o' e
theorem vU{H:Hp}{l:Addr}{xs ys zs:List V}{ps:List Tri}(el:H l=some (.lst xs))(k:_root_.Q.bu H zs ps):_root_.Q.bu (upd H l (.lst ys)) zs ps:=Paired.qb k fun v p ⟨a,e,h⟩=>⟨a,e,by rw[bo (fun z=>by rw[z,el]at h;cases h)];exact h⟩
theorem dY{H H':Hp}{zs:List V}{ps:List Tri}(k:_root_.Q.bu H zs ps)(s:aN H H'):_root_.Q.bu H' zs ps:=Paired.qb k fun v p ⟨a,e,h⟩=>⟨a,e,s _ _ h⟩
theorem tk_gr{T:Tb}{H H':Hp}{zs:List V}{ps:List Tri}(k:_root_.Q.bu H zs ps)(s:Gr T H H')(t:Tab T H):_root_.Q.bu H' zs ps:=Paired.qb k fun v p ⟨a,e,h⟩=>⟨a,e,s.tR t h⟩
theorem sf{α β:Type}{F:α->β->Prop}{l l':List α}{m m':List β}(p:Paired F l m)(q:Paired F l' m'):Paired F (l++l') (m++m'):=by
 induction p with
 |nil=>exact q
 |cons x r ih=>exact .cons x ih
theorem A7{α β γ:Type}{F:α->γ->Prop}{f:β->γ}:∀{l:List α}{m:List β},Paired (fun a b=>F a (f b)) l m->Paired F l (m.map f)
 |_,_,.nil=>.nil
 |_,_,.cons h t=>.cons h (A7 t)
theorem oF{R:List Row}{H:Hp}{ys:List V}(sh:Sh H ys R)(g:Row->Bool):(ys.filter fun y=>g (K22.cd H y)).map (fun y=>V.str (K22.cd H y).1)=((R.filter g).map (·.1)).map V.str:=by
 rw[<-K82.sh_cd sh,List.filter_map,fq,fq];rfl
section
variable {G:Gam}{K:aa}{T:Tb}
theorem zw{H:Hp}{a b:Addr}{xs ys:List V}{k:Nat}{Q:VK}(ha:SqT K H a xs)(hb:SqT K H b ys)(hx:∀y∈xs,aG y=true)(hy:∀y∈ys,aG y=true)(h1:k<xs.length)(h2:k<ys.length)(q:∀H',aN H H'->Q (.bl (decide (xs.take k=ys.take k))) H'):
  pZ K (.ref a) none (some (k:Int)) H fun x H1=>pZ K (.ref b) none (some (k:Int)) H1 fun y H2=>ej K .Eq x y H2 Q:=by
 refine .inr (.inl ⟨a,xs,rfl,ha,(fun z=>by rw[HT.iq]at z;omega),fun p hp=>?_⟩);rw[pk];refine .inr (.inl ⟨b,ys,rfl,(aF hp).tup hb,(fun z=>by rw[HT.iq]at z;omega),fun p' hp'=>?_⟩);rw[pk];exact B2 (SqT.of (aF hp' _ _ aE)) (SqT.of aE) (fun y hy=>hx y (cE hy)) (fun z hz=>hy z (cE hz)) (q _ ((aF hp).trans (aF hp')))
theorem ve{H:Hp}{a b:Addr}{xs ys:List V}{k:Nat}{Q:VK}(ha:SqT K H a xs)(hb:SqT K H b ys)(hx:∀y∈xs,aG y=true)(hy:∀y∈ys,aG y=true)(h0:0<k)(h1:k<xs.length)(h2:k<ys.length)(q:∀H',aN H H'->Q (.bl (decide (xs.drop k=ys.drop k))) H'):
  pZ K (.ref a) (some (k:Int)) none H fun x H1=>pZ K (.ref b) (some (k:Int)) none H1 fun y H2=>ej K .Eq x y H2 Q:=by
 refine .inr (.inl ⟨a,xs,rfl,ha,(fun z=>by rw[HT.iq]at z;omega),fun p hp=>?_⟩);rw[jT _ _ (by omega)];refine .inr (.inl ⟨b,ys,rfl,(aF hp).tup hb,(fun z=>by rw[HT.iq]at z;omega),fun p' hp'=>?_⟩);rw[jT _ _ (by omega)];exact B2 (SqT.of (aF hp' _ _ aE)) (SqT.of aE) (fun y hy=>hx y (dI hy)) (fun z hz=>hy z (dI hz)) (q _ ((aF hp).trans (aF hp')))
theorem wp_mx_3{E:XS}{D:Ends}{H3 H5:Hp}{lf lb la:Addr}{zs0:List V}{ps0:List Tri}{p:Nat}{bs up:List Str}{u0 u1 u2 u3 u8:Option V}(nf:H3 lf=none)(nb:lb≠lf)(na:la≠lf)(s5:aN H3 H5)(ef:H5 lf=some (.lst zs0))(k0:_root_.Q.bu H5 zs0 ps0)(hb:H5 lb=some (.lst (bs.map V.str)))(ha:H5 la=some (.lst (up.map V.str)))
  (hbl:bs.length<=22)(hul:up.length<=22)(hps:ps0.length<=4000)(hD:∀H' zs u,aN H3 H'->H' lf=some (.lst zs)->_root_.Q.bu H' zs (ps0++bs.flatMap (mM p up))->D.nx [u0,u1,u2,u3,some (.ref lf),some (.int p),some (.ref lb),some (.ref la),u] H'):
  wpB G K E jW D [u0,u1,u2,u3,some (.ref lf),some (.int p),some (.ref lb),some (.ref la),u8] H5:=by
 unfold jW;walk_at "wp";refine jd (cf rfl (SqL.of hb) ?_);refine gR (cW (xs:=bs.map V.str)) (fun j σ H'=>aN H3 H'/\H' lb=some (.lst (bs.map V.str))/\H' la=some (.lst (up.map V.str))/\(∃zs,H' lf=some (.lst zs)/\_root_.Q.bu H' zs (ps0++(bs.take j).flatMap (mM p up)))/\∃u,σ=[u0,u1,u2,u3,some (.ref lf),some (.int p),some (.ref lb),some (.ref la),u])
  ⟨s5,hb,ha,⟨zs0,ef,by rw[fc,List.flatMap_nil,cM];exact k0⟩,u8,rfl⟩ (fun _ _ _ _ h=>SqL.of h.2.1) ?_ ?_
 ·rintro j x σ H6 H7 D2 hj ⟨s6,hb6,ha6,⟨zs,ez,kz⟩,u,rfl⟩ hx s7 hD2 _
  rw[aC]at hj;rw[bq,ae hj]at hx;cases hx;have kz:=dY kz s7;have ez:=s7 _ _ ez;have ha7:=s7 _ _ ha6;have hb7:=s7 _ _ hb6;have s37:=s6.trans s7;walk_at "wp";refine⟨.inl ⟨rfl,_,SqL.of ez⟩,d5 (cf rfl (SqL.of ha7) ?_)⟩;refine Cc (xs:=up.map V.str) cW (short (by rw[aC];omega)) (fun H8 s8=>SqL.of (s8 _ _ ha7)) (fun v=>match v with |.str u=>decide (u≠bs[j]) |_=>false) (fun v x H=>∃b u,v=.ref b/\x=.str u/\H b=some (.tup [.int p,.str bs[j],.str u])) (fun x v H H' s ⟨b,u,e1,e2,h⟩=>⟨b,u,e1,e2,s _ _ h⟩)
   (fun τ=>∃w,τ=[w,some (.int p),some (.str bs[j])]) ⟨none,rfl⟩ ?_ ?_
  ·rintro x τ H8 Rt Rf hx ⟨w,rfl⟩ s8 kt kf
   obtain⟨o,ho,rfl⟩:=a8.mp hx;walk_at "wp";by_cases c:o=bs[j]
   ·rw[decide_eq_true c]
    rw[if_neg (by simp)];exact kf _ _ ⟨_,rfl⟩ (aN.refl _) (decide_eq_false (by simpa using c))
   ·rw[decide_eq_false c]
    rw[if_pos (by simp)];refine⟨short (by simp),fun b hb=>kt _ _ _ ⟨_,rfl⟩ (aF hb) (decide_eq_true c) ⟨b,o,rfl,rfl,aE⟩⟩
  ·intro vs H8 l8 s8 hl8 pr
   have s9:=aF (o:=.lst vs) hl8;have e9:upd H8 l8 (.lst vs) l8=some (.lst vs):=aE;generalize upd H8 l8 (.lst vs)=H9 at s9 e9⊢;have s79:=s8.trans s9;have kv:_root_.Q.bu H9 vs (mM p up bs[j]):=by
    unfold mM;refine A7 ?_;have e:(up.map V.str).filter (fun v=>match v with |.str u=>decide (u≠bs[j]) |_=>false)=(up.filter fun u=>decide (u≠bs[j])).map V.str:=by
     rw[List.filter_map];rfl
    rw[e]at pr;have un:∀{l:List V}{m:List Str},Paired (fun v x=>∃b u,v=V.ref b/\x=V.str u/\H8 b=some (.tup [.int p,.str bs[j],.str u])) l (m.map V.str)->Paired (fun v (u:Str)=>∃a,v=V.ref a/\H9 a=some (.tup [.int p,.str bs[j],.str u])) l m:=by
     intro l m
     induction m generalizing l with
     |nil=>intro h;cases h;exact .nil
     |cons u m ih=>
      intro h;cases h with
      |cons h t=>
       obtain⟨b,u',e1,e2,h⟩:=h;cases e2;exact .cons ⟨b,e1,s9 _ _ h⟩ (ih t)
    exact un pr
   have zl:zs.length=ps0.length+((bs.take j).flatMap (mM p up)).length:=by rw[<-_root_.Q.gk kz,ai]
   have o3:∀o,(mM p up o).length<=22:=fun o=>by
    unfold mM;rw[aC];exact aI (bz _ _) hul
   have fl:((bs.take j).flatMap (mM p up)).length<=22*22:=aI (gu fun o _=>o3 o) (gx (by rw[aA];omega) (aq _));have vl:vs.length<=22:=by rw[<-_root_.Q.gk kv];exact o3 _
   refine⟨lf,l8,zs,vs,rfl,rfl,s79 _ _ ez,e9,aI (by omega:zs.length+vs.length<=9000) (by decide),?_⟩;have ez9:=s79 _ _ ez;refine hD2 _ _ ⟨t9 (s37.trans s79) nf,by rw[bo nb];exact s79 _ _ hb7,by rw[bo na];exact s79 _ _ ha7,⟨_,aE,?_⟩,_,rfl⟩;refine vU ez9 ?_;have et:bs.take (j+1)=bs.take j++[bs[j]]:=by rw[da,ae hj];rfl
   rw[et,ip,gi,<-ba];exact sf (dY kz s79) kv
 ·rintro σ H6 ⟨s6,hb6,ha6,⟨zs,ez,kz⟩,u,rfl⟩
  rw[aC,d8]at kz;exact hD _ _ _ s6 ez kz
theorem wp_mx_2{E:XS}{D:Ends}{H3 H5:Hp}{lf r tc lb:Addr}{zs0 ys own:List V}{Rw:List Row}{k:Nat}{u0 u1 u7 u8:Option V}(nf:H3 lf=none)(s5:aN H3 H5)(ef:H5 lf=some (.lst zs0))(k0:_root_.Q.bu H5 zs0 (mix Rw own k))(er:H3 r=some (.tup own))(tl:K82.Tl H3 tc ys Rw)(nb:lb≠lf)(eb:H5 lb=some (.lst ((bel Rw own (k+1)).map V.str)))
  (hRl:Rw.length<=22)(hk:k+1<own.length)(hk8:k<8)(hro:∀y∈own,aG y=true)(hR:∀l∈Rw,l.2.length=own.length)(hD:∀H' zs v6 v7 v8,aN H3 H'->H' lf=some (.lst zs)->_root_.Q.bu H' zs (mix Rw own (k+1))->D.nx [u0,u1,some (.ref r),some (.ref tc),some (.ref lf),some (.int ((k+1:Nat):Int)),v6,v7,v8] H'):
  wpB G K E iz D [u0,u1,some (.ref r),some (.ref tc),some (.ref lf),some (.int ((k+1:Nat):Int)),some (.ref lb),u7,u8] H5:=by
 have hyl:ys.length<=22:=by rw[jF tl.sh];exact hRl
 have et5:=s5 _ _ tl.et;unfold iz;walk_at "wp";refine d5 (cf rfl (SqL.of et5) ?_);refine iY (xs:=ys) cW (short (by omega)) (fun H6 s6=>SqL.of (s6 _ _ et5)) (fun y=>decide ((K22.cd H3 y).2.drop (k+1)=own.drop (k+1))) (fun y=>.str (K22.cd H3 y).1) (fun τ=>∃w v,τ=[w,v,some (.ref r),some (.int ((k+1:Nat):Int))]) ⟨none,none,rfl⟩ ?_ ?_
 ·rintro y τ H6 Rt Rf hy ⟨w,v,rfl⟩ s6 kt kf
  obtain⟨i,hi⟩:=dJ hy;obtain⟨l,el,b,r',rfl,hb,hr',hrd⟩:=iL tl.sh hi;have hl:=hR l (aD el);rw[K22.iF hb hr']at kt kf;have s36:=s5.trans s6;refine⟨b,_,rfl,SqT.of (s36 _ _ hb),rfl,_,_,rfl,_,_,rfl,rfl,?_⟩;walk_at "wp";refine ve (SqT.of (s36 _ _ hr')) (SqT.of (s36 _ _ er)) hrd hro (by omega) (by omega) hk fun H7 s7=>⟨_,rfl,?_⟩;by_cases c:l.2.drop (k+1)=own.drop (k+1)
  ·rw[if_pos (decide_eq_true c)]
   exact kt _ _ ⟨_,_,rfl⟩ s7 (decide_eq_true c)
  ·rw[if_neg (by simpa using c)]
   exact kf _ _ ⟨_,_,rfl⟩ s7 (decide_eq_false c)
 ·intro H6 la s6 hla
  rw[oF tl.sh fun l=>decide (l.2.drop (k+1)=own.drop (k+1))];have s7:=s6.trans (aF (o:=.lst ((abv Rw own (k+1)).map V.str)) hla);refine wp_mx_3 (bs:=bel Rw own (k+1)) (up:=abv Rw own (k+1)) (ps0:=mix Rw own k) nf nb (fun z=>by rw[z,s6 _ _ ef]at hla;cases hla) (s5.trans s7) (s7 _ _ ef) (dY k0 s7) (s7 _ _ eb) aE (lL hRl _) (lL hRl _) (x9 hRl (by omega)) fun H' zs u s' e' kz=>?_;refine hD H' zs _ _ _ s' e' ?_;have em:mix Rw own (k+1)=mix Rw own k++(bel Rw own (k+1)).flatMap (mM (k+1) (abv Rw own (k+1))):=by
   unfold mix;rw[rC,ip,gi];rfl
  rw[em];exact kz
theorem wp_mx_1{E:XS}{D:Ends}{H3 H5:Hp}{lf r tc:Addr}{zs0 ys own:List V}{Rw:List Row}{k:Nat}{u0 u1 u6 u7 u8:Option V}(nf:H3 lf=none)(s5:aN H3 H5)(ef:H5 lf=some (.lst zs0))(k0:_root_.Q.bu H5 zs0 (mix Rw own k))(er:H3 r=some (.tup own))(tl:K82.Tl H3 tc ys Rw)
  (hRl:Rw.length<=22)(hk:k+1<own.length)(hk8:k<8)(hro:∀y∈own,aG y=true)(hR:∀l∈Rw,l.2.length=own.length)(hD:∀H' zs v6 v7 v8,aN H3 H'->H' lf=some (.lst zs)->_root_.Q.bu H' zs (mix Rw own (k+1))->D.nx [u0,u1,some (.ref r),some (.ref tc),some (.ref lf),some (.int ((k+1:Nat):Int)),v6,v7,v8] H'):
  R.wpS G K E (.asgc 6 (.comp ["one","readings"] [2,5] (.tup (.cons (.name 0) (.cons (.name 1) .nil))) (.seq (.var 3)) (.yes (.cmp .Eq (.cut (.var 1) .no (.yes (.var 3))) (.cut (.var 2) .no (.yes (.var 3))))) (.var 0))) {nx:=wpB G K E iz D,rt:=D.rt,bk:=D.bk,ct:=D.ct} [u0,u1,some (.ref r),some (.ref tc),some (.ref lf),some (.int ((k+1:Nat):Int)),u6,u7,u8] H5:=by
 have hyl:ys.length<=22:=by rw[jF tl.sh];exact hRl
 have et5:=s5 _ _ tl.et;walk_at "wp";refine d5 (cf rfl (SqL.of et5) ?_);refine iY (xs:=ys) cW (short (by omega)) (fun H6 s6=>SqL.of (s6 _ _ et5)) (fun y=>decide ((K22.cd H3 y).2.take (k+1)=own.take (k+1))) (fun y=>.str (K22.cd H3 y).1) (fun τ=>∃w v,τ=[w,v,some (.ref r),some (.int ((k+1:Nat):Int))]) ⟨none,none,rfl⟩ ?_ ?_
 ·rintro y τ H6 Rt Rf hy ⟨w,v,rfl⟩ s6 kt kf
  obtain⟨i,hi⟩:=dJ hy;obtain⟨l,el,b,r',rfl,hb,hr',hrd⟩:=iL tl.sh hi;have hl:=hR l (aD el);rw[K22.iF hb hr']at kt kf;have s36:=s5.trans s6;refine⟨b,_,rfl,SqT.of (s36 _ _ hb),rfl,_,_,rfl,_,_,rfl,rfl,?_⟩;walk_at "wp";refine zw (SqT.of (s36 _ _ hr')) (SqT.of (s36 _ _ er)) hrd hro (by omega) hk fun H7 s7=>⟨_,rfl,?_⟩;by_cases c:l.2.take (k+1)=own.take (k+1)
  ·rw[if_pos (decide_eq_true c)]
   exact kt _ _ ⟨_,_,rfl⟩ s7 (decide_eq_true c)
  ·rw[if_neg (by simpa using c)]
   exact kf _ _ ⟨_,_,rfl⟩ s7 (decide_eq_false c)
 ·intro H6 lb s6 hlb
  rw[oF tl.sh fun l=>decide (l.2.take (k+1)=own.take (k+1))];have s7:=s6.trans (aF (o:=.lst ((bel Rw own (k+1)).map V.str)) hlb);exact wp_mx_2 nf (s5.trans s7) (s7 _ _ ef) (dY k0 s7) er tl (fun z=>by rw[z,s6 _ _ ef]at hlb;cases hlb) aE hRl hk hk8 hro hR hD
noncomputable def Ay(CN:Addr)(T:Tb):Sp:=fun vs H Q E=>∃t ys L x,vs=[.ref t,x]/\K82.Tl H t ys L/\L.length<=22/\(∀l∈L,l.2.length<=9)/\Known H x/\(∀z,x=.str z->z.length<=20000)/\Tab T H/\
 ((∀z,x=.str z->z∉L.map (·.1))->∀H',aN H H'->E (.ref CN) none H')/\
 ∀l∈L,x=.str l.1->∀H' p zs,Gr T H H'->H p=none->H' p=some (.lst zs)->_root_.Q.bu H' zs (mix ((K82.sL L).filter fun r=>decide (r.1≠l.1)) l.2 (l.2.length-1))->Q (.ref p) H'
theorem row_one{L:List Row}(nd:(L.map (·.1)).Nodup){a b:Row}(ha:a∈L)(hb:b∈L)(e:a.1=b.1):a=b:=by
 obtain⟨i,hi,rfl⟩:=CT ha;obtain⟨j,hj,rfl⟩:=CT hb;have h:(L.map (·.1))[i]'(by simpa using hi)=(L.map (·.1))[j]'(by simpa using hj):=by rw[dt,dt];exact e
 have :=(du nd).mp h
 subst this;rfl
theorem Aj{H H':Hp}{t:Addr}{ys:List V}{L:List Row}(h:K82.Tl H t ys L)(g:Gr T H H')(tb:Tab T H):K82.Tl H' t ys L:=⟨g.lst tb h.et,h.sh.gr g tb,h.gd⟩
theorem z6{C CN:Addr}(g1:G.fn "node_of" 2=some (K32.wb C CN T,[]))(g2:G.fn "table_list" 1=some (rR C T,[]))(g3:G.fn "without_copy" 2=some (K82.spWo C CN,[])):
  Sat G K (Ay CN T) yp xZ:=by
 rintro vs H Q E ⟨t,ys,L,x,rfl,tl,hL,h9,hk,hx,tb,q1,q2⟩;unfold yp;change wpB G K _ _ _ [some (.ref t),some x,none,none,none,none,none,none,none] H;walk_at "wp";obtain⟨k1,k2,_⟩:=oJ tl.et tl.sh tl.gd;refine⟨_,_,g1,.ref t,x,rfl,k1,hk,hx,tb,(fun e=>by rw[k2]at e;cases e),fun _=>⟨fun hn=>q1 fun z e hz=>?_,fun hn a ys' c H1 r ea ey hc ec gr er=>?_⟩⟩
 ·subst e
  exact hn ((K82.fY tl).mpr hz)
 ·injection ea with ea
  subst ea;rw[tl.et]at ey;cases ey;obtain⟨i,hi⟩:=dJ hc;obtain⟨l,el,b,r',rfl,hb,hr',hrd⟩:=iL tl.sh hi;have hlm:=aD el;have ecd:=K22.iF hb hr';have en:aB H (.ref b)=l.1:=congrArg tH ecd;have eo:lh H (.ref b)=l.2:=congrArg Prod.snd ecd;rw[en]at ec;rw[eo]at er;subst ec;have q:=q2 l hlm rfl;have tl1:=Aj tl gr tb;have tb1:=gr.tab tb;obtain⟨k1,k2,_⟩:=oJ tl1.et tl1.sh tl1.gd;unfold qZ;walk_at "wp";refine⟨_,_,g3,_,_,g2,.ref t,rfl,k1,tb1,fun _ H2 l2 zs2 gr2 hl2 el2 cp=>?_,fun e=>by rw[k2]at e;cases e⟩;obtain⟨_,t2,_,rw4⟩:=K22.xj k2 el2 cp;rw[K82.rows_sL tl1.et tl1.sh tl1.gd]at rw4;have sh:=K82.Am el2 t2;rw[rw4]at sh;have tl2:K82.Tl H2 l2 zs2 (K82.sL L):=⟨el2,sh,K82.zr (K82.j4 tl.gd.nd) tl.gd⟩;refine⟨l2,zs2,K82.sL L,.str l.1,rfl,tl2,o4,hx,fun h=>absurd (((K82.j4 tl.gd.nd).map _).mem_iff.mpr (a8.mpr ⟨l,hlm,rfl⟩)) (h _ rfl),fun z ez hz H3 tc yc s3 tl3=>?_⟩;injection ez with ez
  subst ez;have er3:=s3 _ _ (gr2.tR tb1 er);have gr3:Gr T H H3:=gr.trans (gr2.trans (Gr.of s3));have hR:∀a∈(K82.sL L).filter fun r=>decide (r.1≠l.1),a.2.length=l.2.length:=fun a ha=>by
   obtain⟨n,_,hc⟩:=tl.gd.ct;rw[hc a ((K82.j4 tl.gd.nd).mem_iff.mp (bM.mp ha).1),hc l hlm]
  have hRl:((K82.sL L).filter fun r=>decide (r.1≠l.1)).length<=22:=aI (bz _ _) (by rw[(K82.j4 tl.gd.nd).length_eq];exact hL);generalize(K82.sL L).filter (fun r=>decide (r.1≠l.1))=Rw at q tl3 hR hRl;have h9:=h9 l hlm;unfold qY;walk_at "wp";refine⟨short (by simp),fun lf hlf=>?_⟩;have s4:=aF (o:=.lst []) hlf;have e4:upd H3 lf (.lst []) lf=some (.lst []):=aE;generalize upd H3 lf (.lst [])=H4 at s4 e4⊢;unfold qX;walk_at "wp";refine jd ?_;walk_at "wp";refine .inl ⟨r,_,rfl,.inr (SqT.of (s4 _ _ er3)),1,_,rfl,⟨by decide,by decide,by omega,by omega⟩,?_⟩;have en:((l.2.length:Int)-1).toNat=l.2.length-1:=by omega
  rw[en];refine gR fB (fun k σ H'=>aN H3 H'/\(∃zs,H' lf=some (.lst zs)/\_root_.Q.bu H' zs (mix Rw l.2 k))/\∃u5 u6 u7 u8,σ=[some (.ref t),some (.str l.1),some (.ref r),some (.ref tc),some (.ref lf),u5,u6,u7,u8]) ⟨s4,⟨[],e4,.nil⟩,none,none,none,none,rfl⟩ (fun _ _ _ _ _=>trivial) ?_ ?_
  ·rintro k x σ H5 H6 D2 hk ⟨s5,⟨zs,ez,kz⟩,u5,u6,u7,u8,rfl⟩ rfl s6 hD _
   have e1:(1:Int)+(k:Int)=((k+1:Nat):Int):=by omega
   rw[e1];refine wp_mx_1 (u0:=some (.ref t)) (u1:=some (.str l.1)) hlf (s5.trans s6) (s6 _ _ ez) (dY kz s6) er3 tl3 hRl (by omega) (by omega) hrd hR fun H' zs' v6 v7 v8 s' e' k'=>?_;exact hD _ _ ⟨s',⟨zs',e',k'⟩,_,_,_,_,rfl⟩
  ·rintro σ H5 ⟨s5,⟨zs,ez,kz⟩,u5,u6,u7,u8,rfl⟩
   unfold qW;walk_at "wp";exact q H5 lf zs (gr3.trans (Gr.of s5)) (gr3.free tb hlf) ez kz
end
end K85
namespace K85
open PySem R
noncomputable def uo:List Str:=["_law_script"]
noncomputable def nv:List Str:=["_law_script","_law_form","_law_places","_law_rows","_law_k","_law_number","_law_readings","_law_some","_law_one","_law_other","_law_cut","_law_row","_law_at"]
noncomputable def kL:CB:=
  (.cons (.ret (.var 3))
  .nil)
noncomputable def jj:CB:=
  (.cons (.asg (.name 3) (.bin .Add (.bin .Add (.cut (.var 3) .no (.yes (.var 12))) (.lst (.cons (.var 11) .nil))) (.cut (.var 3) (.yes (.var 12)) .no)))
  .nil)
noncomputable def gG:CB:=
  (.cons (.asg (.name 12) (.bin .Mod (.bin .FloorDiv (.var 5) (.con (.int 27000))) (.bin .Add (.bfn .len (.cons (.var 3) .nil)) (.con (.int 1)))))
  jj)
noncomputable def gH:CB:=
  (.cons (.asg (.name 11) (.tup (.cons (.bin .Add (.bin .Add (.cut (.con (.str "qq")) .no (.yes (.bin .Mod (.var 1) (.con (.int 3))))) (.idx (.con (.str "abcdefghijklmnopqrstuvwxyz")) (.var 4))) (.con (.str "z"))) (.cons (.var 6) .nil))))
  gG)
noncomputable def iA:CB:=
  (.cons (.asg (.name 6) (.bin .Add (.cut (.var 8) .no (.yes (.var 10))) (.cut (.var 9) (.yes (.var 10)) .no)))
  .nil)
noncomputable def iB:CB:=
  (.cons (.asg (.name 10) (.bin .Mod (.bin .FloorDiv (.var 5) (.con (.int 2700))) (.bin .Add (.var 2) (.con (.int 1)))))
  iA)
noncomputable def iC:CB:=
  (.cons (.asg (.name 9) (.idx (.idx (.var 3) (.bin .Mod (.bin .FloorDiv (.var 5) (.con (.int 90))) (.bfn .len (.cons (.var 3) .nil)))) (.con (.int 1))))
  iB)
noncomputable def gI:CB:=
  (.cons (.iff (.and (.cmp .Gt (.bin .Mod (.var 5) (.con (.int 3))) (.con (.int 0))) (.cmp .Gt (.bfn .len (.cons (.var 3) .nil)) (.con (.int 1))))
  (.cons (.asg (.name 8) (.idx (.idx (.var 3) (.bin .Mod (.bin .FloorDiv (.var 5) (.con (.int 3))) (.bfn .len (.cons (.var 3) .nil)))) (.con (.int 1))))
  iC)
  .nil)
  gH)
noncomputable def iD:CB:=
  (.cons (.asg (.name 6) (.bfn .tuple (.cons (.comp ["_law_j"] [7] (.name 0) (.range1 (.var 2)) .no (.bin .Mod (.bin .FloorDiv (.var 1) (.idx (.lst (.cons (.con (.int 1)) (.cons (.con (.int 2)) (.cons (.con (.int 4)) (.cons (.con (.int 8)) (.cons (.con (.int 16)) (.cons (.con (.int 32)) (.cons (.con (.int 64)) (.cons (.con (.int 128)) (.cons (.con (.int 256)) .nil)))))))))) (.var 0))) (.con (.int 2)))) .nil)))
  .nil)
noncomputable def gJ:CB:=
  (.cons (.iff (.and (.cmp .Eq (.bin .Mod (.bin .FloorDiv (.var 1) (.con (.int 64))) (.con (.int 2))) (.con (.int 1))) (.cmp .Gt (.idx (.var 0) (.var 4)) (.bin .Pow (.con (.int 10)) (.con (.int 14)))))
  (.cons (.asg (.name 7) (.divb (.var 5) (.bin .Pow (.con (.int 10)) (.con (.int 12)))))
  iD)
  .nil)
  gI)
noncomputable def jk:CB:=
  (.cons (.asg (.name 6) (.bfn .tuple (.cons (.comp ["_law_j"] [5] (.name 0) (.range1 (.var 2)) .no (.bin .Mod (.bin .FloorDiv (.var 1) (.bin .Add (.bin .FloorDiv (.var 0) (.con (.int 3))) (.con (.int 5)))) (.con (.int 2)))) .nil)))
  gJ)
noncomputable def kM:CB:=
  (.cons (.forr (.name 4) (.range2 (.con (.int 2)) (.bfn .min (.cons (.bfn .len (.cons (.var 0) .nil)) (.cons (.con (.int 24)) .nil))))
  (.cons (.asg (.name 5) (.call "_law_drawn" (.cons (.var 0) (.cons (.var 4) .nil))))
  jk))
  kL)
noncomputable def kN:CB:=
  (.cons (.asg (.name 3) (.lst .nil))
  kM)
noncomputable def kO:CB:=
  (.cons (.asg (.name 2) (.bin .Mod (.call "_law_cell_at" (.cons (.var 0) (.cons (.con (.int 1)) .nil))) (.con (.int 10))))
  kN)
noncomputable def nK:CB:=
  (.cons (.asg (.name 1) (.call "_law_cell_at" (.cons (.var 0) (.cons (.con (.int 0)) .nil))))
  kO)
end K85
namespace K85
open PySem PySem.Spec PyProof.Rows L2 R Cp Lt Lm K02 K11 K12 Kc
noncomputable def nmz(f j:Nat):Str:=vf (aV "qq") none (some (f:Int))++(⟨#[99+j]⟩:Str)++aV "z"
theorem qq_len:∀f:Fin 3,(vf (aV "qq") none (some (f.val:Int))).length<=2:=by decide+kernel
theorem nmz_ok:∀(f:Fin 3)(j:Fin 22),dZ (nmz f.val j.val)=true:=by decide+kernel
theorem nmz_inj:∀(f:Fin 3)(i j:Fin 22),nmz f.val i.val=nmz f.val j.val->i=j:=by decide+kernel
theorem let_at(k:Nat)(h:k<26):atI (aV "abcdefghijklmnopqrstuvwxyz").cps.toList (k:Int)=some (97+k):=by
 have :∀k:Fin 26,atI (aV "abcdefghijklmnopqrstuvwxyz").cps.toList ((k.val:Nat):Int)=some (97+k.val):=by decide+kernel
 exact this ⟨k,h⟩
structure Cpz(H:Hp)(f n i:Nat)(rows:List V)(L:List Row):Prop where
 sh:Sh H rows L
 len:L.length=i
 ln:∀l∈L,l.2.length=n
 nm:∀l∈L,∃j<i,l.1=nmz f j
 nd:(L.map (·.1)).Nodup
theorem Cpz.same{H H':Hp}{f n i:Nat}{rows:List V}{L:List Row}(c:Cpz H f n i rows L)(s:aN H H'):Cpz H' f n i rows L:={c with sh:=c.sh.same s}
theorem Cpz.tl{H:Hp}{f n i:Nat}{rows:List V}{L:List Row}{t:Addr}(c:Cpz H f n i rows L)(et:H t=some (.lst rows))(hf:f<3)(hi:i<=22)(hn:n<=9):K82.Tl H t rows L:=by
 refine⟨et,c.sh,by rw[c.len];omega,fun l hl=>?_,fun l hl=>?_,c.nd,n,by omega,c.ln⟩
 ·obtain⟨j,hj,e⟩:=c.nm l hl
  rw[e];exact nmz_ok ⟨f,hf⟩ ⟨j,by omega⟩
 ·obtain⟨k,hk⟩:=dJ hl
  have hkl:k<rows.length:=by rw[jF c.sh];exact(aU.mp hk).1
  obtain⟨l',el,b,r,_,_,_,h⟩:=iL c.sh (ae hkl);rw[hk]at el;cases el;exact h
theorem xS{α β:Type}{F:α->β->Prop}:∀{l:List α}{m:List β}(z:Nat),Paired F l m->Paired F (l.take z) (m.take z)
 |_,_,0,_=>by rw[fc,fc];exact .nil
 |_,_,_+1,.nil=>.nil
 |_,_,z+1,.cons h t=>.cons h (xS z t)
theorem xT{α β:Type}{F:α->β->Prop}:∀{l:List α}{m:List β}(z:Nat),Paired F l m->Paired F (l.drop z) (m.drop z)
 |_,_,0,p=>p
 |_,_,_+1,.nil=>.nil
 |_,_,z+1,.cons _ t=>xT z t
theorem Cpz.more{H:Hp}{f n i z:Nat}{rows zs:List V}{L:List Row}{b r:Addr}(c:Cpz H f n i rows L)(hf:f<3)(hi:i<22)(eb:H b=some (.tup [.str (nmz f i),.ref r]))(er:H r=some (.tup zs))(hl:zs.length=n)(hr:∀z∈zs,aG z=true):Cpz H f n (i+1) (rows.take z++[.ref b]++rows.drop z) (L.take z++[(nmz f i,zs)]++L.drop z):=by
 have hp:(L.take z++[(nmz f i,zs)]++L.drop z).Perm ((nmz f i,zs)::L):=by
  have h1:(L.take z++[(nmz f i,zs)]++L.drop z).Perm ((nmz f i,zs)::(L.take z++L.drop z)):=by
   rw[ba];exact List.perm_middle
  rw[bg]at h1;exact h1
 refine⟨sf (sf (xS z c.sh) (.cons ⟨b,r,rfl,eb,er,hr⟩ .nil)) (xT z c.sh),?_,fun l h=>?_,fun l h=>?_,?_⟩
 ·rw[hp.length_eq,a7,c.len]
 ·rcases aO.mp (hp.mem_iff.mp h)with rfl|h
  ·exact hl
  ·exact c.ln l h
 ·rcases aO.mp (hp.mem_iff.mp h)with rfl|h
  ·exact⟨i,by omega,rfl⟩
  ·obtain⟨j,hj,e⟩:=c.nm l h
   exact⟨j,by omega,e⟩
 ·refine(hp.map _).nodup_iff.mpr ?_
  rw[cT,eE];refine⟨fun hm=>?_,c.nd⟩;obtain⟨l,hl,e⟩:=a8.mp hm;obtain⟨j,hj,e'⟩:=c.nm l hl;rw[e']at e;have :=congrArg Fin.val (nmz_inj ⟨f,hf⟩ ⟨j,by omega⟩ ⟨i,by omega⟩ e);simp at this;omega
section
variable {G:Gam}{K:aa}
noncomputable def Tv(H:Hp)(a:Addr)(fm:Int)(n i:Nat)(σ:L2.St)(H':Hp):Prop:=aN H H'/\∃(lr:Addr)(rows:List V)(L:List Row),H' lr=some (.lst rows)/\H lr=none/\Cpz H' (fm%3).toNat n i rows L/\∃u4 u5 u6 u7 u8 u9 u10 u11 u12,σ=[some (.ref a),some (.int fm),some (.int n),some (.ref lr),u4,u5,u6,u7,u8,u9,u10,u11,u12]
theorem f3(fm:Int):(fm%3).toNat<3:=by
 have :=dM fm (b:=3) (by decide)
 have :=fR fm (b:=3) (by decide)
 omega
theorem qq_cut(fm:Int):∃f:Nat,f<3/\fm%3=(f:Int)/\(fm%3).toNat=f:=⟨(fm%3).toNat,f3 fm,by have :=dM fm (b:=3) (by decide);omega,rfl⟩
theorem ox{E:XS}{D2:Ends}{H H':Hp}{a lr r:Addr}{fm num:Int}{n i:Nat}{rows zs:List V}{L:List Row}{u7 u8 u9 u10 u11 u12:Option V}(hi:i<22)(s:aN H H')(er:H' lr=some (.lst rows))(c:Cpz H' (fm%3).toNat n i rows L)(e1:H' r=some (.tup zs))(e2:zs.length=n)(e3:∀z∈zs,aG z=true)(h0:0<=num)
  (hD:∀σ2 H2,Tv H a fm n (i+1) σ2 H2->D2.nx σ2 H2):
  wpB G K E gH D2 [some (.ref a),some (.int fm),some (.int n),some (.ref lr),some (.int ((i+2:Nat):Int)),some (.int num),some (.ref r),u7,u8,u9,u10,u11,u12] H':=by
 unfold Tv at hD;unfold gH;walk_at "wp";obtain⟨f,hf,ef,et⟩:=qq_cut fm;rw[et]at c hD;rw[ef];have ql:=qq_len ⟨f,hf⟩;have ql:(vf (aV "qq") none (some (f:Int))).length<=2:=ql;refine⟨by decide,by decide+kernel,_,by decide+kernel,let_at (i+2) (by omega),?_⟩;have el:(97+(i+2))=99+i:=by omega
 rw[el];refine⟨short (by show _+1<=40;omega),short ?_,short (by simp),fun b hb=>?_⟩
 ·rw[wH]
  show _+1+1<=40;omega
 change wpB G K E gG D2 [some (.ref a),some (.int fm),some (.int n),some (.ref lr),some (.int ((i+2:Nat):Int)),some (.int num),some (.ref r),u7,u8,u9,u10,some (.ref b),u12] (upd H' b (.tup [.str (nmz f i),.ref r]));generalize hX:upd H' b _=H1;obtain⟨s1,eb⟩:=jI hX hb;clear hX;have er1:=s1 _ _ er;have hl:rows.length=i:=by rw[jF c.sh];exact c.len
 unfold gG;walk_at "wp";refine⟨⟨by decide,by decide⟩,.inl ⟨lr,rows,rfl,.inl (SqL.of er1),?_⟩⟩;walk_at "wp";have i0:0<=num/27000%((rows.length:Int)+1):=dM _ (by omega);have i1:num/27000%((rows.length:Int)+1)<(rows.length:Int)+1:=fR _ (by omega);obtain⟨z,hz⟩:=fT i0;rw[hz]at i1⊢;refine⟨by omega,?_⟩;unfold jj;walk_at "wp";refine .inl ⟨lr,rows,rfl,SqL.of er1,fun p1 hp1=>?_⟩;rw[pk];generalize hX:upd H1 p1 _=H2;obtain⟨s2,ep1⟩:=jI hX hp1;clear hX;refine⟨short (by simp),fun p2 hp2=>?_⟩;generalize hX:upd H2 p2 _=H3;obtain⟨s3,ep2⟩:=jI hX hp2;clear hX;refine .inr (.inr (.inl ⟨p1,p2,_,_,rfl,rfl,s3 _ _ ep1,ep2,short (by simp;omega),fun p3 hp3=>?_⟩));generalize hX:upd H3 p3 _=H4;obtain⟨s4,ep3⟩:=jI hX hp3;clear hX;have s14:=s2.trans (s3.trans s4);refine .inl ⟨lr,rows,rfl,SqL.of (s14 _ _ er1),fun p4 hp4=>?_⟩;rw[jT _ _ (by omega)];generalize hX:upd H4 p4 _=H5;obtain⟨s5,ep4⟩:=jI hX hp4;clear hX;refine .inr (.inr (.inl ⟨p3,p4,_,_,rfl,rfl,s5 _ _ ep3,ep4,short (by simp;omega),fun p5 hp5=>?_⟩));have s6:=s14.trans (s5.trans (aF (o:=.lst (rows.take z++[.ref b]++rows.drop z)) hp5));have s7:=s1.trans s6;exact hD _ _ ⟨s.trans s7,p5,_,_,aE,(s.trans (s1.trans (s14.trans s5))).free hp5,(c.same s7).more hf hi (s6 _ _ eb) (s7 _ _ e1) e2 e3,_,_,_,_,_,_,_,_,_,rfl⟩
theorem pick{H:Hp}{lr:Addr}{f n i:Nat}{rows:List V}{L:List Row}{v:Int}{Q:VK}(er:H lr=some (.lst rows))(c:Cpz H f n i rows L)(hp:0<rows.length)(q:∀r' zs',H r'=some (.tup zs')->zs'.length=n->(∀z∈zs',aG z=true)->Q (.ref r') H):
  rBf K .len [V.ref lr] H fun y H2=>i9 K .Mod (V.int v) y H2 fun y H2=>rIx K (V.ref lr) y H2 fun x H1=>rIx K x (V.int 1) H1 Q:=by
 refine .inl ⟨lr,rows,rfl,.inl (SqL.of er),BA.mpr ⟨by omega,?_⟩⟩;have i0:0<=v%(rows.length:Int):=dM _ (by omega);have i1:v%(rows.length:Int)<(rows.length:Int):=fR _ (by omega);obtain⟨j,hj⟩:=fT i0;rw[hj]at i1⊢;have hjl:j<rows.length:=by omega
 obtain⟨l,el,b,r',e,hb,hr',hrd⟩:=iL c.sh (ae hjl);refine .inl ⟨lr,_,j,_,rfl,rfl,SqL.of er,f9 (ae hjl),?_⟩;rw[e];exact .inr (.inl ⟨b,_,1,_,rfl,rfl,SqT.of hb,rfl,q r' l.2 hr' (c.ln l (aD el)) hrd⟩)
theorem cat_cut{H:Hp}{a b:Addr}{xs ys:List V}{k n:Nat}{Q:VK}(ha:H a=some (.tup xs))(hb:H b=some (.tup ys))(hx:xs.length=n)(hy:ys.length=n)(hk:k<=n)(hn:n<=9)(q:∀H' p,aN H H'->H' p=some (.tup (xs.take k++ys.drop k))->Q (.ref p) H'):
  pZ K (.ref a) none (some (k:Int)) H fun x H1=>pZ K (.ref b) (some (k:Int)) none H1 fun y H2=>i9 K .Add x y H2 Q:=by
 have n1:HT.sIx xs.length xs.length (some (k:Int))=k:=by rw[HT.iq];omega
 have n2:HT.sIx ys.length 0 (some (k:Int))=k:=by rw[HT.iq];omega
 by_cases c1:k=n
 ·refine .inr (.inr (.inr ⟨a,xs,rfl,SqT.of ha,rfl,by rw[n1];omega,?_⟩))
  have et:xs.take k=xs:=cJ (by omega);by_cases c2:n=0
  ·refine .inr (.inr (.inr ⟨b,ys,rfl,SqT.of hb,by rw[n2];omega,rfl,?_⟩))
   have ex:xs=[]:=bO.mp (by omega);have ey:ys=[]:=bO.mp (by omega);subst ex ey;refine .inr (.inr (.inr (.inr ⟨a,b,[],rfl,rfl,SqT.of ha,SqT.of hb,q H b (aN.refl _) ?_⟩)));rw[hb,List.take_nil,List.drop_nil];rfl
  ·refine .inr (.inl ⟨b,ys,rfl,SqT.of hb,(fun z=>by rw[n2]at z;omega),fun p hp=>?_⟩)
   rw[jT _ _ (by omega),show ys.drop k=[]from yE (by omega)];refine .inr (.inr (.inr (.inl ⟨a,p,xs,[],rfl,rfl,SqT.of (aF hp _ _ ha),SqT.of aE,(fun z=>by rw[z]at hx;simp at hx;omega),short (by simp;omega),fun _=>q _ a (aF hp) ?_,fun z=>absurd rfl z⟩)));rw[et,yE (by omega),cM];exact aF hp _ _ ha
 ·refine .inr (.inl ⟨a,xs,rfl,SqT.of ha,(fun z=>by rw[n1]at z;omega),fun p hp=>?_⟩)
  rw[pk];have hb':=aF (o:=.tup (xs.take k)) hp _ _ hb;by_cases c2:k=0
  ·refine .inr (.inr (.inr ⟨b,ys,rfl,SqT.of hb',by rw[n2];omega,rfl,?_⟩))
   subst c2;rw[fc]at hb'⊢;refine .inr (.inr (.inr (.inr ⟨p,b,ys,rfl,rfl,SqT.of aE,SqT.of hb',q _ b (aF hp) ?_⟩)));rw[lH,fc,rE];exact hb'
  ·refine .inr (.inl ⟨b,ys,rfl,SqT.of hb',(fun z=>by rw[n2]at z;omega),fun p' hp'=>?_⟩)
   rw[jT _ _ (by omega)];refine .inr (.inr (.inr (.inl ⟨p,p',xs.take k,ys.drop k,rfl,rfl,SqT.of (aF hp' _ _ aE),SqT.of aE,(fun z=>by have h:=congrArg cF z;rw[aA,fL]at h;omega),short (by rw[aA,be];omega),(fun z=>by have h:=congrArg cF z;rw[be,fL]at h;omega),fun _ p3 hp3=>q _ p3 ((aF hp).trans ((aF hp').trans (aF hp3))) aE⟩)))
theorem oy{E:XS}{D2:Ends}{H H':Hp}{a lr r:Addr}{fm num:Int}{n i:Nat}{rows zs:List V}{L:List Row}{u7 u8 u9 u10 u11 u12:Option V}(hn9:n<=9)(hi:i<22)(s:aN H H')(er:H' lr=some (.lst rows))(c:Cpz H' (fm%3).toNat n i rows L)(e1:H' r=some (.tup zs))(e2:zs.length=n)(e3:∀z∈zs,aG z=true)(h0:0<=num)
  (hD:∀σ2 H2,Tv H a fm n (i+1) σ2 H2->D2.nx σ2 H2):
  wpB G K E gI D2 [some (.ref a),some (.int fm),some (.int n),some (.ref lr),some (.int ((i+2:Nat):Int)),some (.int num),some (.ref r),u7,u8,u9,u10,u11,u12] H':=by
 have hl:rows.length=i:=by rw[jF c.sh];exact c.len
 unfold gI;walk_at "wp";refine⟨by decide,?_⟩;split
 ·refine .inl ⟨lr,rows,rfl,.inl (SqL.of er),uY.mpr ⟨_,rfl,?_⟩⟩
  by_cases h2:(1:Int)<(rows.length:Int)
  ·rw[if_pos (decide_eq_true h2)]
   refine⟨⟨by decide,by decide⟩,pick er c (by omega) fun r1 z1 f1 f2 f3=>?_⟩;unfold iC;walk_at "wp";refine⟨⟨by decide,by decide⟩,pick er c (by omega) fun r2 z2 k1 k2 k3=>?_⟩;unfold iB;walk_at "wp";have i0:0<=num/2700%((n:Int)+1):=dM _ (by omega);have i1:num/2700%((n:Int)+1)<(n:Int)+1:=fR _ (by omega);obtain⟨k,hk⟩:=fT i0;rw[hk]at i1⊢;refine⟨⟨by decide,by decide⟩,by omega,?_⟩;unfold iA;walk_at "wp";refine cat_cut f1 k1 f2 k2 (by omega) hn9 fun H1 p s1 ep=>?_;refine ox hi (s.trans s1) (s1 _ _ er) (c.same s1) ep (by rw[ai,aA,be];omega) (fun z hz=>?_) h0 hD;rcases bN.mp hz with hz|hz
   ·exact f3 z (cE hz)
   ·exact k3 z (dI hz)
  ·rw[if_neg (by simpa using h2)]
   exact ox hi s er c e1 e2 e3 h0 hD
 ·rw[if_neg au]
  exact ox hi s er c e1 e2 e3 h0 hD
theorem z5{E:XS}{D2:Ends}{H H':Hp}{a lr r:Addr}{ns:List Int}{fm num:Int}{n i:Nat}{rows zs:List V}{L:List Row}{u7 u8 u9 u10 u11 u12:Option V}(ha:SqL K H' a (ns.map V.int))(hin:i+2<ns.length)(hn9:n<=9)(hi:i<22)(s:aN H H')(er:H' lr=some (.lst rows))(c:Cpz H' (fm%3).toNat n i rows L)(e1:H' r=some (.tup zs))(e2:zs.length=n)(e3:∀z∈zs,aG z=true)(h0:0<=num)
  (hD:∀σ2 H2,Tv H a fm n (i+1) σ2 H2->D2.nx σ2 H2):
  wpB G K E gJ D2 [some (.ref a),some (.int fm),some (.int n),some (.ref lr),some (.int ((i+2:Nat):Int)),some (.int num),some (.ref r),u7,u8,u9,u10,u11,u12] H':=by
 unfold gJ;walk_at "wp";refine⟨⟨by decide,by decide⟩,by decide,?_⟩;split
 ·have hc:(ns.map V.int)[i+2]? =some (.int (ns.getD (i+2) 0)):=by
   rw[bq,ae hin,ah,ae hin];rfl
  refine .inl ⟨a,_,_,_,rfl,rfl,ha,f9 hc,?_⟩;refine⟨⟨by decide,by decide,by decide⟩,uY.mpr ⟨_,rfl,?_⟩⟩;split
  ·refine⟨⟨by decide,by decide,by decide⟩,num,_,rfl,rfl,⟨by decide,by decide⟩,?_⟩
   dsimp only;have hs:0<=num/10^Int.toNat 12:=Int.ediv_nonneg h0 (by decide);generalize num/10^Int.toNat 12=sm at hs⊢;unfold iD;walk_at "wp";refine d5 ?_;walk_at "wp";refine⟨(n:Int),rfl,by omega,by omega,?_⟩;refine fJ fB (short (by omega)) (fun _ _=>trivial) (fun i v _=>aG v=true) (fun _ _ _ _ _ h=>h) (fun τ=>∃t,τ=[t,some (.int sm)]) ⟨none,rfl⟩ ?_ ?_
   ·rintro j y τ H1 R hj ⟨t,rfl⟩ s1 rfl kk
    have hj9:j<9:=by omega
    walk_at "wp"
    simp only[zR];refine⟨short (by simp),fun p hp=>?_⟩;obtain⟨dv,hdv,hdv2⟩:∃dv:Int,[V.int 1,V.int 2,V.int 4,V.int 8,V.int 16,V.int 32,V.int 64,V.int 128,V.int 256][j]? =some (.int dv)/\CDiv sm dv:=by
     match j,hj9 with
     | 0,_=>exact⟨_,rfl,by decide,by decide⟩
     | 1,_=>exact⟨_,rfl,by decide,by decide⟩
     | 2,_=>exact⟨_,rfl,by decide,by decide⟩
     | 3,_=>exact⟨_,rfl,by decide,by decide⟩
     | 4,_=>exact⟨_,rfl,by decide,by decide⟩
     | 5,_=>exact⟨_,rfl,by decide,by decide⟩
     | 6,_=>exact⟨_,rfl,by decide,by decide⟩
     | 7,_=>exact⟨_,rfl,by decide,by decide⟩
     | 8,_=>exact⟨_,rfl,by decide,by decide⟩
    refine .inl ⟨p,_,j,_,rfl,rfl,SqL.of aE,f9 hdv,?_⟩;walk_at "wp";refine⟨hdv2,by decide,kk _ _ _ ⟨_,rfl⟩ (aF hp) ?_⟩;rcases K84.Cm (sm/dv)with e|e<;>(rw[e];rfl)
   ·intro ws H1 b2 hwl hF s1 hb2
    refine⟨b2,_,rfl,.inl ⟨SqL.of aE,fun r2 hr2=>?_⟩⟩;have s2:aN H' (upd (upd H1 b2 (.lst ws)) r2 (.tup ws)):=s1.trans ((aF hb2).trans (aF hr2));exact oy hn9 hi (s.trans s2) (s2 _ _ er) (c.same s2) aE (by simpa using hwl) (fun z hz=>by obtain⟨i,hi⟩:=cO.mp hz;exact hF i z hi) h0 hD
  ·exact oy hn9 hi s er c e1 e2 e3 h0 hD
 ·rw[if_neg au]
  exact oy hn9 hi s er c e1 e2 e3 h0 hD
noncomputable def Ax(K:aa):Sp:=fun vs H Q _=>∃(a:Addr)(ns:List Int),vs=[.ref a]/\SqL K H a (ns.map V.int)/\ns.length<=63/\
 ∀(H':Hp)(t:Addr)(ys:List V)(L:List Row),aN H H'->H t=none->K82.Tl H' t ys L->L.length<=22->(∀l∈L,l.2.length<=9)->(∀l∈L,∃f j,f<3/\j<22/\l.1=nmz f j)->Q (.ref t) H'
theorem wp_tab(g0:G.fn "_law_cell_at" 2=some (wc K,[]))(g1:G.fn "_law_drawn" 2=some (K84.rS K,[])):
  Sat G K (Ax K) nK nv:=by
 rintro vs H Q E ⟨a,ns,rfl,ha,h63,q⟩;unfold nK;change wpB G K _ _ _ [some (.ref a),none,none,none,none,none,none,none,none,none,none,none,none] H;walk_at "wp";refine⟨_,_,g0,a,ns,0,rfl,ha,?_⟩;generalize ns.getD 0 0=fm;unfold kO;walk_at "wp";refine⟨_,_,g0,a,ns,1,rfl,ha,?_⟩;walk_at "wp";refine⟨by decide,?_⟩;have i0:0<=ns.getD 1 0%10:=dM _ (by decide);have i1:ns.getD 1 0%10<10:=fR _ (by decide);obtain⟨n,hn⟩:=fT i0;rw[hn]at i1⊢;have hn9:n<=9:=by omega
 unfold kN;walk_at "wp";refine⟨short (by simp),fun lr hlr=>?_⟩;generalize hX:upd H lr _=H3;obtain⟨s3,elr⟩:=jI hX hlr;clear hX;unfold kM;walk_at "wp";refine jd ?_;walk_at "wp";refine .inl ⟨a,_,rfl,.inl (s3.seq ha),_,_,rfl,2,_,rfl,?_⟩;obtain⟨m,hm,hm1,hm2⟩:∃m:Nat,(if(24:Int)<((ns.map V.int).length:Int)then(24:Int)else((ns.map V.int).length:Int))=(m:Int)/\m<=24/\m<=ns.length:=by
  rw[aC];by_cases h:(24:Int)<(ns.length:Int)
  ·exact⟨24,by rw[if_pos h];rfl,by omega,by omega⟩
  ·exact⟨ns.length,by rw[if_neg h],by omega,by omega⟩
 rw[hm];refine⟨⟨by decide,by decide,by omega,by omega⟩,?_⟩;refine gR fB (Tv H a fm n) ⟨s3,lr,[],[],elr,hlr,⟨.nil,rfl,(fun l h=>nomatch h),(fun l h=>nomatch h),.nil⟩,none,none,none,none,none,none,none,none,none,rfl⟩ (fun _ _ _ _ _=>trivial) ?_ ?_
 ·rintro k x σ H4 H5 D2 hk ⟨s4,lr,rows,L,e1,e2,c,u4,u5,u6,u7,u8,u9,u10,u11,u12,rfl⟩ rfl s5 hD _
  have e1:=s5 _ _ e1;have c:=c.same s5;have s6:=s4.trans s5;have ek:(2:Int)+(k:Int)=((k+2:Nat):Int):=by omega
  rw[ek];walk_at "wp";refine⟨_,_,g1,a,ns,k+2,rfl,s6.seq ha,by omega,by omega,fun num h0=>?_⟩;unfold jk;walk_at "wp";refine d5 ?_;walk_at "wp";refine⟨(n:Int),rfl,by omega,by omega,?_⟩;refine fJ fB (short (by omega)) (fun _ _=>trivial) (fun i v _=>aG v=true) (fun _ _ _ _ _ h=>h) (fun τ=>∃t,τ=[t,some (.int num)]) ⟨none,rfl⟩ ?_ ?_
  ·rintro j y τ H6 R hj ⟨t,rfl⟩ s7 rfl kk
   walk_at "wp"
   simp only[zR];have d0:0<=(j:Int)/3:=Int.ediv_nonneg (by omega) (by decide);have d1:(j:Int)/3<=(j:Int):=Int.ediv_le_self _ (by omega);refine⟨⟨by decide,by decide⟩,⟨by omega,by omega⟩,by decide,kk _ _ _ ⟨_,rfl⟩ (aN.refl _) ?_⟩;rcases K84.Cm (num/((j:Int)/3+5))with e|e<;>(rw[e];rfl)
  ·intro ws H6 b2 hwl hF s7 hb2
   refine⟨b2,_,rfl,.inl ⟨SqL.of aE,fun r8 hr8=>?_⟩⟩;have s8:aN H5 (upd (upd H6 b2 (.lst ws)) r8 (.tup ws)):=s7.trans ((aF hb2).trans (aF hr8));exact z5 ((s6.trans s8).seq ha) (by omega) hn9 (by omega) (s6.trans s8) (s8 _ _ e1) (c.same s8) aE (by simpa using hwl) (fun z hz=>by obtain⟨i,hi⟩:=cO.mp hz;exact hF i z hi) h0 hD
 ·rintro σ H4 ⟨s4,lr,rows,L,e1,e2,c,u4,u5,u6,u7,u8,u9,u10,u11,u12,rfl⟩
  unfold kL;walk_at "wp";refine q H4 lr rows L s4 e2 (c.tl e1 (f3 fm) (by omega) hn9) (by rw[c.len];omega) (fun l hl=>by rw[c.ln l hl];exact hn9) fun l hl=>?_;obtain⟨j,hj,e⟩:=c.nm l hl;exact⟨_,j,f3 fm,by omega,e⟩
end
end K85
namespace K85
open PySem R
noncomputable def yZ:List Str:=["_law_rows","_law_name","_law_own"]
noncomputable def qJ:List Str:=["_law_rows","_law_name","_law_own","_law_found","_law_one","_law_first","_law_other","_law_second","_law_place","_law_alike"]
noncomputable def nM:CB:=
  (.cons (.ret (.bfn .sort3 (.cons (.var 3) .nil)))
  .nil)
noncomputable def eY:CB:=
  (.cons (.iff (.cmp .Eq (.bfn .len (.cons (.var 9) .nil)) (.bfn .len (.cons (.var 2) .nil)))
  (.cons (.expr (.meth1 .append (.var 3) (.tup (.cons (.var 8) (.cons (.var 4) (.cons (.var 6) .nil))))))
  .nil)
  .nil)
  .nil)
noncomputable def nN:CB:=
  (.cons (.forr (.tup (.cons (.name 4) (.cons (.name 5) .nil))) (.seq (.var 0))
  (.cons (.forr (.tup (.cons (.name 6) (.cons (.name 7) .nil))) (.seq (.var 0))
  (.cons (.iff (.and (.cmp .NotEq (.var 4) (.var 6)) (.and (.cmp .NotEq (.var 4) (.var 1)) (.cmp .NotEq (.var 6) (.var 1))))
  (.cons (.forr (.name 8) (.range2 (.con (.int 1)) (.bfn .len (.cons (.var 2) .nil)))
  (.cons (.asgc 9 (.comp ["_law_j"] [2,5,7,8] (.name 0) (.range1 (.bfn .len (.cons (.var 2) .nil))) (.yes (.cmp .Eq (.idx (.var 1) (.var 0)) (.idx (.idx (.lst (.cons (.var 2) (.cons (.var 3) .nil))) (.bfn .int (.cons (.cmp .GtE (.var 0) (.var 4)) .nil))) (.var 0)))) (.var 0)))
  eY))
  .nil)
  .nil)
  .nil))
  .nil))
  nM)
noncomputable def ra:CB:=
  (.cons (.asg (.name 3) (.lst .nil))
  nN)
noncomputable def ur:List Str:=["_law_found"]
noncomputable def nz:List Str:=["_law_found","_law_row"]
noncomputable def kQ:CB:=
  (.cons (.ret (.con (.bool true)))
  .nil)
noncomputable def kR:CB:=
  (.cons (.forr (.name 1) (.seq (.var 0))
  (.cons (.iff (.or (.not (.bfn .isinstance (.cons (.var 1) (.cons (.ty .tuple) .nil)))) (.or (.cmp .NotEq (.bfn .len (.cons (.var 1) .nil)) (.con (.int 3))) (.or (.not (.bfn .isinstance (.cons (.idx (.var 1) (.con (.int 0))) (.cons (.ty .int) .nil)))) (.bfn .isinstance (.cons (.idx (.var 1) (.con (.int 0))) (.cons (.ty .bool) .nil))))))
  (.cons (.ret (.con (.bool false)))
  .nil)
  .nil)
  .nil))
  kQ)
noncomputable def nL:CB:=
  (.cons (.iff (.not (.bfn .isinstance (.cons (.var 0) (.cons (.ty .list) .nil))))
  (.cons (.ret (.con (.bool false)))
  .nil)
  .nil)
  kR)
noncomputable def p0:List Str:=["_law_rows","_law_name"]
noncomputable def kH:List Str:=["_law_rows","_law_name","_law_caught","e"]
noncomputable def fj:CB:=
  (.cons (.ret (.and (.bfn .isinstance (.cons (.var 2) (.cons (.glo "NoName") .nil))) (.and (.bfn .isinstance (.cons (.var 2) (.cons (.ty .valueError) .nil))) (.not (.bfn .isinstance (.cons (.var 2) (.cons (.glo "NoTable") .nil)))))))
  .nil)
noncomputable def jl:CB:=
  (.cons (.tryc "KinError" 3
  (.cons (.expr (.call "mixed" (.cons (.var 0) (.cons (.var 1) .nil))))
  .nil)
  (.cons (.asg (.name 2) (.var 3))
  .nil))
  fj)
noncomputable def kP:CB:=
  (.cons (.asg (.name 2) (.con .none))
  jl)
end K85
namespace K85
open PySem PySem.Spec PyProof.Rows L2 R Cp Lt Lm K02 K11 K12 Kc
theorem eq_rd{K:aa}{H:Hp}{x y:V}{Q:VK}(hx:aG x=true)(hy:aG y=true)(q:Q (.bl (decide (x=y))) H):ej K .Eq x y H Q:=by
 have e:eqD (rdD x) (rdD y)=decide (x=y):=by
  rcases cq hx with rfl|rfl<;>rcases cq hy with rfl|rfl<;>rfl
 refine⟨rdD x,rdD y,?_,?_,?_,by rw[e];exact q⟩
 ·rcases cq hx with rfl|rfl<;>rfl
 ·rcases cq hy with rfl|rfl<;>rfl
 ·rcases cq hx with rfl|rfl<;>exact aW _
theorem iy{xs:List V}{j:Nat}(h:j<xs.length):xs[j]? =some (xs.getD j .non):=by
 rw[ah,ae h];rfl
noncomputable def side(a b:List V)(p j:Nat):List V:=if p<=j then b else a
theorem BX{own a b:List V}{p:Nat}(ha:a.length=own.length)(hb:b.length=own.length)(hp:p<=own.length):fits own a b p=true↔∀j<own.length,own.getD j .non=(side a b p j).getD j .non:=by
 unfold fits side;rw[decide_eq_true_eq];constructor
 ·rintro⟨h1,h2⟩ j hj
  by_cases c:p<=j
  ·rw[if_pos c]
   have :=congrArg (fun l=>l[j-p]?) h2
   simp only[dy]at this;rw[show p+(j-p)=j by omega]at this;rw[ah,ah,this]
  ·rw[if_neg c]
   have :=congrArg (fun l=>l[j]?) h1
   simp only[nS,if_pos (show j<p by omega)]at this;rw[ah,ah,this]
 ·intro h
  constructor
  ·apply ji
   intro j;rw[nS,nS];by_cases c:j<p
   ·rw[if_pos c,if_pos c,iy (by omega),iy (by omega),h j (by omega),if_neg (by omega)]
   ·rw[if_neg c,if_neg c]
  ·apply ji
   intro j;rw[dy,dy];by_cases c:p+j<own.length
   ·rw[iy (by omega),iy c,h (p+j) c,if_pos (by omega)]
   ·rw[dA (by omega),dA (by omega)]
section
variable {G:Gam}{K:aa}{T:Tb}
theorem z9{E:XS}{D:Ends}{H0 H1:Hp}{t r lf r1 r2:Addr}{z:Str}{own:List V}{a b:Row}{zs0:List V}{ps0:List Tri}{u8 u9:Option V}(nf:H0 lf=none)(s1:aN H0 H1)(ef:H1 lf=some (.lst zs0))(k0:_root_.Q.bu H1 zs0 ps0)(hps:ps0.length<=4000)(er:H0 r=some (.tup own))(hro:∀y∈own,aG y=true)(ho:own.length<=9)
  (ea:H0 r1=some (.tup a.2))(hra:∀y∈a.2,aG y=true)(hal:a.2.length=own.length)(eb:H0 r2=some (.tup b.2))(hrb:∀y∈b.2,aG y=true)(hbl:b.2.length=own.length)
  (hD:∀H' zs v8 v9,aN H0 H'->H' lf=some (.lst zs)->_root_.Q.bu H' zs (ps0++l9 own a b (own.length-1))->D.nx [some (.ref t),some (.str z),some (.ref r),some (.ref lf),some (.str a.1),some (.ref r1),some (.str b.1),some (.ref r2),v8,v9] H'):
  R.wpS G K E (.forr (.name 8) (.range2 (.con (.int 1)) (.bfn .len (.cons (.var 2) .nil)))
  (.cons (.asgc 9 (.comp ["_law_j"] [2,5,7,8] (.name 0) (.range1 (.bfn .len (.cons (.var 2) .nil))) (.yes (.cmp .Eq (.idx (.var 1) (.var 0)) (.idx (.idx (.lst (.cons (.var 2) (.cons (.var 3) .nil))) (.bfn .int (.cons (.cmp .GtE (.var 0) (.var 4)) .nil))) (.var 0)))) (.var 0)))
  eY)) D [some (.ref t),some (.str z),some (.ref r),some (.ref lf),some (.str a.1),some (.ref r1),some (.str b.1),some (.ref r2),u8,u9] H1:=by
 walk_at "wp"
 refine jd ?_;walk_at "wp";refine .inl ⟨r,_,rfl,.inr (SqT.of (s1 _ _ er)),1,_,rfl,⟨by decide,by decide,by omega,by omega⟩,?_⟩;have en:((own.length:Int)-1).toNat=own.length-1:=by omega
 rw[en];refine gR fB (fun k σ H'=>aN H0 H'/\(∃zs,H' lf=some (.lst zs)/\_root_.Q.bu H' zs (ps0++l9 own a b k))/\∃v8 v9,σ=[some (.ref t),some (.str z),some (.ref r),some (.ref lf),some (.str a.1),some (.ref r1),some (.str b.1),some (.ref r2),v8,v9]) ⟨s1,⟨zs0,ef,by unfold l9;rw[List.range_zero,rF,yC,cM];exact k0⟩,u8,u9,rfl⟩ (fun _ _ _ _ _=>trivial) ?_ ?_
 ·rintro k x σ H5 H6 D2 hk ⟨s5,⟨zs,ez,kz⟩,v8,v9,rfl⟩ rfl s6 hD2 _
  have e1:(1:Int)+(k:Int)=((k+1:Nat):Int):=by omega
  rw[e1];have s06:=s5.trans s6;have ez:=s6 _ _ ez;have kz:=dY kz s6;walk_at "wp";refine d5 ?_;walk_at "wp";refine .inl ⟨r,_,rfl,.inr (SqT.of (s06 _ _ er)),_,rfl,by omega,by omega,?_⟩;rw[gy];refine iY (xs:=nats own.length) K32.AI (short (by unfold nats;simp;omega)) (fun _ _=>trivial) (fun v=>match v with |.int j=>decide (own.getD j.toNat .non=(side a.2 b.2 (k+1) j.toNat).getD j.toNat .non) |_=>false) id (fun τ=>∃w,τ=[w,some (.ref r),some (.ref r1),some (.ref r2),some (.int ((k+1:Nat):Int))]) ⟨none,rfl⟩ ?_ ?_
  ·rintro y τ H7 Rt Rf hy ⟨w,rfl⟩ s7 kt kf
   unfold nats at hy;obtain⟨j,hj,rfl⟩:=a8.mp hy;have hj:=bX.mp hj;dsimp only at kt kf;rw[gy]at kt kf;have s07:=s06.trans s7;walk_at "wp";refine .inr (.inl ⟨r,_,j,_,rfl,rfl,SqT.of (s07 _ _ er),f9 (iy hj),?_⟩);refine⟨short (by simp),fun p hp=>.inr ⟨_,rfl,?_⟩⟩;have s8:=s07.trans (aF (o:=.lst [V.ref r1,V.ref r2]) hp);have e8:upd H7 p (.lst [V.ref r1,V.ref r2]) p=some (.lst [V.ref r1,V.ref r2]):=aE;have s78:=aF (o:=.lst [V.ref r1,V.ref r2]) hp;generalize upd H7 p (.lst [V.ref r1,V.ref r2])=H8 at s8 e8 s78⊢;obtain⟨i,rs,xs,hi,hg,hxs,hxl,hxr,hsd⟩:∃(i:Nat)(rs:Addr)(xs:List V),(if decide (((k+1:Nat):Int)<=(j:Int))=true then(1:Int)else 0)=(i:Int)/\[V.ref r1,V.ref r2][i]? =some (.ref rs)/\H8 rs=some (.tup xs)/\xs.length=own.length/\(∀y∈xs,aG y=true)/\side a.2 b.2 (k+1) j=xs:=by
    unfold side;by_cases c:((k+1:Nat):Int)<=(j:Int)
    ·exact⟨1,r2,b.2,by rw[if_pos (decide_eq_true c)];rfl,rfl,s8 _ _ eb,hbl,hrb,if_pos (by omega)⟩
    ·exact⟨0,r1,a.2,by rw[if_neg (by simpa using c)];rfl,rfl,s8 _ _ ea,hal,hra,if_neg (by omega)⟩
   rw[hsd]at kt kf;rw[hi];refine .inl ⟨p,_,i,_,rfl,rfl,SqL.of e8,f9 hg,.inr (.inl ⟨rs,_,j,_,rfl,rfl,SqT.of hxs,f9 (iy (by omega)),?_⟩)⟩;refine eq_rd (hro _ (aD (iy hj))) (hxr _ (aD (iy (by omega)))) ⟨_,rfl,?_⟩;by_cases c:own.getD j .non=xs.getD j .non
   ·rw[if_pos (decide_eq_true c)]
    exact kt _ _ ⟨_,rfl⟩ s78 (decide_eq_true c)
   ·rw[if_neg (by simpa using c)]
    exact kf _ _ ⟨_,rfl⟩ s78 (decide_eq_false c)
  ·intro H7 l7 s7 hl7
   rw[List.map_id];have hfl:((nats own.length).filter fun v=>match v with |.int j=>decide (own.getD j.toNat .non=(side a.2 b.2 (k+1) j.toNat).getD j.toNat .non) |_=>false).length=own.length↔fits own a.2 b.2 (k+1)=true:=by
    have nl:(nats own.length).length=own.length:=by unfold nats;simp
    rw[BX hal hbl (by omega)]
    conv =>lhs;rhs;rw[<-nl]
    rw[List.length_filter_eq_length_iff];unfold nats;constructor
    ·intro h j hj
     have :=h _ (a8.mpr ⟨j,bX.mpr hj,rfl⟩)
     dsimp only at this;rw[gy]at this;exact of_decide_eq_true this
    ·intro h v hv
     obtain⟨j,hj,rfl⟩:=a8.mp hv;dsimp only;rw[gy];exact decide_eq_true (h j (bX.mp hj))
   generalize(nats own.length).filter (fun v=>match v with |.int j=>decide (own.getD j.toNat .non=(side a.2 b.2 (k+1) j.toNat).getD j.toNat .non) |_=>false)=al at hfl⊢;have s8:=s7.trans (aF (o:=.lst al) hl7);have e8:upd H7 l7 (.lst al) l7=some (.lst al):=aE;generalize upd H7 l7 (.lst al)=H8 at s8 e8⊢;have s08:=s06.trans s8;have ez8:=s8 _ _ ez;have kz8:=dY kz s8;unfold eY;walk_at "wp";refine .inl ⟨l7,_,rfl,.inl (SqL.of e8),.inl ⟨r,_,rfl,.inr (SqT.of (s08 _ _ er)),B3.mpr ⟨_,rfl,?_⟩⟩⟩;have ed:l9 own a b (k+1)=l9 own a b k++if fits own a.2 b.2 (k+1)then[(((k+1:Nat):Int),a.1,b.1)]else[]:=by
    unfold l9;rw[rC,fO,kE];congr 1;by_cases c:fits own a.2 b.2 (k+1)=true
    ·rw[if_pos c,fu,if_pos c];rfl
    ·rw[if_neg c,fu,if_neg c];rfl
   rw[ed]at hD2;by_cases c:fits own a.2 b.2 (k+1)=true
   ·rw[if_pos (decide_eq_true (by rw[hfl.mpr c]))]
    rw[if_pos c]at hD2;refine⟨.inl ⟨rfl,_,SqL.of ez8⟩,short (by simp),fun p hp=>?_⟩;have zl:zs.length=ps0.length+(l9 own a b k).length:=by rw[<-_root_.Q.gk kz,ai]
    have dl:(l9 own a b k).length<=k:=by
     unfold l9;rw[aC];refine aI (bz _ _) ?_;rw[eR];exact aq _
    have s9:=aF (o:=.tup [V.int ((k+1:Nat):Int),V.str a.1,V.str b.1]) hp;have e9:upd H8 p (.tup [V.int ((k+1:Nat):Int),V.str a.1,V.str b.1]) p=some (.tup [V.int ((k+1:Nat):Int),V.str a.1,V.str b.1]):=aE;generalize upd H8 p (.tup [V.int ((k+1:Nat):Int),V.str a.1,V.str b.1])=H9 at s9 e9⊢;refine⟨lf,zs,.ref p,rfl,rfl,s9 _ _ ez8,aS (by omega:zs.length<9000) (by decide),hD2 _ _ ⟨t9 (s08.trans s9) nf,⟨_,aE,?_⟩,_,_,rfl⟩⟩;refine vU (s9 _ _ ez8) ?_;rw[<-ba];exact sf (dY kz8 s9) (.cons ⟨p,rfl,e9⟩ .nil)
   ·rw[if_neg (fun z=>c (hfl.mp (by have :=of_decide_eq_true z;omega)))]
    rw[if_neg c,cM]at hD2;exact hD2 _ _ ⟨s08,⟨zs,ez8,kz8⟩,_,_,rfl⟩
 ·rintro σ H5 ⟨s5,⟨zs,ez,kz⟩,v8,v9,rfl⟩
  exact hD _ _ _ _ s5 ez kz
noncomputable def AA:Sp:=fun vs H Q _=>∃t ys L z r own,vs=[.ref t,.str z,.ref r]/\K82.Tl H t ys L/\L.length<=22/\H r=some (.tup own)/\own.length<=9/\(∀y∈own,aG y=true)/\(∀l∈L,l.2.length=own.length)/\
 ∀H' p zs,aN H H'->H p=none->H' p=some (.lst zs)->_root_.Q.bu H' zs (mix ((K82.sL L).filter fun l=>decide (l.1≠z)) own (own.length-1))->Q (.ref p) H'
theorem Bs{L:List Row}{z:Str}{own:List V}{n i j:Nat}{a:Row}(hl:L.length<=22)(hn:n<=8)(hi:i<L.length)(e:L[i]? =some a):((L.take i).flatMap (sI L z own n)++(L.take j).flatMap (mW z own n a)).length<=4000:=by
 have h1:∀a b,(mW z own n a b).length<=8:=fun a b=>by
  unfold mW;split
  ·unfold l9
   rw[aC];refine aI (bz _ _) ?_;rw[eR];exact hn
  ·exact aW _
 have h2:∀(a:Row)(M:List Row),M.length<=22->(M.flatMap (mW z own n a)).length<=22*8:=fun a M hM=>aI (gu fun b _=>h1 a b) (gx hM (aq _));have h3:((L.take i).flatMap (sI L z own n)).length<=21*(22*8):=aI (gu fun a _=>h2 a L hl) (gx (by rw[aA];omega) (aq _));have h4:=h2 a (L.take j) (by rw[aA];omega);rw[ai];omega
theorem wp_due:Sat G K AA ra qJ:=by
 rintro vs H Q E ⟨t,ys,L,z,r,own,rfl,tl,hL,er,ho,hro,hlo,q⟩;unfold ra;change wpB G K _ _ _ [some (.ref t),some (.str z),some (.ref r),none,none,none,none,none,none,none] H;walk_at "wp";have hyl:ys.length=L.length:=jF tl.sh;refine⟨short (by simp),fun lf hlf=>?_⟩;generalize hX:upd H lf _=H3;obtain⟨s3,e3⟩:=jI hX hlf;clear hX;unfold nN;walk_at "wp";refine jd (cf rfl (SqL.of (s3 _ _ tl.et)) ?_);refine gR (cW (xs:=ys)) (fun i σ H'=>aN H H'/\(∃zs,H' lf=some (.lst zs)/\_root_.Q.bu H' zs ((L.take i).flatMap (sI L z own (own.length-1))))/\∃u4 u5 u6 u7 u8 u9,σ=[some (.ref t),some (.str z),some (.ref r),some (.ref lf),u4,u5,u6,u7,u8,u9]) ⟨s3,⟨[],e3,.nil⟩,none,none,none,none,none,none,rfl⟩ (fun _ _ _ _ h=>SqL.of (h.1 _ _ tl.et)) ?_ ?_
 ·rintro i x σ H4 H5 D2 hi ⟨s4,⟨zs,ez,kz⟩,u4,u5,u6,u7,u8,u9,rfl⟩ hx s5 hD2 _
  have s05:=s4.trans s5;obtain⟨a,ea,b1,r1,rfl,hb1,hr1,hra⟩:=iL tl.sh hx;have hal:=hlo a (aD ea);walk_at "wp";refine⟨b1,_,rfl,SqT.of (s05 _ _ hb1),rfl,_,_,rfl,_,_,rfl,rfl,?_⟩;refine jd (cf rfl (SqL.of (s05 _ _ tl.et)) ?_);refine gR (cW (xs:=ys)) (fun j σ H'=>aN H H'/\(∃zs,H' lf=some (.lst zs)/\_root_.Q.bu H' zs ((L.take i).flatMap (sI L z own (own.length-1))++(L.take j).flatMap (mW z own (own.length-1) a)))/\∃u6 u7 u8 u9,σ=[some (.ref t),some (.str z),some (.ref r),some (.ref lf),some (.str a.1),some (.ref r1),u6,u7,u8,u9])
   ⟨s05,⟨zs,s5 _ _ ez,by rw[fc,List.flatMap_nil,cM];exact dY kz s5⟩,u6,u7,u8,u9,rfl⟩ (fun _ _ _ _ h=>SqL.of (h.1 _ _ tl.et)) ?_ ?_
  ·rintro j x σ H6 H7 D3 hj ⟨s6,⟨zs',ez',kz'⟩,v6,v7,v8,v9,rfl⟩ hx' s7 hD3 _
   have s07:=s6.trans s7;have ez7:=s7 _ _ ez';have kz7:=dY kz' s7;obtain⟨b,eb,b2,r2,rfl,hb2,hr2,hrb⟩:=iL tl.sh hx';have hbl:=hlo b (aD eb);have et:L.take (j+1)=L.take j++[b]:=by rw[da,eb];rfl
   rw[et,ip,gi,<-ba]at hD3;have pl:=Bs (z:=z) (own:=own) (j:=j) hL (show own.length-1<=8 by omega) (by omega:i<L.length) ea;generalize(L.take i).flatMap (sI L z own (own.length-1))++(L.take j).flatMap (mW z own (own.length-1) a)=ps0 at kz7 hD3 pl;have no:may z a b=false->D3.nx [some (.ref t),some (.str z),some (.ref r),some (.ref lf),some (.str a.1),some (.ref r1),some (.str b.1),some (.ref r2),v8,v9] H7:=fun c=>by
    refine hD3 _ _ ⟨s07,⟨zs',ez7,?_⟩,_,_,_,_,rfl⟩;unfold mW;rw[c,if_neg au,cM];exact kz7
   walk_at "wp"
   refine⟨b2,_,rfl,SqT.of (s07 _ _ hb2),rfl,_,_,rfl,_,_,rfl,rfl,?_⟩;walk_at "wp";by_cases c1:a.1=b.1
   ·rw[decide_eq_true c1,if_neg (by decide),if_neg (by decide)]
    exact no (decide_eq_false fun h=>h.1 c1)
   ·rw[decide_eq_false c1,if_pos (by decide)]
    by_cases c2:a.1=z
    ·rw[decide_eq_true c2,if_neg (by decide),if_neg (by decide)]
     exact no (decide_eq_false fun h=>h.2.1 c2)
    ·rw[decide_eq_false c2,if_pos (by decide)]
     by_cases c3:b.1=z
     ·rw[decide_eq_true c3,if_neg (by decide)]
      exact no (decide_eq_false fun h=>h.2.2 c3)
     ·rw[decide_eq_false c3,if_pos (by decide)]
      have my:may z a b=true:=decide_eq_true ⟨c1,c2,c3⟩;refine z9 (a:=a) (b:=b) hlf s07 ez7 kz7 pl er hro ho hr1 hra hal hr2 hrb hbl fun H' zs'' w8 w9 s' e' k'=>?_;refine hD3 _ _ ⟨s',⟨zs'',e',?_⟩,_,_,_,_,rfl⟩;unfold mW;rw[my,if_pos rfl];exact k'
  ·rintro σ H6 ⟨s6,⟨zs',ez',kz'⟩,v6,v7,v8,v9,rfl⟩
   rw[hyl,d8]at kz';refine hD2 _ _ ⟨s6,⟨zs',ez',?_⟩,_,_,_,_,_,_,rfl⟩;have et:L.take (i+1)=L.take i++[a]:=by rw[da,ea];rfl
   rw[et,ip,gi];exact kz'
 ·rintro σ H4 ⟨s4,⟨zs,ez,kz⟩,u4,u5,u6,u7,u8,u9,rfl⟩
  rw[hyl,d8]at kz;unfold nM;walk_at "wp";refine⟨lf,zs,due L z own (own.length-1),rfl,SqL.of ez,aI (due_len hL (by omega)) (by decide),B5 tl.gd.nd,kz,fun l ws qs hl kq pm up=>?_⟩;refine q _ l ws (s4.trans (aF hl)) (s4.free hl) aE ?_;rw[<-due_eq tl.gd.nd pm up];exact dY kq (aF hl)
noncomputable def spKd:Sp:=fun vs H Q _=>∃p zs ps,vs=[.ref p]/\H p=some (.lst zs)/\_root_.Q.bu H zs ps/\∀H',aN H H'->Q (.bl true) H'
theorem wp_kd:Sat G K spKd nL nz:=by
 rintro vs H Q E ⟨p,zs,ps,rfl,ep,kz,q⟩;unfold nL;change wpB G K _ _ _ [some (.ref p),none] H;walk_at "wp";refine BL ep ⟨true,rfl,?_⟩;rw[if_neg (by decide)];unfold kR;walk_at "wp";refine jd (cf rfl (SqL.of ep) ?_);refine gR (cW (xs:=zs)) (fun i σ H'=>aN H H'/\∃u,σ=[some (.ref p),u]) ⟨aN.refl _,none,rfl⟩ (fun _ _ _ _ h=>SqL.of (h.1 _ _ ep)) ?_ ?_
 ·rintro i x σ H4 H5 D2 hi ⟨s4,u,rfl⟩ hx s5 hD2 _
  obtain⟨a,ea,ha⟩:=_root_.Q.xx kz hi;have ex:x=.ref a:=by
   rw[ah,hx]at ea;exact ea
  subst ex;have ha:=(s4.trans s5) _ _ ha;walk_at "wp";refine isi_tup ha ⟨true,rfl,?_⟩;rw[if_neg (by decide)];refine .inl ⟨a,_,rfl,.inr (SqT.of ha),By.mpr ⟨_,rfl,?_⟩⟩;rw[if_neg (by simp)];refine .inr (.inl ⟨a,_,0,_,rfl,rfl,SqT.of ha,rfl,isi ll .int ⟨true,rfl,?_⟩⟩);rw[if_neg (by decide)];refine .inr (.inl ⟨a,_,0,_,rfl,rfl,SqT.of ha,rfl,isi ll .bool ⟨false,rfl,?_⟩⟩);rw[if_neg (by decide)];exact hD2 _ _ ⟨s4.trans s5,_,rfl⟩
 ·rintro σ H4 ⟨s4,u,rfl⟩
  unfold kQ;walk_at "wp";exact q H4 s4
structure Xs(G:Gam)(K:aa)(CE C CN:Addr):Prop where
 v0:G.val "KinError"=some (.ref CE)
 v1:G.val "NoName"=some (.ref CN)
 v2:G.val "NoTable"=some (.ref C)
 m:PySem.W.exmOne K (.ref CN) (.ref CE)=some true
 o:jP K CN=true
 k1:bI K (.ref CN) (.ref CN)=some true
 kv:bI K (.ref CN) (.type "ValueError")=some true
 k2:bI K (.ref CN) (.ref C)=some false
noncomputable def spRf(T:Tb):Sp:=fun vs H Q _=>∃t ys L x,vs=[.ref t,x]/\K82.Tl H t ys L/\L.length<=22/\(∀l∈L,l.2.length<=9)/\Known H x/\(∀z,x=.str z->z.length<=20000)/\Tab T H/\(∀z,x=.str z->z∉L.map (·.1))/\∀H',aN H H'->Q (.bl true) H'
theorem wp_rf{CE C CN:Addr}(X:Xs G K CE C CN)(g1:G.fn "mixed" 2=some (Ay CN T,[])):
  Sat G K (spRf T) kP kH:=by
 rintro vs H Q E ⟨t,ys,L,x,rfl,tl,hL,h9,kx,hx,tb,hn,q⟩;unfold kP;change wpB G K _ _ _ [some (.ref t),some x,none,none] H;walk_at "wp";unfold jl;refine⟨CE,X.v0,?_⟩;have ct:∀{D:Ends}{E:XS}(hr:D.rt=Q){H':Hp},aN H H'->lu K CE 3 (wpB G K N0 (.cons (.asg (.name 2) (.var 3)) .nil)) {nx:=wpB G K E fj D,rt:=D.rt,bk:=D.bk,ct:=D.ct} [some (.ref t),some x,some .non,none] (.ref CN) none H':=fun{D E} hr {H'} s=>by
  refine⟨rfl,X.m,fun e he=>?_⟩;generalize hX:upd H' e _=H1;obtain⟨s0,ex⟩:=jI hX he;clear hX;walk_at "wp";change wpB G K E fj D [some (.ref t),some x,some (.ref e),none] H1;unfold fj;walk_at "wp";refine⟨_,X.v1,isiX ex X.o X.k1 ⟨true,rfl,?_⟩⟩;rw[if_pos rfl];refine isiV ex X.o X.kv ⟨true,rfl,?_⟩;rw[if_pos rfl];refine⟨_,X.v2,isiX ex X.o X.k2 ⟨false,rfl,?_⟩⟩;rw[hr];exact q _ (s.trans s0)
 walk_at "wp"
 exact⟨_,_,g1,t,ys,L,x,rfl,tl,hL,h9,kx,hx,tb,fun _ H' s=>ct rfl s,fun l hl e=>absurd (a8.mpr ⟨l,hl,rfl⟩) (hn _ e)⟩
end
end K85
namespace K84
open PySem PySem.Spec PyProof.Rows L2 R Cp Lt Kc K21 K22 Lm
section
variable {G:Gam}{K:aa}{T:Tb}
theorem gr_set{H H':Hp}{l:Addr}{xs ys:List V}(g:Gr T H H')(hl:H l=none)(el:H' l=some (.lst xs)):Gr T H (upd H' l (.lst ys)):=by
 refine⟨fun b o n e=>?_,fun t=>?_⟩
 ·rw[bo (fun z=>by rw[z,hl]at e;cases e)]
  exact g.keep b o n e
 ·have t':=g.tab t
  have hp:T.P≠l:=fun z=>by
   rcases t with t|⟨_,_,_,_,_,t,_⟩<;>(rw[z,hl]at t;cases t)
  rcases t' with t'|⟨c',oc,u,vs,tk,h1,h2,h3⟩
  ·exact .inl (by rw[bo hp];exact t')
  ·exact .inr ⟨c',oc,u,vs,tk,by rw[bo hp];exact h1,by rw[bo (fun z=>by rw[z,el]at h2;cases h2)];exact h2,h3⟩
end
end K84
namespace K85
open PySem R
noncomputable def p_law:List Str:=["_law_script"]
noncomputable def Bz:List Str:=["_law_script","_law_rows","_law_handed","_law_name","_law_own","_law_found","_law_none"]
noncomputable def yq:CB:=
  (.cons (.ret (.cmp .Eq (.var 2) (.var 1)))
  .nil)
noncomputable def sS:CB:=
  (.cons (.forr (.name 6) (.lseq (.lst (.cons (.con (.str "nobody")) (.cons (.con (.str "")) (.cons (.con (.str "Ab")) (.cons (.con .none) (.cons (.con (.int 5)) (.cons (.con (.bool true)) (.cons (.lst (.cons (.con (.str "a")) .nil)) (.cons (.tup (.cons (.con (.str "a")) .nil)) .nil))))))))))
  (.cons (.iff (.not (.call "_law_refused" (.cons (.var 2) (.cons (.var 6) .nil))))
  (.cons (.ret (.con (.bool false)))
  .nil)
  .nil)
  .nil))
  yq)
noncomputable def rb:CB:=
  (.cons (.iff (.cmp .NotEq (.call "mixed" (.cons (.var 2) (.cons (.var 3) .nil))) (.cut (.var 5) .no (.yes (.un .USub (.con (.int 1))))))
  (.cons (.ret (.con (.bool false)))
  .nil)
  .nil)
  .nil)
noncomputable def rf:CB:=
  (.cons (.expr (.meth1 .append (.var 5) (.tup (.cons (.con (.int 1)) (.cons (.con (.str "a")) (.cons (.con (.str "b")) .nil))))))
  rb)
noncomputable def rh:CB:=
  (.cons (.iff (.or (.not (.call "_law_kinds" (.cons (.var 5) .nil))) (.or (.cmp .NotEq (.var 5) (.call "_law_due" (.cons (.var 1) (.cons (.var 3) (.cons (.var 4) .nil))))) (.cmp .NotEq (.var 2) (.var 1))))
  (.cons (.ret (.con (.bool false)))
  .nil)
  .nil)
  rf)
noncomputable def sU:CB:=
  (.cons (.forr (.tup (.cons (.name 3) (.cons (.name 4) .nil))) (.seq (.cut (.var 1) .no (.yes (.con (.int 4)))))
  (.cons (.asg (.name 5) (.call "mixed" (.cons (.var 2) (.cons (.var 3) .nil))))
  rh))
  sS)
noncomputable def yr:CB:=
  (.cons (.asg (.name 2) (.bfn .list (.cons (.var 1) .nil)))
  sU)
noncomputable def Ck:CB:=
  (.cons (.asg (.name 1) (.call "_law_table" (.cons (.var 0) .nil)))
  yr)
end K85
namespace K85
open PySem PySem.Spec PyProof.Rows L2 R Cp Lt Lm K02 K11 K12 Kc
noncomputable def rJ(p:Tri):L2.D:=.tup [.int p.1,.str p.2.1,.str p.2.2]
theorem uf{K:aa}{H:Hp}{zs:List V}{ps:List Tri}(k:_root_.Q.bu H zs ps):gL K H (ps.map rJ) zs:=by
 unfold _root_.Q.bu at k
 induction k with
 |nil=>exact rfl
 |cons y t ih=>
  obtain⟨a,rfl,h⟩:=y;exact⟨_,_,rfl,⟨a,_,rfl,SqT.of h,_,_,rfl,rfl,_,_,rfl,rfl,_,_,rfl,rfl,rfl⟩,ih⟩
theorem uU:∀ps:List Tri,fV (ps.map rJ)<=1
 | []=>aW _
 |p::ps=>by
  have :=uU ps
  show max (hgt (rJ p)) (fV (ps.map rJ))<=1;have :hgt (rJ p)<=1:=by unfold rJ;simp[hgt,fV]
  omega
theorem xY{K:aa}{H:Hp}{a b:Addr}{zs ws:List V}{ps:List Tri}{Q:VK}(ea:H a=some (.lst zs))(ka:_root_.Q.bu H zs ps)(eb:H b=some (.lst ws))(kb:_root_.Q.bu H ws ps)(q:Q (.bl false) H):ej K .NotEq (.ref a) (.ref b) H Q:=by
 refine⟨.lst (ps.map rJ),.lst (ps.map rJ),⟨a,zs,rfl,SqL.of ea,uf ka⟩,⟨b,ws,rfl,SqL.of eb,uf kb⟩,by show fV (ps.map rJ)+1<=30;have :=uU ps;omega,?_⟩;rw[l6];exact q
theorem rZ{K:aa}{H:Hp}{t:Addr}{ys:List V}{L:List Row}(tl:K82.Tl H t ys L):Rep K H (.lst (L.map toD)) (.ref t):=⟨t,ys,rfl,SqL.of tl.et,xH tl.sh⟩
theorem BR{H:Hp}{t:Addr}{ys:List V}{L:List Row}(tl:K82.Tl H t ys L):hgt (.lst (L.map toD))<=30:=by
 show fV (L.map toD)+1<=30;have :=yi tl.sh;omega
theorem ne_tl{K:aa}{H:Hp}{a b:Addr}{ys:List V}{L:List Row}{Q:VK}(ta:K82.Tl H a ys L)(tb:K82.Tl H b ys L)(q:Q (.bl false) H):ej K .NotEq (.ref a) (.ref b) H Q:=by
 refine⟨_,_,rZ ta,rZ tb,BR ta,?_⟩;rw[l6];exact q
theorem eq_tl{K:aa}{H:Hp}{a b:Addr}{ys:List V}{L:List Row}{Q:VK}(ta:K82.Tl H a ys L)(tb:K82.Tl H b ys L)(q:Q (.bl true) H):ej K .Eq (.ref a) (.ref b) H Q:=by
 refine⟨_,_,rZ ta,rZ tb,BR ta,?_⟩;rw[l6];exact q
theorem Cb(xs:List V)(x:V):mY (xs++[x]) none (some (-1))=xs:=by
 unfold mY;have e:HT.sIx (xs++[x]).length (xs++[x]).length (some (-1))=xs.length:=by
  unfold HT.sIx;dsimp only;rw[if_pos (by decide),ai,eL];omega
 rw[e];show((xs++[x]).drop 0).take (xs.length-0)=xs;rw[lH,zP,tI]
section
variable {G:Gam}{K:aa}{T:Tb}
structure G85(G:Gam)(K:aa)(CN:Addr)(T:Tb):Prop where
 g1:G.fn "_law_table" 1=some (Ax K,[])
 g2:G.fn "mixed" 2=some (Ay CN T,[])
 g3:G.fn "_law_kinds" 1=some (spKd,[])
 g4:G.fn "_law_due" 3=some (AA,[])
 g5:G.fn "_law_refused" 2=some (spRf T,[])
structure Lz(T:Tb)(H:Hp)(t hd:Addr)(ys:List V)(L:List Row):Prop where
 tb:Tab T H
 tt:K82.Tl H t ys L
 th:K82.Tl H hd ys L
theorem Lz.gr{H H':Hp}{t hd:Addr}{ys:List V}{L:List Row}(x:Lz T H t hd ys L)(g:Gr T H H'):Lz T H' t hd ys L:=⟨g.tab x.tb,Aj x.tt g x.tb,Aj x.th g x.tb⟩
noncomputable def Az(K:aa)(T:Tb):Sp:=fun vs H Q _=>∃(a:Addr)(ns:List Int),vs=[.ref a]/\SqL K H a (ns.map V.int)/\ns.length<=63/\Tab T H/\∀H',Q (.bl true) H'
theorem wF:∀(f:Fin 3)(j:Fin 22),nmz f.val j.val≠aV "nobody"/\nmz f.val j.val≠aV ""/\nmz f.val j.val≠aV "Ab":=by decide+kernel
theorem z7{CN:Addr}{E:XS}{D:Ends}{Q:VK}{H:Hp}{t hd:Addr}{ys:List V}{L:List Row}{u0 u3 u4 u5 u6:Option V}(g:G85 G K CN T)(x:Lz T H t hd ys L)(hL:L.length<=22)(h9:∀l∈L,l.2.length<=9)(hn:∀l∈L,∃f j,f<3/\j<22/\l.1=nmz f j)(hr:D.rt=Q)(qq:∀H',Q (.bl true) H'):
  wpB G K E sS D [u0,some (.ref t),some (.ref hd),u3,u4,u5,u6] H:=by
 unfold sS;walk_at "wp";refine jd ?_;walk_at "wp";refine⟨short (by simp),fun p1 hp1=>⟨short (by simp),fun p2 hp2=>⟨short (by simp),fun p3 hp3=>?_⟩⟩⟩;have s1:=aF (o:=.lst [V.str (aV "a")]) hp1;have f1:upd H p1 (.lst [V.str (aV "a")]) p1=_:=aE;generalize upd H p1 (.lst [V.str (aV "a")])=H1 at s1 f1 hp2 hp3⊢;have s2:=aF (o:=.tup [V.str (aV "a")]) hp2;have f2:upd H1 p2 (.tup [V.str (aV "a")]) p2=_:=aE;generalize upd H1 p2 (.tup [V.str (aV "a")])=H2 at s2 f2 hp3⊢;generalize hl:[V.str (aV "nobody"),V.str (aV ""),V.str (aV "Ab"),V.non,V.int 5,V.bl true,V.ref p1,V.ref p2]=xs;have s3:=aF (o:=.lst xs) hp3;have f3:upd H2 p3 (.lst xs) p3=_:=aE;generalize upd H2 p3 (.lst xs)=H3 at s3 f3⊢;have s03:=s1.trans (s2.trans s3);have e1:=(s2.trans s3) _ _ f1;have e2:=s3 _ _ f2;have all:∀H5,aN H3 H5->∀v∈xs,Known H5 v/\(∀z,v=.str z->z.length<=20000)/\∀z,v=.str z->z∉L.map (·.1):=by
  intro H5 s5 v hv;rw[<-hl]at hv;simp only[aO,d9,or_false]at hv;have st:∀z:Str,z.length<=20000->(∀(f:Fin 3)(j:Fin 22),nmz f.val j.val≠z)->Known H5 (.str z)/\(∀z',V.str z=.str z'->z'.length<=20000)/\∀z',V.str z=.str z'->z'∉L.map (·.1):=fun z h1 h2=>⟨o4,fun z' e=>by injection e with e;rw[<-e];exact h1,fun z' e hm=>by
   injection e with e;subst e;obtain⟨l,hl,el⟩:=a8.mp hm;obtain⟨f,j,hf,hj,en⟩:=hn l hl;exact h2 ⟨f,hf⟩ ⟨j,hj⟩ (by rw[<-el,en])⟩
  rcases hv with rfl|rfl|rfl|rfl|rfl|rfl|rfl|rfl
  ·exact st _ (by decide+kernel) fun f j=>(wF f j).1
  ·exact st _ (by decide+kernel) fun f j=>(wF f j).2.1
  ·exact st _ (by decide+kernel) fun f j=>(wF f j).2.2
  ·exact⟨kn_non,(fun z e=>nomatch e),fun z e=>nomatch e⟩
  ·exact⟨ll,(fun z e=>nomatch e),fun z e=>nomatch e⟩
  ·exact⟨kn_bl,(fun z e=>nomatch e),fun z e=>nomatch e⟩
  ·exact⟨sG (s5 _ _ e1),(fun z e=>nomatch e),fun z e=>nomatch e⟩
  ·exact⟨mS (s5 _ _ e2),(fun z e=>nomatch e),fun z e=>nomatch e⟩
 have x3:=x.gr (Gr.of s03);refine⟨p3,rfl,⟨_,SqL.of f3⟩,?_⟩;refine gR (cW (xs:=xs)) (fun i σ H'=>aN H3 H'/\∃u,σ=[u0,some (.ref t),some (.ref hd),u3,u4,u5,u]) ⟨aN.refl _,u6,rfl⟩ (fun _ _ _ _ h=>SqL.of (h.1 _ _ f3)) ?_ ?_
 ·rintro i v σ H4 H5 D2 hi ⟨s4,u,rfl⟩ hv s5 hD2 _
  have s35:=s4.trans s5;have x5:=x3.gr (Gr.of s35);obtain⟨k1,k2,k3⟩:=all H5 s35 v (aD hv);walk_at "wp";refine⟨_,_,g.g5,hd,ys,L,v,rfl,x5.th,hL,h9,k1,k2,x5.tb,k3,fun H6 s6=>⟨true,rfl,?_⟩⟩;rw[if_neg (by decide)];exact hD2 _ _ ⟨s35.trans s6,_,rfl⟩
 ·rintro σ H4 ⟨s4,u,rfl⟩
  have x4:=x3.gr (Gr.of s4);unfold yq;walk_at "wp";refine eq_tl x4.th x4.tt ?_;rw[hr];exact qq _
theorem z8{CN:Addr}{E:XS}{D:Ends}{Q:VK}{H:Hp}{t hd:Addr}{ys:List V}{L:List Row}{u0 u3 u4 u5 u6:Option V}(g:G85 G K CN T)(x:Lz T H t hd ys L)(hL:L.length<=22)(h9:∀l∈L,l.2.length<=9)(hn:∀l∈L,∃f j,f<3/\j<22/\l.1=nmz f j)(hr:D.rt=Q)(qq:∀H',Q (.bl true) H'):
  wpB G K E sU D [u0,some (.ref t),some (.ref hd),u3,u4,u5,u6] H:=by
 unfold sU;walk_at "wp";refine jd ?_;unfold wN;walk_at "wp";refine .inl ⟨t,ys,rfl,SqL.of x.tt.et,fun p hp=>.inl ⟨p,rfl,⟨_,SqL.of aE⟩,?_⟩⟩;have e4:mY ys none (some 4)=ys.take 4:=pk ys 4;rw[e4];have s1:=aF (o:=.lst (ys.take 4)) hp;have f1:upd H p (.lst (ys.take 4)) p=some (.lst (ys.take 4)):=aE;generalize upd H p (.lst (ys.take 4))=H1 at s1 f1⊢;have x1:=x.gr (Gr.of s1);refine gR (cW (xs:=ys.take 4)) (fun i σ H'=>Gr T H1 H'/\∃u3 u4 u5,σ=[u0,some (.ref t),some (.ref hd),u3,u4,u5,u6]) ⟨Gr.refl _ _,u3,u4,u5,rfl⟩ (fun _ _ _ _ h=>SqL.of (h.1.lst x1.tb f1)) ?_ ?_
 ·rintro i v σ H2 H3 D2 hi ⟨gr2,v3,v4,v5,rfl⟩ hv s3 hD2 hr2
  have gr13:=gr2.trans (Gr.of s3);have x3:=x1.gr gr13;have hvm:v∈ys:=cE (aD hv);obtain⟨j,hj⟩:=dJ hvm;obtain⟨l,el,b,r,rfl,hb,hr',hrd⟩:=iL x3.tt.sh hj;have hlm:=aD el;have hlo:∀m∈L,m.2.length=l.2.length:=fun m hm=>by
   obtain⟨n,_,hc⟩:=x.tt.gd.ct;rw[hc m hm,hc l hlm]
  have hl8:l.1.length<=20000:=by
   have :=x.tt.gd.nm l hlm
   unfold dZ at this;rw[aw,decide_eq_true_eq]at this;omega
  have ask:∀{H:Hp}{Q:VK}{E:XK},Lz T H t hd ys L->(∀H' p zs,Gr T H H'->H p=none->H' p=some (.lst zs)->_root_.Q.bu H' zs (mix ((K82.sL L).filter fun r=>decide (r.1≠l.1)) l.2 (l.2.length-1))->Q (.ref p) H')->Ay CN T [.ref hd,.str l.1] H Q E:=fun{H Q E} x q=>by
   refine⟨hd,ys,L,.str l.1,rfl,x.th,hL,h9,o4,(fun z e=>by injection e with e;rw[<-e];exact hl8),x.tb,(fun h=>absurd (a8.mpr ⟨l,hlm,rfl⟩) (h _ rfl)),fun m hm em=>?_⟩;have :m=l:=row_one x.th.gd.nd hm hlm (by injection em with em;exact em.symm);subst this;exact q
  generalize hps:mix ((K82.sL L).filter fun r=>decide (r.1≠l.1)) l.2 (l.2.length-1)=ps at ask;walk_at "wp";refine⟨b,_,rfl,SqT.of hb,rfl,_,_,rfl,_,_,rfl,rfl,?_⟩;refine⟨_,_,g.g2,ask x3 fun H4 p4 zs4 gr4 n4 h4 k4=>?_⟩;have x4:=x3.gr gr4;unfold rh;walk_at "wp";refine⟨_,_,g.g3,p4,zs4,ps,rfl,h4,k4,fun H5 s5=>⟨true,rfl,?_⟩⟩;rw[if_neg (by decide)];have x5:=x4.gr (Gr.of s5);have hr5:=s5 _ _ (gr4.tR x3.tb hr');refine⟨_,_,g.g4,t,ys,L,l.1,r,l.2,rfl,x5.tt,hL,hr5,h9 l hlm,hrd,hlo,fun H6 p6 zs6 s6 n6 h6 k6=>?_⟩;rw[hps]at k6;have s46:=s5.trans s6;have h46:=s46 _ _ h4;have k46:=dY k4 s46;refine xY h46 k46 h6 k6 ⟨false,rfl,?_⟩;rw[if_neg au];have x6:=x5.gr (Gr.of s6);refine ne_tl x6.th x6.tt ⟨false,rfl,?_⟩;rw[if_neg au];unfold rf;walk_at "wp";refine⟨.inl ⟨rfl,_,SqL.of h46⟩,short (by simp),fun p7 hp7=>?_⟩;have s7:=aF (o:=.tup [V.int 1,V.str (aV "a"),V.str (aV "b")]) hp7;generalize upd H6 p7 (.tup [V.int 1,V.str (aV "a"),V.str (aV "b")])=H7 at s7⊢;have h7:=s7 _ _ h46;have zl:zs4.length<=4000:=by
   rw[<-_root_.Q.gk k4,<-hps];have h9:=h9 l hlm;exact x9 (aI (bz _ _) (by rw[(K82.j4 x.tt.gd.nd).length_eq];exact hL)) (by omega)
  refine⟨p4,zs4,.ref p7,rfl,rfl,h7,aS (by omega:zs4.length<9000) (by decide),?_⟩;have gr8:Gr T H3 (upd H7 p4 (.lst (zs4++[.ref p7]))):=K84.gr_set (gr4.trans (Gr.of (s46.trans s7))) n4 h7;have h8:upd H7 p4 (.lst (zs4++[.ref p7])) p4=some (.lst (zs4++[.ref p7])):=aE;have k8:_root_.Q.bu (upd H7 p4 (.lst (zs4++[.ref p7]))) zs4 ps:=vU h7 (dY k46 s7);generalize upd H7 p4 (.lst (zs4++[.ref p7]))=H8 at gr8 h8 k8⊢;have x8:=x3.gr gr8;unfold rb;walk_at "wp";refine⟨_,_,g.g2,ask x8 fun H9 p9 zs9 gr9 n9 h9' k9=>?_⟩;have h89:=gr9.lst x8.tb h8;have k89:=tk_gr k8 gr9 x8.tb;refine .inl ⟨p4,_,rfl,SqL.of h89,fun p10 hp10=>?_⟩;rw[Cb];have s10:=aF (o:=.lst zs4) hp10;refine xY (s10 _ _ h9') (dY k9 s10) aE (dY k89 s10) ⟨false,rfl,?_⟩;rw[if_neg au];exact hD2 _ _ ⟨gr13.trans (gr8.trans (gr9.trans (Gr.of s10))),_,_,_,rfl⟩
 ·rintro σ H2 ⟨gr2,v3,v4,v5,rfl⟩
  exact z7 g (x1.gr gr2) hL h9 hn hr qq
theorem wp_law{CN:Addr}(g:G85 G K CN T):Sat G K (Az K T) Ck Bz:=by
 rintro vs H Q E ⟨a,ns,rfl,ha,h63,tb,qq⟩;unfold Ck;change wpB G K _ _ _ [some (.ref a),none,none,none,none,none,none] H;walk_at "wp";refine⟨_,_,g.g1,a,ns,rfl,ha,h63,fun H1 t ys L s1 n1 tl hL h9 hn=>?_⟩;unfold yr;walk_at "wp";refine⟨t,ys,rfl,.inl (SqL.of tl.et),fun hd hhd=>?_⟩;have s2:=aF (o:=.lst ys) hhd;have tl2:=tl.same s2;exact z8 g ⟨(Gr.of (s1.trans s2)).tab tb,tl2,⟨aE,tl2.sh,tl2.gd⟩⟩ hL h9 hn rfl qq
end
end K85
set_option maxHeartbeats 0
namespace K85
open PySem PySem.Spec PySem.Calls PyProof.Rows L2 R Cp Lt Lm
noncomputable def uV(P:PySem.Params):aa:=
 (nat_lit 2,⟨.none,none,(.dict #[] 0),#[]⟩)::
 (nat_lit 3,⟨.type "dict",none,(.dict #[⟨ao P "__name__",.str "__name__" 165,.str "law_copykin_k85_mixed" 329⟩,⟨ao P "__doc__",.str "__doc__" 166,.none⟩,⟨ao P "__package__",.str "__package__" 167,.none⟩,⟨ao P "__loader__",.str "__loader__" 168,.builtin "__main__.__loader__#opaque"⟩,⟨ao P "__spec__",.str "__spec__" 169,.none⟩,⟨ao P "__annotations__",.str "__annotations__" 170,.ref 6⟩,⟨ao P "__builtins__",.str "__builtins__" 171,.ref 4⟩,⟨ao P "__file__",.str "__file__" 173,.str "/claim/cut.py" 172⟩,⟨ao P "__cached__",.str "__cached__" 174,.none⟩,⟨ao P "KinError",.str "KinError" 206,.ref 24⟩,⟨ao P "NoTable",.str "NoTable" 222,.ref 37⟩,⟨ao P "NoName",.str "NoName" 238,.ref 49⟩,⟨ao P "LETTERS",.str "LETTERS" 242,.str "abcdefghijklmnopqrstuvwxyz" 241⟩,⟨ao P "LONGEST_NAME",.str "LONGEST_NAME" 244,.int 8 243⟩,⟨ao P "MOST_PLACES",.str "MOST_PLACES" 246,.int 60 245⟩,⟨ao P "MOST_COPIES",.str "MOST_COPIES" 248,.int 40 247⟩,⟨ao P "is_whole",.str "is_whole" 255,.ref 58⟩,⟨ao P "is_name",.str "is_name" 261,.ref 63⟩,⟨ao P "is_reading",.str "is_reading" 268,.ref 70⟩,⟨ao P "are_readings",.str "are_readings" 274,.ref 75⟩,⟨ao P "is_copy",.str "is_copy" 281,.ref 82⟩,⟨ao P "is_table",.str "is_table" 287,.ref 87⟩,⟨ao P "need_table",.str "need_table" 294,.ref 94⟩,⟨ao P "need_name",.str "need_name" 300,.ref 99⟩,⟨ao P "table_list",.str "table_list" 306,.ref 104⟩,⟨ao P "without_copy",.str "without_copy" 312,.ref 109⟩,⟨ao P "node_of",.str "node_of" 320,.ref 114⟩,⟨ao P "mixed",.str "mixed" 328,.ref 119⟩,⟨ao P "_law_cell_at",.str "_law_cell_at" 338,.ref 126⟩,⟨ao P "_law_drawn",.str "_law_drawn" 346,.ref 133⟩,⟨ao P "_law_table",.str "_law_table" 352,.ref 138⟩,⟨ao P "_law_due",.str "_law_due" 358,.ref 143⟩,⟨ao P "_law_kinds",.str "_law_kinds" 366,.ref 150⟩,⟨ao P "_law_refused",.str "_law_refused" 376,.ref 157⟩,⟨ao P "law",.str "law" 389,.ref 164⟩] 35),#[]⟩)::
 (nat_lit 23,⟨.type "dict",none,(.dict #[⟨ao P "__module__",.str "__module__" 196,.str "copykin.errors" 187⟩,⟨ao P "__firstlineno__",.str "__firstlineno__" 200,.int 2 199⟩,⟨ao P "__static_attributes__",.str "__static_attributes__" 201,.ref 22⟩,⟨ao P "__weakref__",.str "__weakref__" 203,.ref 25⟩,⟨ao P "__doc__",.str "__doc__" 204,.none⟩] 3),#[]⟩)::
 (nat_lit 24,⟨.type "type",none,(.cls {name:="KinError",bases:=[.type "ValueError"],mro:=[.ref 24,.type "ValueError",.type "Exception",.type "BaseException",.type "object"],ns:=23,qualname:="KinError",hasDict:=true,slotNames:=[],subclasses:=[.ref 37,.ref 49],abstract:=false,collection:=none,hasDel:=false}),#[(some (.ref 15)),none,(some (.str "KinError" 189)),(some (.str "KinError" 197)),(some (.builtin "ValueError.__new__")),(some (.bool true))]⟩)::
 (nat_lit 36,⟨.type "dict",none,(.dict #[⟨ao P "__module__",.str "__module__" 214,.str "copykin.errors" 187⟩,⟨ao P "__firstlineno__",.str "__firstlineno__" 218,.int 4 217⟩,⟨ao P "__static_attributes__",.str "__static_attributes__" 219,.ref 35⟩,⟨ao P "__doc__",.str "__doc__" 220,.none⟩] 2),#[]⟩)::
 (nat_lit 37,⟨.type "type",none,(.cls {name:="NoTable",bases:=[.ref 24],mro:=[.ref 37,.ref 24,.type "ValueError",.type "Exception",.type "BaseException",.type "object"],ns:=36,qualname:="NoTable",hasDict:=true,slotNames:=[],subclasses:=[],abstract:=false,collection:=none,hasDel:=false}),#[(some (.ref 28)),none,(some (.str "NoTable" 207)),(some (.str "NoTable" 215)),(some (.builtin "ValueError.__new__")),(some (.bool true))]⟩)::
 (nat_lit 48,⟨.type "dict",none,(.dict #[⟨ao P "__module__",.str "__module__" 230,.str "copykin.errors" 187⟩,⟨ao P "__firstlineno__",.str "__firstlineno__" 234,.int 6 233⟩,⟨ao P "__static_attributes__",.str "__static_attributes__" 235,.ref 47⟩,⟨ao P "__doc__",.str "__doc__" 236,.none⟩] 2),#[]⟩)::
 (nat_lit 49,⟨.type "type",none,(.cls {name:="NoName",bases:=[.ref 24],mro:=[.ref 49,.ref 24,.type "ValueError",.type "Exception",.type "BaseException",.type "object"],ns:=48,qualname:="NoName",hasDict:=true,slotNames:=[],subclasses:=[],abstract:=false,collection:=none,hasDel:=false}),#[(some (.ref 40)),none,(some (.str "NoName" 223)),(some (.str "NoName" 231)),(some (.builtin "ValueError.__new__")),(some (.bool true))]⟩)::
 (nat_lit 57,⟨.type "code",none,(.fields #[.str "is_whole" 249,.str "is_whole" 250,.str "/claim/cut.py" 251,.int 13 0,.int 1 0,.int 0 0,.int 0 0,.int 3 0,.ref 52,.bool true,.int 181 0,.ref 53,.none,.ref 54,.ref 55,.ref 56,.int 253 0,.int 13 0,.str "/claim/cut.py" 254]),#[]⟩)::
 (nat_lit 58,⟨.type "function",none,(.func (aL "is_whole" "is_whole" (bK (top 9)) (bj (top 9)) (aQ (top 9)) .none .none .none (.str "copykin.tables" 239) none (.ref 57) .none)),#[]⟩)::
 (nat_lit 62,⟨.type "code",none,(.fields #[.str "is_name" 256,.str "is_name" 257,.str "/claim/cut.py" 258,.int 15 0,.int 1 0,.int 0 0,.int 0 0,.int 3 0,.ref 59,.bool true,.int 181 0,.ref 60,.none,.none,.none,.ref 61,.int 259 0,.int 15 0,.str "/claim/cut.py" 260]),#[]⟩)::
 (nat_lit 63,⟨.type "function",none,(.func (aL "is_name" "is_name" (bK (top 10)) (bj (top 10)) (aQ (top 10)) .none .none .none (.str "copykin.tables" 239) none (.ref 62) .none)),#[]⟩)::
 (nat_lit 69,⟨.type "code",none,(.fields #[.str "is_reading" 262,.str "is_reading" 263,.str "/claim/cut.py" 264,.int 21 0,.int 1 0,.int 0 0,.int 0 0,.int 3 0,.ref 64,.bool true,.int 181 0,.ref 65,.none,.ref 66,.ref 67,.ref 68,.int 266 0,.int 21 0,.str "/claim/cut.py" 267]),#[]⟩)::
 (nat_lit 70,⟨.type "function",none,(.func (aL "is_reading" "is_reading" (bK (top 11)) (bj (top 11)) (aQ (top 11)) .none .none .none (.str "copykin.tables" 239) none (.ref 69) .none)),#[]⟩)::
 (nat_lit 74,⟨.type "code",none,(.fields #[.str "are_readings" 269,.str "are_readings" 270,.str "/claim/cut.py" 271,.int 23 0,.int 1 0,.int 0 0,.int 0 0,.int 3 0,.ref 71,.bool true,.int 181 0,.ref 72,.none,.none,.none,.ref 73,.int 272 0,.int 23 0,.str "/claim/cut.py" 273]),#[]⟩)::
 (nat_lit 75,⟨.type "function",none,(.func (aL "are_readings" "are_readings" (bK (top 12)) (bj (top 12)) (aQ (top 12)) .none .none .none (.str "copykin.tables" 239) none (.ref 74) .none)),#[]⟩)::
 (nat_lit 81,⟨.type "code",none,(.fields #[.str "is_copy" 275,.str "is_copy" 276,.str "/claim/cut.py" 277,.int 27 0,.int 1 0,.int 0 0,.int 0 0,.int 3 0,.ref 76,.bool true,.int 181 0,.ref 77,.none,.ref 78,.ref 79,.ref 80,.int 279 0,.int 27 0,.str "/claim/cut.py" 280]),#[]⟩)::
 (nat_lit 82,⟨.type "function",none,(.func (aL "is_copy" "is_copy" (bK (top 13)) (bj (top 13)) (aQ (top 13)) .none .none .none (.str "copykin.tables" 239) none (.ref 81) .none)),#[]⟩)::
 (nat_lit 86,⟨.type "code",none,(.fields #[.str "is_table" 282,.str "is_table" 283,.str "/claim/cut.py" 284,.int 31 0,.int 1 0,.int 0 0,.int 0 0,.int 3 0,.ref 83,.bool true,.int 181 0,.ref 84,.none,.none,.none,.ref 85,.int 285 0,.int 31 0,.str "/claim/cut.py" 286]),#[]⟩)::
 (nat_lit 87,⟨.type "function",none,(.func (aL "is_table" "is_table" (bK (top 14)) (bj (top 14)) (aQ (top 14)) .none .none .none (.str "copykin.tables" 239) none (.ref 86) .none)),#[]⟩)::
 (nat_lit 93,⟨.type "code",none,(.fields #[.str "need_table" 288,.str "need_table" 289,.str "/claim/cut.py" 290,.int 39 0,.int 1 0,.int 0 0,.int 0 0,.int 3 0,.ref 88,.bool true,.int 181 0,.ref 89,.none,.ref 90,.ref 91,.ref 92,.int 292 0,.int 39 0,.str "/claim/cut.py" 293]),#[]⟩)::
 (nat_lit 94,⟨.type "function",none,(.func (aL "need_table" "need_table" (bK (top 15)) (bj (top 15)) (aQ (top 15)) .none .none .none (.str "copykin.tables" 239) none (.ref 93) .none)),#[]⟩)::
 (nat_lit 98,⟨.type "code",none,(.fields #[.str "need_name" 295,.str "need_name" 296,.str "/claim/cut.py" 297,.int 42 0,.int 2 0,.int 0 0,.int 0 0,.int 3 0,.ref 95,.bool true,.int 181 0,.ref 96,.none,.none,.none,.ref 97,.int 298 0,.int 42 0,.str "/claim/cut.py" 299]),#[]⟩)::
 (nat_lit 99,⟨.type "function",none,(.func (aL "need_name" "need_name" (bK (top 16)) (bj (top 16)) (aQ (top 16)) .none .none .none (.str "copykin.tables" 239) none (.ref 98) .none)),#[]⟩)::
 (nat_lit 103,⟨.type "code",none,(.fields #[.str "table_list" 301,.str "table_list" 302,.str "/claim/cut.py" 303,.int 46 0,.int 1 0,.int 0 0,.int 0 0,.int 3 0,.ref 100,.bool true,.int 181 0,.ref 101,.none,.none,.none,.ref 102,.int 304 0,.int 46 0,.str "/claim/cut.py" 305]),#[]⟩)::
 (nat_lit 104,⟨.type "function",none,(.func (aL "table_list" "table_list" (bK (top 17)) (bj (top 17)) (aQ (top 17)) .none .none .none (.str "copykin.tables" 239) none (.ref 103) .none)),#[]⟩)::
 (nat_lit 108,⟨.type "code",none,(.fields #[.str "without_copy" 307,.str "without_copy" 308,.str "/claim/cut.py" 309,.int 50 0,.int 2 0,.int 0 0,.int 0 0,.int 3 0,.ref 105,.bool true,.int 181 0,.ref 106,.none,.none,.none,.ref 107,.int 310 0,.int 50 0,.str "/claim/cut.py" 311]),#[]⟩)::
 (nat_lit 109,⟨.type "function",none,(.func (aL "without_copy" "without_copy" (bK (top 18)) (bj (top 18)) (aQ (top 18)) .none .none .none (.str "copykin.tables" 239) none (.ref 108) .none)),#[]⟩)::
 (nat_lit 113,⟨.type "code",none,(.fields #[.str "node_of" 315,.str "node_of" 316,.str "/claim/cut.py" 317,.int 54 0,.int 2 0,.int 0 0,.int 0 0,.int 3 0,.ref 110,.bool true,.int 181 0,.ref 111,.none,.none,.none,.ref 112,.int 318 0,.int 54 0,.str "/claim/cut.py" 319]),#[]⟩)::
 (nat_lit 114,⟨.type "function",none,(.func (aL "node_of" "node_of" (bK (top 20)) (bj (top 20)) (aQ (top 20)) .none .none .none (.str "copykin.trees" 313) none (.ref 113) .none)),#[]⟩)::
 (nat_lit 118,⟨.type "code",none,(.fields #[.str "mixed" 323,.str "mixed" 324,.str "/claim/cut.py" 325,.int 59 0,.int 2 0,.int 0 0,.int 0 0,.int 3 0,.ref 115,.bool true,.int 181 0,.ref 116,.none,.none,.none,.ref 117,.int 326 0,.int 59 0,.str "/claim/cut.py" 327]),#[]⟩)::
 (nat_lit 119,⟨.type "function",none,(.func (aL "mixed" "mixed" (bK (top 22)) (bj (top 22)) (aQ (top 22)) .none .none .none (.str "copykin.mixing" 321) none (.ref 118) .none)),#[]⟩)::
 (nat_lit 125,⟨.type "code",none,(.fields #[.str "_law_cell_at" 331,.str "_law_cell_at" 332,.str "/claim/cut.py" 333,.int 70 0,.int 2 0,.int 0 0,.int 0 0,.int 3 0,.ref 120,.bool true,.int 181 0,.ref 121,.none,.ref 122,.ref 123,.ref 124,.int 336 0,.int 70 0,.str "/claim/cut.py" 337]),#[]⟩)::
 (nat_lit 126,⟨.type "function",none,(.func (aL "_law_cell_at" "_law_cell_at" (bK (top 24)) (bj (top 24)) (aQ (top 24)) .none .none .none (.str "law_copykin_k85_mixed" 329) none (.ref 125) .none)),#[]⟩)::
 (nat_lit 132,⟨.type "code",none,(.fields #[.str "_law_drawn" 339,.str "_law_drawn" 340,.str "/claim/cut.py" 341,.int 74 0,.int 2 0,.int 0 0,.int 0 0,.int 3 0,.ref 127,.bool true,.int 181 0,.ref 128,.none,.ref 129,.ref 130,.ref 131,.int 344 0,.int 74 0,.str "/claim/cut.py" 345]),#[]⟩)::
 (nat_lit 133,⟨.type "function",none,(.func (aL "_law_drawn" "_law_drawn" (bK (top 25)) (bj (top 25)) (aQ (top 25)) .none .none .none (.str "law_copykin_k85_mixed" 329) none (.ref 132) .none)),#[]⟩)::
 (nat_lit 137,⟨.type "code",none,(.fields #[.str "_law_table" 347,.str "_law_table" 348,.str "/claim/cut.py" 349,.int 78 0,.int 1 0,.int 0 0,.int 0 0,.int 3 0,.ref 134,.bool true,.int 181 0,.ref 135,.none,.none,.none,.ref 136,.int 350 0,.int 78 0,.str "/claim/cut.py" 351]),#[]⟩)::
 (nat_lit 138,⟨.type "function",none,(.func (aL "_law_table" "_law_table" (bK (top 26)) (bj (top 26)) (aQ (top 26)) .none .none .none (.str "law_copykin_k85_mixed" 329) none (.ref 137) .none)),#[]⟩)::
 (nat_lit 142,⟨.type "code",none,(.fields #[.str "_law_due" 353,.str "_law_due" 354,.str "/claim/cut.py" 355,.int 97 0,.int 3 0,.int 0 0,.int 0 0,.int 3 0,.ref 139,.bool true,.int 181 0,.ref 140,.none,.none,.none,.ref 141,.int 356 0,.int 97 0,.str "/claim/cut.py" 357]),#[]⟩)::
 (nat_lit 143,⟨.type "function",none,(.func (aL "_law_due" "_law_due" (bK (top 27)) (bj (top 27)) (aQ (top 27)) .none .none .none (.str "law_copykin_k85_mixed" 329) none (.ref 142) .none)),#[]⟩)::
 (nat_lit 149,⟨.type "code",none,(.fields #[.str "_law_kinds" 359,.str "_law_kinds" 360,.str "/claim/cut.py" 361,.int 107 0,.int 1 0,.int 0 0,.int 0 0,.int 3 0,.ref 144,.bool true,.int 181 0,.ref 145,.none,.ref 146,.ref 147,.ref 148,.int 364 0,.int 107 0,.str "/claim/cut.py" 365]),#[]⟩)::
 (nat_lit 150,⟨.type "function",none,(.func (aL "_law_kinds" "_law_kinds" (bK (top 28)) (bj (top 28)) (aQ (top 28)) .none .none .none (.str "law_copykin_k85_mixed" 329) none (.ref 149) .none)),#[]⟩)::
 (nat_lit 156,⟨.type "code",none,(.fields #[.str "_law_refused" 367,.str "_law_refused" 368,.str "/claim/cut.py" 369,.int 114 0,.int 2 0,.int 0 0,.int 0 0,.int 3 0,.ref 151,.bool true,.int 181 0,.ref 152,.none,.ref 153,.ref 154,.ref 155,.int 374 0,.int 114 0,.str "/claim/cut.py" 375]),#[]⟩)::
 (nat_lit 157,⟨.type "function",none,(.func (aL "_law_refused" "_law_refused" (bK (top 29)) (bj (top 29)) (aQ (top 29)) .none .none .none (.str "law_copykin_k85_mixed" 329) none (.ref 156) .none)),#[]⟩)::
 (nat_lit 163,⟨.type "code",none,(.fields #[.str "law" 377,.str "law" 378,.str "/claim/cut.py" 379,.int 121 0,.int 1 0,.int 0 0,.int 0 0,.int 3 0,.ref 158,.bool true,.int 181 0,.ref 159,.none,.ref 160,.ref 161,.ref 162,.int 387 0,.int 121 0,.str "/claim/cut.py" 388]),#[]⟩)::
 (nat_lit 164,⟨.type "function",none,(.func (aL "law" "law" (bK (top 30)) (bj (top 30)) (aQ (top 30)) .none .none .none (.str "law_copykin_k85_mixed" 329) none (.ref 163) .none)),#[]⟩)::[]
noncomputable def uW:List Addr:=[2,3,23,24,36,37,48,49,57,58,62,63,69,70,74,75,81,82,86,87,93,94,98,99,103,104,108,109,113,114,118,119,125,126,132,133,137,138,142,143,149,150,156,157,163,164]
noncomputable def lhsB(w:World):=(CH treeTable PySem.Challenge.pw_copykin_k85_mixed w 2578).map (vF (ij K85.uV K85.uW (fun _=>by kernel_rfl) [101]))
noncomputable def rhsB(w:World):=some (vE (ij K85.uV K85.uW (fun _=>by kernel_rfl) [101]) w)
theorem laidB:(seen lhsB&&seen rhsB)=true:=by k_qdec
theorem leftB(w:World):lhsB w=rhsB w:=by
 have _:=laidB;rw[PySem.W.Fast.te12303306987222417171,PySem.W.Fast.te7723797850655174201]
 kernel_rfl
noncomputable def BJ(st:Stmt):Pos:=match bj st with
 |_::.Assign _ (.Call _ _ [⟨_,.Lambda _ _ _ p,_⟩] _) _::_=>p
 |_=>⟨0,0,0,0⟩
noncomputable def tb(p:Addr):Tb:=⟨p,BJ (top 17),"table_list.<locals>.<lambda>"⟩
theorem tl_ok:(lQ gQ lO (aQ (top 17))&&chkK (aQ (top 17)) gQ iK 1 (.var 0) "copy" (BJ (top 17)) iJ (bj (top 17)))=true:=by decide+kernel
theorem tl_q:("table_list":Str)++".<locals>."++"<lambda>"="table_list.<locals>.<lambda>":=by decide+kernel
noncomputable def vals(C CE CN:Addr):List (Str×V):=[("LETTERS",.str LETTERS),("LONGEST_NAME",.int 8),("MOST_PLACES",.int 60),("MOST_COPIES",.int 40),("NoTable",.ref C),("KinError",.ref CE),("NoName",.ref CN)]
theorem BZ{K:aa}{C:Addr}{cd:ClassData}(a:dU K (.ref C) "__getattribute__"=some (some (.builtin "BaseException.__getattribute__")))(b:dU K (.ref C) "__getattr__"=some none)(c:dU K (.ref C) "__class__"=some (some (.builtin "object.__class__")))
  (d:zV K (.builtin "object.__class__") "__get__"=some (some (.builtin "getset_descriptor.__get__")))(e:PySem.W.takesIn K (.builtin "object.__class__")=some true)(f:tu K C (.type "object")=some true)(g:tu K C (.type "BaseException")=some true)(h:PySem.W.clsIn K C=some cd):jP K C=true:=by
 unfold jP;rw[a,b,c,d,e,f,g,h];simp only[beq_self_eq_true,Bool.and_self,fG]
noncomputable def sX(K:aa)(x:Str)(st:Stmt)(c p:Addr):Prop:=∃(f:Addr)(oc:Value)(od an:Option Addr)(osl:Array (Option Value))(kV doc pm ct:Value),cQ K bh x=some (some (.ref f))/\
 K.lookup f=some ⟨oc,od,.func (aL x x (bK st) (bj st) (aQ st) .none kV doc pm an (.ref c) ct),osl⟩/\dW K (.ref c) x=true/\bJ K (.ref f)=true/\CK K c p=true
theorem qS{K:aa}{x:Str}{st:Stmt}{f c p:Addr}{oc:Value}{od an:Option Addr}{osl:Array (Option Value)}{kV doc pm ct:Value}(a:cQ K bh x=some (some (.ref f)))
  (l:K.lookup f=some ⟨oc,od,.func (aL x x (bK st) (bj st) (aQ st) .none kV doc pm an (.ref c) ct),osl⟩)(k:dW K (.ref c) x=true)(q:bJ K (.ref f)=true)(h:CK K c p=true):∃c,sX K x st c p:=
 ⟨c,f,oc,od,an,osl,kV,doc,pm,ct,a,l,k,q,h⟩
theorem add_fnK{P:Program}{w:World}{K:aa}{mg:Str->Option Value}{base h:Heap}{k:Nat}{vals:List (Str×V)}{fns:List ((Str×Nat)×(Sp×List V))}{x lx:Str}{st:Stmt}{N ps:List Str}{sp:Sp}{c1:CS}{i:Nat}{ce:R.CE}{c2:CB}{T:Tb}{c:Addr}{inis:List ((Str×Nat)×(Addr×Sp×List V))}{dics:List (Addr×List (Key×V))}
  (g:GOk P w K mg base (CXx P w) k (gam vals fns inis dics))(X:K.In h)(Xb:K.In base)(Gm:h.Ns bh mg)(d:sX K x st c T.P)(hc:(lQ N ps (aQ st)&&chkK (aQ st) N c1 i ce lx T.pos c2 (bj st))=true)(hq:x++".<locals>."++"<lambda>"=T.q)(hb:BM mg base)
  (hbd:∀(p:Pos)(body:Expr)(scope:Scope)(qual:Str)(pm ctv v:Value)(c':Addr),lE (PySem.W.kla_fn "<lambda>" qual (lZ lx p) body scope [] pm (.ref c') ctv) ⟨[v],[]⟩=pure [(lx,v)])
  (hba:∀(kV doc pm:Value)(an:Option Addr)(cdv ct:Value)(us:List Value),us.length=ps.length->lE (aL x x (bK st) (bj st) (aQ st) .none kV doc pm an cdv ct) ⟨us,[]⟩=pure (ps.zip us))(len:∀vs H Q E,sp vs H Q E->vs.length=ps.length)
  (hw:∀vs H Q E,sp vs H Q E->pW (R.wpS (gam vals fns inis dics) K (fun _=>E) c1) (pW (rO (oA K T (wpE (gam vals fns inis dics) K (fun _=>E) ce)) (kJ i)) (wpB (gam vals fns inis dics) K (fun _=>E) c2)) {nx:=fun _ H'=>Q .non H',rt:=Q} (L2.start N vs) H):
  GOk P w K mg base (CXx P w) (k+1) (gam vals (((x,ps.length),(sp,[]))::fns) inis dics):=by
 rw[aw]at hc;obtain⟨f,oc,od,an,osl,kV,doc,pm,ct,a,l,q1,q2,q3⟩:=d;have F:=wO l q1 q2;exact g.add (n:=ps.length) (BV F hc.1 hc.2 rfl (yz Xb q3) hq hb hbd g len hw) (dc X Gm a) q2 (F.binds hba) .nil
theorem all_mk{P:Program}{w:World}{K:aa}{h:Heap}{mg:Str->Option Value}{fa p:Addr}(X:K.In h)(Gm:h.Ns bh mg)(hfa:mg "law"=some (.ref fa)){t1 t2 t3 t4:Tok}{C CE CN:Addr}
  (v1:cQ K bh "LETTERS"=some (some (.str LETTERS t1)))(v2:cQ K bh "LONGEST_NAME"=some (some (.int 8 t2)))(v3:cQ K bh "MOST_PLACES"=some (some (.int 60 t3)))(v4:cQ K bh "MOST_COPIES"=some (some (.int 40 t4)))(v5:cQ K bh "NoTable"=some (some (.ref C)))(v6:cQ K bh "KinError"=some (some (.ref CE)))(v7:cQ K bh "NoName"=some (some (.ref CN)))
  (xc:XC K C)(xn:XC K CN)(oc:jP K CN=true)(m:PySem.W.exmOne K (.ref CN) (.ref CE)=some true)(k1:bI K (.ref CN) (.ref CN)=some true)(kv:bI K (.ref CN) (.type "ValueError")=some true)(k2:bI K (.ref CN) (.ref C)=some false)(bl:∀x∈gv,cQ K bh x=some none)
  (h9:HasFn K "is_whole" (top 9))(h10:HasFn K "is_name" (top 10))(h11:HasFn K "is_reading" (top 11))(h12:HasFn K "are_readings" (top 12))(h13:HasFn K "is_copy" (top 13))(h14:HasFn K "is_table" (top 14))(h15:HasFn K "need_table" (top 15))(h16:HasFn K "need_name" (top 16))(h18:HasFn K "without_copy" (top 18))(h20:HasFn K "node_of" (top 20))(h22:HasFn K "mixed" (top 22))(h24:HasFn K "_law_cell_at" (top 24))(h25:HasFn K "_law_drawn" (top 25))(h26:HasFn K "_law_table" (top 26))(h27:HasFn K "_law_due" (top 27))(h28:HasFn K "_law_kinds" (top 28))(h29:HasFn K "_law_refused" (top 29))(h17:∃c,sX K "table_list" (top 17) c p)(h30:HasFn K "law" (top 30)):
  ∃fd:eZ,(∀(s:Shared)(v:Value),BindsTo s fd ⟨[v],[]⟩ [("_law_script",v)])/\∀base:Heap,K.In base->base.Ns bh mg->BM mg base->hV P w K mg base CX0 19 fa fd ["_law_script"] (fun vs H Q _=>Az K (tb p) vs H Q E0):=by
 obtain⟨f,oc',od,an,osl,kV,doc,pm,cdv,ct,a,l,c,k⟩:=id h30;have e:=hfa.symm.trans (dc X Gm a);cases e;obtain⟨cc,h17⟩:=h17;refine⟨aL "law" "law" (bK (top 30)) (bj (top 30)) (aQ (top 30)) .none kV doc pm an cdv ct,fun s v=>.of_eq rfl,fun base Xb _ bm=>?_⟩;have hv:∀x v,(x,v)∈vals C CE CN->∃u,mg x=some u/\RelV v u:=by
  intro x v hm;simp only[vals,aO,d9,or_false,tB]at hm;rcases hm with⟨rfl,rfl⟩ |⟨rfl,rfl⟩ |⟨rfl,rfl⟩ |⟨rfl,rfl⟩ |⟨rfl,rfl⟩ |⟨rfl,rfl⟩ |⟨rfl,rfl⟩
  ·exact⟨_,dc X Gm v1,t1,rfl⟩
  ·exact⟨_,dc X Gm v2,t2,rfl⟩
  ·exact⟨_,dc X Gm v3,t3,rfl⟩
  ·exact⟨_,dc X Gm v4,t4,rfl⟩
  ·exact⟨_,dc X Gm v5,rfl⟩
  ·exact⟨_,dc X Gm v6,rfl⟩
  ·exact⟨_,dc X Gm v7,rfl⟩
 have g0:GOk P w K mg base (CXx P w) 0 (gam (vals C CE CN) []):=GOk.start hv fun x hx=>PySem.W.mg_none_of X Gm (bl x hx);have g1:=eJ (N:=Cp.oY) (ps:=Cp.wA) g0 (h9.def X Gm) (by decide+kernel) (fun _ _ _ _ _ _ us hl=>by obtain⟨_,rfl⟩:=Kc.hJ hl;rfl) (sp:=spB isWhole) (fun vs H Q E h=>Kc.dB h fun _ h=>Kc.jb h rfl) tO;have g2:=eJ (N:=Cp.qK) (ps:=Cp.y6) g1 (h10.def X Gm) (by decide+kernel) (fun _ _ _ _ _ _ us hl=>by obtain⟨_,rfl⟩:=Kc.hJ hl;rfl) (sp:=spN) (fun vs H Q E h=>Kc.dB h fun _ h=>Kc.jb h rfl) (vP (by kernel_rfl) (by kernel_rfl));have g3:=eJ (N:=Cp.lU) (ps:=Cp.so) g2 (h11.def X Gm) (by decide+kernel) (fun _ _ _ _ _ _ us hl=>by obtain⟨_,rfl⟩:=Kc.hJ hl;rfl) (sp:=spB aG) (fun vs H Q E h=>Kc.dB h fun _ h=>Kc.jb h rfl) (pU (by kernel_rfl));have g4:=eJ (N:=Cp.jK) (ps:=Cp.oS) g3 (h12.def X Gm) (by decide+kernel) (fun _ _ _ _ _ _ us hl=>by obtain⟨_,rfl⟩:=Kc.hJ hl;rfl) (sp:=spR) (fun vs H Q E h=>Kc.dB h fun _ h=>Kc.jb h rfl) (nV (by kernel_rfl) (by kernel_rfl));have g5:=eJ (N:=Cp.qL) (ps:=Cp.y8) g4 (h13.def X Gm) (by decide+kernel) (fun _ _ _ _ _ _ us hl=>by obtain⟨_,rfl⟩:=Kc.hJ hl;rfl) (sp:=spC) (fun vs H Q E h=>Kc.dB h fun _ h=>Kc.jb h rfl) (vQ (by kernel_rfl) (by kernel_rfl));have g6:=eJ (N:=Cp.oZ) (ps:=Cp.wB) g5 (h14.def X Gm) (by decide+kernel) (fun _ _ _ _ _ _ us hl=>by obtain⟨_,rfl⟩:=Kc.hJ hl;rfl) (sp:=Cp.spT) (fun vs H Q E h=>Kc.dB h fun _ h=>Kc.jb h rfl) (tP (by kernel_rfl) (by kernel_rfl));have g7:=eJ (N:=Cp.lS) (ps:=Cp.sk) g6 (h15.def X Gm) (by decide+kernel) (fun _ _ _ _ _ _ us hl=>by obtain⟨_,rfl⟩:=Kc.hJ hl;rfl) (sp:=rQ C) (fun vs H Q E h=>Kc.dB h fun _ h=>Kc.jb h rfl) (pT (by kernel_rfl) (by kernel_rfl) xc);have g8:=eJ (N:=K32.nu) (ps:=K32.um) g7 (h16.def X Gm) (by decide+kernel) (fun _ _ _ _ _ _ us hl=>by obtain⟨_,_,rfl⟩:=Kc.jD hl;rfl) (sp:=K32.lK C CN) (fun vs H Q E h=>Kc.dB h fun _ h=>Kc.dB h fun _ h=>Kc.jb h rfl) (K32.yF (C:=C) (CN:=CN) (by kernel_rfl) (by kernel_rfl) (by kernel_rfl) xn);have g9:=add_fnK (T:=tb p) (N:=gQ) (ps:=lO) (lx:="copy") g8 X Xb Gm h17 tl_ok tl_q bm (fun _ _ _ _ _ _ _ _=>rfl) (fun _ _ _ _ _ _ us hl=>by obtain⟨_,rfl⟩:=Kc.hJ hl;rfl) (sp:=rR C (tb p)) (fun vs H Q E h=>Kc.dB h fun _ h=>Kc.jb h rfl) (pS (C:=C) (by kernel_rfl));have g10:=eJ (N:=K82.jJ) (ps:=K82.oR) g9 (h18.def X Gm) (by decide+kernel) (fun _ _ _ _ _ _ us hl=>by obtain⟨_,_,rfl⟩:=Kc.jD hl;rfl) (sp:=K82.spWo C CN) (fun vs H Q E h=>Kc.dB h fun _ h=>Kc.dB h fun _ h=>Kc.dB h fun _ h=>Kc.dB h fun _ h=>Kc.jb h rfl) (K82.wp_wo (C:=C) (CN:=CN) (by kernel_rfl));have g11:=eJ (N:=K32.qI) (ps:=K32.yY) g10 (h20.def X Gm) (by decide+kernel) (fun _ _ _ _ _ _ us hl=>by obtain⟨_,_,rfl⟩:=Kc.jD hl;rfl) (sp:=K32.wb C CN (tb p)) (fun vs H Q E h=>Kc.dB h fun _ h=>Kc.dB h fun _ h=>Kc.jb h rfl) (K32.vL (C:=C) (CN:=CN) (T:=tb p) (by kernel_rfl) (by kernel_rfl));have g12:=eJ (N:=K85.xZ) (ps:=K85.p_mixed) g11 (h22.def X Gm) (by decide+kernel) (fun _ _ _ _ _ _ us hl=>by obtain⟨_,_,rfl⟩:=Kc.jD hl;rfl) (sp:=K85.Ay CN (tb p)) (fun vs H Q E h=>Kc.dB h fun _ h=>Kc.dB h fun _ h=>Kc.dB h fun _ h=>Kc.dB h fun _ h=>Kc.jb h rfl) (K85.z6 (C:=C) (CN:=CN) (T:=tb p) (by kernel_rfl) (by kernel_rfl) (by kernel_rfl));have g13:=eJ (N:=Lt.kI) (ps:=Lt.p8) g12 (h24.def X Gm) (by decide+kernel) (fun _ _ _ _ _ _ us hl=>by obtain⟨_,_,rfl⟩:=Kc.jD hl;rfl) (sp:=Lt.wc K) (fun vs H Q E h=>Kc.dB h fun _ h=>Kc.dB h fun _ h=>Kc.dB h fun _ h=>Kc.jb h rfl) Lt.wp_cell;have g14:=eJ (N:=K84.nA) (ps:=K84.uu) g13 (h25.def X Gm) (by decide+kernel) (fun _ _ _ _ _ _ us hl=>by obtain⟨_,_,rfl⟩:=Kc.jD hl;rfl) (sp:=K84.rS K) (fun vs H Q E h=>Kc.dB h fun _ h=>Kc.dB h fun _ h=>Kc.dB h fun _ h=>Kc.jb h rfl) K84.Aa;have g15:=eJ (N:=K85.nv) (ps:=K85.uo) g14 (h26.def X Gm) (by decide+kernel) (fun _ _ _ _ _ _ us hl=>by obtain⟨_,rfl⟩:=Kc.hJ hl;rfl) (sp:=K85.Ax K) (fun vs H Q E h=>Kc.dB h fun _ h=>Kc.dB h fun _ h=>Kc.jb h rfl) (K85.wp_tab (by kernel_rfl) (by kernel_rfl));have g16:=eJ (N:=K85.qJ) (ps:=K85.yZ) g15 (h27.def X Gm) (by decide+kernel) (fun _ _ _ _ _ _ us hl=>by obtain⟨_,_,_,rfl⟩:=Kc.Ak hl;rfl) (sp:=K85.AA) (fun vs H Q E h=>Kc.dB h fun _ h=>Kc.dB h fun _ h=>Kc.dB h fun _ h=>Kc.dB h fun _ h=>Kc.dB h fun _ h=>Kc.dB h fun _ h=>Kc.jb h rfl) K85.wp_due;have g17:=eJ (N:=K85.nz) (ps:=K85.ur) g16 (h28.def X Gm) (by decide+kernel) (fun _ _ _ _ _ _ us hl=>by obtain⟨_,rfl⟩:=Kc.hJ hl;rfl) (sp:=K85.spKd) (fun vs H Q E h=>Kc.dB h fun _ h=>Kc.dB h fun _ h=>Kc.dB h fun _ h=>Kc.jb h rfl) K85.wp_kd;have X':∀fns,K85.Xs (gam (vals C CE CN) fns) K CE C CN:=fun fns=>⟨by kernel_rfl,by kernel_rfl,by kernel_rfl,m,oc,k1,kv,k2⟩;have g18:=eJ (N:=K85.kH) (ps:=K85.p0) g17 (h29.def X Gm) (by decide+kernel) (fun _ _ _ _ _ _ us hl=>by obtain⟨_,_,rfl⟩:=Kc.jD hl;rfl) (sp:=K85.spRf (tb p)) (fun vs H Q E h=>Kc.dB h fun _ h=>Kc.dB h fun _ h=>Kc.dB h fun _ h=>Kc.dB h fun _ h=>Kc.jb h rfl) (K85.wp_rf (CE:=CE) (C:=C) (CN:=CN) (T:=tb p) (X' _) (by kernel_rfl));have hk:(lQ K85.Bz K85.p_law (aQ (top 30))&&m5 (aQ (top 30)) K85.Bz K85.Ck (bj (top 30)))=true:=by decide+kernel
 rw[aw]at hk;exact hV.calm (yk (wO l c k) hk.1 hk.2 g18 (fun vs H Q E h=>Kc.dB h fun _ h=>Kc.dB h fun _ h=>Kc.jb h rfl) (K85.wp_law (CN:=CN) (T:=tb p) ⟨by kernel_rfl,by kernel_rfl,by kernel_rfl,by kernel_rfl,by kernel_rfl⟩))
end K85
open PySem PySem.W PyProof.Rows
set_option maxRecDepth 100000 in
set_option maxHeartbeats 0 in
theorem PySem.Challenge.cw_copykin_k85_mixed_holds : PySem.Challenge.rw_copykin_k85_mixed.Holds := by
 w_on;o_law
 refine PySem.W.holds_open (q:=K85.vw) (loose:=K85.loo) (Xt:=K85.xt)
  (XP:=PySem.W.XL K85.vw []) (Yf:=vF (ij K85.uV K85.uW (fun _=>by kernel_rfl) [101])) (Ya:=vE (ij K85.uV K85.uW (fun _=>by kernel_rfl) [101]))
  (YP:=PySem.W.Hook.says (ij K85.uV K85.uW (fun _=>by kernel_rfl) [101])) (N:=2578) (fun w=>K85.both (K85.leftA w) (K85.leftB w)) (PySem.W.Hook.of _) (PySem.W.Hook.keeps _)
  (fun s e=>PySem.W.xl_of s (z0.mp e).1) PySem.W.XL.keeps
  (by rfl) (by rfl) (by rfl)
  (fun s e=>PySem.W.recFacts_of (z0.mp e).2) rfl (by assumption) (by decide+kernel)
  ⟨rfl,rfl,rfl,rfl,rfl,by decide+kernel⟩ ?hw ?hc
 (case hw=>w_witness2)
 k_fill
 refine Lm.Ab (l:=PySem.Challenge.rw_copykin_k85_mixed) (n:=63) (k:=19) (x:="_law_script") (CX:=L2.CX0) (sp:=fun K=>fun vs H Q _=>K85.Az K (K85.tb 101) vs H Q L2.E0) (tabs:=[101]) rfl (by decide) rfl ⟨rfl,by decide,by decide⟩ (fun w h Y=>CJ Y) ?T ?F (fun K H a ns hl ht hS=>⟨a,ns,rfl,hS,hl,.inl (ht 101 (bG.mpr rfl)),fun _=>rfl⟩) (fun _ _ _ _ z=>z)
 case T=>
  intro w s₀ mg mb h G Y p hp;obtain rfl:=bG.mp hp;have KX:=CJ Y;have T:=PySem.W.km_tabs_of Y 101 (bG.mpr rfl);have F:∃c,K85.sX (L2.KOf KX) "table_list" (K85.top 17) c 101:=by
   dsimp only[L2.KOf];refine' K85.qS ?ta ?tl ?tk ?tq ?th;(case ta=>k_is);(case tl=>k_is);(case tk=>k_is);(case tq=>k_is);(case th=>first |k_is|kernel_rfl)
  obtain⟨c,_,_,_,_,_,_,_,_,_,_,_,_,_,q⟩:=F;exact⟨T,((yz KX q).tab T).isCodeTable,by kernel_rfl⟩
 case F=>
  intro w mg fa h KX G hmg;refine' K85.all_mk (p:=101) KX G hmg ?v1 ?v2 ?v3 ?v4 ?v5 ?v6 ?v7 ?xc ?xn ?oc ?m ?k1 ?kv ?k2 ?bl ?h9 ?h10 ?h11 ?h12 ?h13 ?h14 ?h15 ?h16 ?h18 ?h20 ?h22 ?h24 ?h25 ?h26 ?h27 ?h28 ?h29 ?h17 ?h30
  (case v1=>k_is);(case v2=>k_is);(case v3=>k_is);(case v4=>k_is);(case v5=>k_is);(case v6=>k_is);(case v7=>k_is)
  (case xc=>refine'⟨?x1,?x2⟩;(case x1=>k_is);(case x2=>k_exc))
  (case xn=>refine'⟨?x1,?x2⟩;(case x1=>k_is);(case x2=>k_exc))
  (case oc=>refine' K85.BZ ?xa ?xb ?xc ?xd ?xe ?xf ?xg ?xh;(case xa=>k_is);(case xb=>k_is);(case xc=>k_is);(case xd=>k_is);(case xe=>k_is);(case xf=>k_is);(case xg=>k_is);(case xh=>k_is))
  (case m=>kts_exm)
  (case k1=>kit_is)
  (case kv=>kit_is)
  (case k2=>kit_is)
  (case bl=>
   intro x hx;simp only[R.gv,aO,d9,or_false]at hx;rcases hx with rfl|rfl|rfl|rfl|rfl|rfl|rfl|rfl|rfl|rfl|rfl|rfl|rfl|rfl|rfl|rfl|rfl|rfl|rfl|rfl<;>k_is)
  (case h17=>refine' K85.qS ?ua ?ul ?uk ?uq ?uh;(case ua=>k_is);(case ul=>k_is);(case uk=>k_is);(case uq=>k_is);(case uh=>first |k_is|kernel_rfl))
  all_goals(refine' R.BS ?a ?l ?c ?k;(case a=>k_is);(case l=>k_is);(case c=>k_is);(case k=>k_is))
